import PyProof.Rows.All
import Wide.All
import OpenK.AllK
import Wide.FinOn
import Lean
import PyProof.EqAt
import PyProof.EqKinds
import PyProof.TupleCall
import PyProof.Draws
import PyProof.ZipIter
import PyProof.SeqI3
import PyProof.CallStr
import PyProof.StrHeap
import PyProof.ReprBulk
import PyProof.Rows.ListRangeD
import PyProof.EnumFor
import PyProof.EnumStmt
import PyProof.EnumMake
import PyProof.AutoListH
import PyProof.RangeFor
import PyProof.Rows.Range3
import KE.KUnpack
import PyProof.ReprRoads
import PyProof.ReprLen
import PyProof.FitsInt
import PyProof.DictCompW
import KE.KDictSum
import PyProof.NeKinds
import PyProof.SumWalk
import PySem.Challenge.RW_nearpool_k11_rows_seen_again
set_option compiler.extract_closed false
set_option genSizeOf false
set_option Elab.async false
set_option linter.all false
set_option maxRecDepth 100000
noncomputable section
def Daa:=@of_decide_eq_true
def Dab:=@decide_eq_false
def Dac:=@decide_eq_true
abbrev Waa:=PySem.W.Frag
def aaa:=@List.mem_cons
def aab:=@Bool.false_ne_true
def aac:=@Nat.le_refl
def aad:=@List.mem_append_right
def aae:=@List.mem_append_left
def aaf:=@List.append_assoc
def aag:=@List.length_map
def aah:=@List.getElem?_eq_some_iff
def aai:=@Nat.ne_of_lt
def aaj:=@List.mem_append
def aak:=@List.mem_cons_of_mem
def aal:=@List.mem_cons_self
def aam:=@List.size_toArray
def aan:=@List.map_cons
def aao:=@List.getElem?_eq_getElem
def aap:=@List.perm_middle
def aaq:=@List.getElem?_map
def aar:=@Nat.lt_of_lt_of_le
def aas:=@List.mem_singleton
def aat:=@Nat.le_trans
def aau:=@List.not_mem_nil
def aav:=@List.length_cons
def aaw:=@List.length_append
def aax:=@Bool.and_eq_true
def aay:=@List.map_append
def aaz:=@Ne.symm
def aaA:=@List.append_nil
def aaB:=@Option.bind_eq_some_iff
def aaC:=@List.nodup_append
def aaD:=@Option.some.inj
def aaE:=@Nat.zero_le
def aaF:=@List.nodup_cons
def aaG:=@List.set_cons_succ
def aaH:=@Array.length_toList
def aaI:=@Nat.ne_of_gt
def aaJ:=@Option.map_eq_some_iff
def aaK:=@List.replicate_succ
def aaL:=@List.cons_append
def aaM:=@Nat.lt_irrefl
def aaN:=@List.nil_append
def aaO:=@Nat.le_of_lt
def aaP:=@Nat.lt_succ_self
def aaQ:=@List.map_nil
def aaR:=@Array.getElem?_toList
def aaS:=@List.getElem?_set_self
def aaT:=@List.mem_of_getElem?
def aaU:=@List.any_cons
def aaV:=@List.lookup_cons
def aaW:=@Nat.lt_succ_of_lt
def aaX:=@Int.toNat_natCast
def aaY:=@List.find?_cons
def aaZ:=@List.mem_map
def aa0:=@List.length_take
def aa1:=@PySem.mem_of_lookup
def aa2:=@List.perm_append_comm
def aa3:=@List.getD_eq_getElem?_getD
def aa4:=@List.Perm.append_left
def aa5:=@List.map_map
def aa6:=@List.getElem?_set_ne
def aa7:=@PyProof.Rows.callWith_type1
def aa8:=@List.length_drop
def aa9:=@List.flatten_cons
def aba:=@Nat.lt_trans
def abb:=@Nat.le_add_right
def abc:=@Bool.or_eq_true
def abd:=@Array.getElem?_eq_getElem
def abe:=@List.pairwise_cons
def abf:=@List.all_eq_true
def abg:=@Option.isSome_iff_exists
def abh:=@Nat.lt_of_le_of_lt
def abi:=@Nat.le_succ
def abj:=@Nat.zero_add
def abk:=@Nat.lt_or_ge
def abl:=@Int.emod_nonneg
def abm:=@Int.emod_lt_of_pos
def abn:=@List.set_comm
def abo:=@Bool.eq_iff_iff
def abp:=@Nat.le_of_eq
def abq:=@List.getElem?_append_right
def abr:=@List.getElem?_append_left
def abt:=@List.length_replicate
def abu:=@List.zip_cons_cons
def abv:=@List.getElem?_drop
def abw:=@List.drop_eq_getElem_cons
def abx:=@List.getElem?_eq_none
def aby:=@Bool.and_eq_true_iff
def abz:=@Bool.not_eq_true'
def abA:=@PySem.W.mg_of
def abB:=@List.filterMap_cons
def abC:=@List.of_mem_zip
def abD:=@PyProof.Rows.slot_tuple_getitem
def abE:=@Bool.or_false
def abF:=@List.length_set
def abG:=@List.foldl_cons
def abH:=@List.forIn_cons
def abI:=@Nat.add_sub_cancel_left
def abJ:=@Array.getElem?_eq_none
def abK:=@Option.isSome_map
def abL:=@PySem.F.slot_dict_get
def abM:=@Int.le_trans
def abN:=@List.nodup_nil
def abO:=@List.set_cons_zero
def abP:=@List.perm_append_comm_assoc
def abQ:=@List.ext_getElem?
def abR:=@Classical.axiomOfChoice
def abS:=@List.pairwise_iff_getElem
def abT:=@Nat.not_lt_zero
def abU:=@List.getElem?_of_mem
def abV:=@List.length_range
def abW:=@List.drop_length
def abX:=@PySem.F.plainAttrs_list
def abY:=@Nat.add_le_add_left
def abZ:=@Int.zero_add
def ab0:=@List.getElem?_eq_none_iff
def ab1:=@PyProof.noPylong_small
def ab2:=@PySem.W.cellsFrom_some
def ab3:=@List.getElem?_replicate
def ab4:=@PySem.F.slot_tuple_add
def ab5:=@PySem.F.entry_tuple_add
def ab6:=@PySem.F.args_tuple_add_2
def ab7:=@List.length_singleton
def ab8:=@Nat.add_left_cancel
def ab9:=@PySem.F.entry_dict_get
def aca:=@PySem.F.args_dict_get_2
def acb:=@List.Perm.append_right
def acd:=@List.zip_eq_zipWith
def ace:=@List.mem_of_mem_drop
def acf:=@List.pairwise_lt_range
def acg:=@List.take_append_drop
def ach:=@List.pairwise_append
def aci:=@List.findIdx?_eq_some_iff_getElem
def acj:=@List.findIdx?_eq_none_iff
def ack:=@PySem.F.plain_set_new
def acl:=@List.length_eq_zero_iff
def acm:=@List.length_eraseIdx_of_lt
def acn:=@List.getElem?_toArray
def aco:=@PySem.F.slot_set_iter
def acp:=@PySem.F.plain_list_iadd
def acq:=@PySem.F.plain_extend_loop
def acr:=@Bool.or_eq_false_iff
def acs:=@List.map_congr_left
def acu:=@List.length_zipWith
def acv:=@Nat.add_le_add_right
def acw:=@Nat.le_of_ble_eq_true
def acx:=@Nat.mul_le_mul_left
def acy:=@List.getElem?_cons_succ
def acz:=@List.getElem?_range
def acA:=@List.length_filter_le
def acB:=@Int.toNat_of_nonneg
namespace L2
open PySem PySem.Spec PyProof.Rows
section
abbrev Key:=Sum Int Str
def keyIs:Key->Value->Bool
 |.inl k,v=>Value.isInt k v
 |.inr x,v=>Value.isStrOf x v
def keyH(w:World):Key->Int
 |.inl k=>hashInt k
 |.inr x=>hashStr w x
theorem aM:∀{k:Key}{v:Value},keyIs k v=true->(∃i t,k=Sum.inl i/\v=Value.int i t)\/(∃x t,k=Sum.inr x/\v=Value.str x t)
 |.inl i,v,h=>by obtain⟨t,e⟩:=Value.isInt_shape h;exact .inl ⟨i,t,rfl,e⟩
 |.inr x,v,h=>by obtain⟨t,e⟩:=Value.isStrOf_shape h;exact .inr ⟨x,t,rfl,e⟩
theorem m5(i:Int)(t:Tok):keyIs (.inl i) (.int i t)=true:=by simp[keyIs,Value.isInt]
theorem m6(x:Str)(t:Tok):keyIs (.inr x) (.str x t)=true:=by simp[keyIs,Value.isStrOf]
theorem v9(a b:Int):decide ((Sum.inl a:Key)=Sum.inl b)=(a==b):=by
 by_cases e:a=b
 ·subst e;simp
 ·have h:¬ (Sum.inl a:Key)=Sum.inl b:=λq=>e (Sum.inl.inj q);rw[Dab h];exact(beq_eq_false_iff_ne.mpr e).symm
theorem wa(a b:Str):decide ((Sum.inr a:Key)=Sum.inr b)=decide (a=b):=by
 by_cases e:a=b
 ·subst e;simp
 ·have h:¬ (Sum.inr a:Key)=Sum.inr b:=λq=>e (Sum.inr.inj q);rw[Dab h,Dab e]
theorem wb(a:Int)(b:Str):decide ((Sum.inl a:Key)=Sum.inr b)=false:=Dab (λq=>nomatch q)
theorem wc(a:Str)(b:Int):decide ((Sum.inr a:Key)=Sum.inl b)=false:=Dab (λq=>nomatch q)
def aB(prog:Program)(w:World):PySem.KeyKind prog w Key where
 is:=keyIs
 hash:=keyH w
 inj:=λv a b f d=>by
  rcases aM f with ⟨i,t,rfl,rfl⟩|⟨x,t,rfl,rfl⟩
  ·rcases aM d with ⟨j,u,rfl,e⟩|⟨y,u,rfl,e⟩
   ·injection e with e1 _;rw[e1]
   ·exact nomatch e
  ·rcases aM d with ⟨j,u,rfl,e⟩|⟨y,u,rfl,e⟩
   ·exact nomatch e
   ·injection e with e1 _;rw[e1]
 byValue:=λk v h=>by rcases aM h with ⟨i,t,rfl,rfl⟩|⟨x,t,rfl,rfl⟩<;>rfl
 pyHash:=λc h=>by
  rcases aM c with ⟨i,t,rfl,rfl⟩|⟨x,t,rfl,rfl⟩
  ·exact wpAny_pyHash_int h
  ·exact wpAny_pyHash_str h
 eqBool:=λg c h=>by
  rcases aM g with ⟨i,t,rfl,rfl⟩|⟨x,t,rfl,rfl⟩
  ·rcases aM c with ⟨j,u,rfl,rfl⟩|⟨y,u,rfl,rfl⟩
   ·rw[v9]at h;exact wpAny_eqBool_int h
   ·rw[wb]at h;exact SeqAt.EqAt.int_str i t y u _ _ _ _ h
  ·rcases aM c with ⟨j,u,rfl,rfl⟩|⟨y,u,rfl,rfl⟩
   ·rw[wc]at h;exact SeqAt.EqAt.str_int x t j u _ _ _ _ h
   ·rw[wa]at h;exact wpAny_eqBool_str h
 «strs»:=λk x t v h=>by
  rcases aM h with ⟨i,u,rfl,e⟩|⟨y,u,rfl,e⟩
  ·exact nomatch e
  ·injection e with e1 _;subst e1;cases v<;>rfl
theorem jo(prog:Program)(w:World)(i:Int)(t:Tok):(aB prog w).is (.inl i) (.int i t)=true:=m5 i t
theorem mixKind_str(prog:Program)(w:World)(x:Str)(t:Tok):(aB prog w).is (.inr x) (.str x t)=true:=m6 x t
end
section
inductive V where
 |non|bl (b:Bool)|int (i:Int)|str (x:Str)|byt (b:Array UInt8)|flt (b:UInt64)|ref (a:Addr)|ty (n:String)
 deriving DecidableEq
def RelV:V->Value->Prop
 |.non,u=>u=Value.none
 |.bl b,u=>u=Value.bool b
 |.int i,u=>∃t,u=Value.int i t
 |.str x,u=>∃t,u=Value.str x t
 |.byt b,u=>∃t,u=Value.bytes b t
 |.flt b,u=>∃t,u=Value.float b t
 |.ref a,u=>u=Value.ref a
 |.ty n,u=>u=Value.type n
abbrev Vals:List V->List Value->Prop:=Paired RelV
theorem Vals.length{xs:List V}{us:List Value}(r:Vals xs us):xs.length=us.length:=Paired.length r
theorem Vals.get:∀{xs:List V}{us:List Value}{i:Nat}{x:V},Vals xs us->xs[i]?=some x->∃u,us[i]?=some u/\RelV x u
 |_,_,_,_,.nil,e=>by simp at e
 |_,_,0,_,.cons r _,e=>by simp at e;subst e;exact⟨_,rfl,r⟩
 |_,_,i+1,x,.cons _ t,e=>by obtain⟨u,a,b⟩:=Vals.get (i:=i) (x:=x) t (by simpa using e);exact⟨u,by simpa using a,b⟩
theorem Vals.set(r:RelV x u):∀{xs:List V}{us:List Value} (i:Nat),Vals xs us->Vals (xs.set i x) (us.set i u)
 |_,_,_,.nil=>.nil
 |_,_,0,.cons _ t=>.cons r t
 |_,_,i+1,.cons q t=>.cons q (Vals.set r i t)
theorem Vals.append:∀{xs ys:List V}{us ws:List Value},Vals xs us->Vals ys ws->Vals (xs++ys) (us++ws)
 |_,_,_,_,.nil,s=>s
 |_,_,_,_,.cons r t,s=>.cons r (Vals.append t s)
theorem Vals.take:∀{xs:List V}{us:List Value} (n:Nat),Vals xs us->Vals (xs.take n) (us.take n)
 |_,_,0,_=>.nil
 |_,_,_+1,.nil=>.nil
 |_,_,n+1,.cons r t=>.cons r (Vals.take n t)
theorem Vals.drop:∀{xs:List V}{us:List Value} (n:Nat),Vals xs us->Vals (xs.drop n) (us.drop n)
 |_,_,0,r=>r
 |_,_,_+1,.nil=>.nil
 |_,_,n+1,.cons _ t=>Vals.drop n t
theorem Vals.none_of:∀{xs:List V}{us:List Value}{i:Nat},Vals xs us->xs[i]?=none->us[i]?=none:=λ{xs us i} r e=>by have a:=r.length;have b:xs.length<=i:=ab0.mp e;exact ab0.mpr (by omega)
def RelO:Option V->Option Value->Prop
 |some v,some u=>RelV v u
 |none,none=>True
 |_,_=>False
def KV{a:Type}:List (a×V)->List (a×Value)->Prop:=Paired λ(p:a×V) (q:a×Value)=>p.1=q.1/\RelV p.2 q.2
def kV:Key->V
 |.inl i=>.int i
 |.inr x=>.str x
inductive HO where
 |lst (xs:List V)
 |tup (xs:List V)
 |dK (kvs:List (Key×V))|dT (kvs:List (List Key×V))
 |set (S:Int->Bool) (n:Nat)
 |ins (C dx:Addr) (fs:List (Str×V))
 |own (x:Addr)
 |xd (fs:List (Str×V))
 |met (f x:Addr)
 |rng (lo hi:Int)
 |frz (o:Obj) (u:HO)
 |tbl (ps:Array Value)
 |ext (φ:Heap->Prop)
abbrev Hp:=Addr->Option HO
def upd(H:Hp)(a:Addr)(o:HO):Hp:=λb=>if b=a then some o else H b
theorem av{H:Hp}:upd H a o a=some o:=by unfold upd;rw[if_pos rfl]
theorem upd_ne{H:Hp}(h:b≠a):upd H a o b=H b:=by unfold upd;rw[if_neg h]
theorem zj{H:Hp}(h:H a=some o)(h':H b=some u)(d:o≠u):a≠b:=by intro e;subst e;rw[h]at h';exact d (aaD h')
theorem ah{H:Hp}(h:H a=some o)(h':H b=none):a≠b:=by intro e;subst e;rw[h]at h';cases h'
section
variable(P:Program)(w:World)
def CI(h:Heap)(a:Addr)(items:Array Value):Prop:=∃o,h.get? a=some o/\o.cls=.type "tuple"/\∃n,o.data=.seq items n/\o.dict=none
def ObjOk(H:Hp)(h:Heap)(a:Addr):HO->Prop
 |.lst xs=>xs.length<=sizeLine/\∃(b:List Value) (n:Nat),Vals xs b/\h.get? a=some { cls:=.type "list",data:=.seq b.toArray n }
 |.tup xs=>xs.length<=sizeLine/\∃b:List Value,Vals xs b/\CI h a b.toArray
 |.dK kvs=>kvs.length<=sizeLine/\(a==sysModules)=false/\∃i,KV kvs i/\h.DictOf (aB P w) a i
 |.dT kvs=>kvs.length<=sizeLine/\(a==sysModules)=false/\∃xs:List (List Key×Addr×Value),
   Paired (λ(p:List Key×V) (q:List Key×Addr×Value)=>p.1=q.1/\H q.2.1=some (.tup (p.1.map kV))/\RelV p.2 q.2.2) kvs xs /\
   ∃o e j,h.get? a=some o/\o.ExactDict/\o.data=.dict e j/\e.toList=xs.map (entryOfKey (tupleKind (aB P w)))/\(xs.map (·.1)).Nodup
 |.set S n=>h.SetOf (intKind P w) a S n
 |.ins C dx fs=>H dx=some (.own a)/\fs.length<=1000/\dx≠a/\h.get? a=some (PySem.W.instObj C dx) /\
   ∃c,h.Ns1 dx c/\(∀f,RelO (fs.lookup f) (c f))/\PySem.Within c (fs.map (·.1))
 |.own _=>∃o,h.get? a=some o
 |.xd fs=>∃c,h.Ns1 a c/\∀f,RelO (fs.lookup f) (c f)
 |.rng lo hi=>∃t u v,h.get? a=some { cls:=.type "range",data:=.fields #[.int lo t,.int hi u,.int 1 v] }
 |.frz o u=>h.get? a=some o/\ObjOk H h a u
 |.tbl ps=>h.get? a=some { cls:=.none,data:=.fields ps }
 |.met f x=>h.get? a=some (PySem.W.methodObj (.ref f) (.ref x))
 |.ext φ=>φ h/\(∃o,h.get? a=some o)/\∀g d:Heap,φ g->(∀o,g.get? a=some o->d.get? a=some o)->φ d
def HOk(H:Hp)(h:Heap):Prop:=∀a o,H a=some o->ObjOk P w H h a o
end
section
variable{P:Program}{w:World}{H H':Hp}{h h':Heap}{a:Addr}{o:HO}
theorem ObjOk.lt(x:ObjOk P w H h a o):a<h.objs.size:=by
 cases o with
 |lst c=>obtain⟨_,_,_,_,e⟩:=x;exact Heap.lt_size e
 |tup c=>obtain⟨_,_,_,o,e,_⟩:=x;exact Heap.lt_size e
 |dK b=>obtain⟨_,_,_,_,o,_,_,e,_⟩:=x;exact Heap.lt_size e
 |dT b=>obtain⟨_,_,_,_,o,_,_,e,_⟩:=x;exact Heap.lt_size e
 |set S n=>obtain⟨o,_,_,_,e,_⟩:=x;exact Heap.lt_size e
 |ins C m d=>obtain⟨_,_,_,e,_⟩:=x;exact Heap.lt_size e
 |own y=>obtain⟨_,e⟩:=x;exact Heap.lt_size e
 |xd d=>obtain⟨_,⟨_,_,_,e,_⟩,_⟩:=x;exact Heap.lt_size e
 |rng l j=>obtain⟨_,_,_,e⟩:=x;exact Heap.lt_size e
 |frz k u=>obtain⟨e,_⟩:=x;exact Heap.lt_size e
 |tbl i=>exact Heap.lt_size (show h.get? a=some _ from x)
 |met f y=>exact Heap.lt_size (show h.get? a=some _ from x)
 |ext g=>obtain⟨_,⟨_,e⟩,_⟩:=x;exact Heap.lt_size e
theorem Paired.mapP{e g:Type}{F G:e->g->Prop}:∀{d:List e}{c:List g},Paired F d c->(∀a b,F a b->G a b)->Paired G d c
 |_,_,.nil,_=>.nil
 |_,_,.cons r t,f=>.cons (f _ _ r) (Paired.mapP t f)
theorem ObjOk.kv(x:ObjOk P w H h a o)(k:∀b u,(b=a\/H b=some (.own a))->h.get? b=some u->h'.get? b=some u)
  (J:∀b,H b=some (.own a)->H' b=some (.own a)) (N:∀b xs,H b=some (.tup xs)->H' b=some (.tup xs)):ObjOk P w H' h' a o:=by
 induction o with
 |lst xs=>obtain⟨z,l,n,r,e⟩:=x;exact⟨z,l,n,r,k _ _ (.inl rfl) e⟩
 |tup xs=>obtain⟨z,l,r,g,e,c⟩:=x;exact⟨z,l,r,g,k _ _ (.inl rfl) e,c⟩
 |dK m=>obtain⟨z,y,O,r,g,i,j,e,c⟩:=x;exact⟨z,y,O,r,g,i,j,k _ _ (.inl rfl) e,c⟩
 |dT m=>obtain⟨z,y,xs,r,g,i,j,e,c⟩:=x;exact⟨z,y,xs,Paired.mapP r λp q z=>⟨z.1,N _ _ z.2.1,z.2.2⟩,g,i,j,k _ _ (.inl rfl) e,c⟩
 |set S n=>obtain⟨g,i,j,t,e,c⟩:=x;exact⟨g,i,j,t,k _ _ (.inl rfl) e,c⟩
 |ins C X L=>obtain⟨d,z,I,e,A,⟨s,i,j,G,c⟩,r⟩:=x;exact⟨J _ d,z,I,k _ _ (.inl rfl) e,A,⟨s,i,j,k _ _ (.inr d) G,c⟩,r⟩
 |own y=>obtain⟨g,e⟩:=x;exact⟨g,k _ _ (.inl rfl) e⟩
 |xd L=>obtain⟨A,⟨s,i,j,e,c⟩,r⟩:=x;exact⟨A,⟨s,i,j,k _ _ (.inl rfl) e,c⟩,r⟩
 |rng T U=>obtain⟨t,u,v,e⟩:=x;exact⟨t,u,v,k _ _ (.inl rfl) e⟩
 |frz g u M=>obtain⟨e,q⟩:=x;exact⟨k _ _ (.inl rfl) e,M q⟩
 |tbl B=>have e:h.get? a=some { cls:=.none,data:=.fields B }:=x;show h'.get? a=some { cls:=.none,data:=.fields B };exact k a _ (.inl rfl) e
 |met f y=>have e:h.get? a=some (PySem.W.methodObj (.ref f) (.ref y)):=x;show h'.get? a=some (PySem.W.methodObj (.ref f) (.ref y));exact k a _ (.inl rfl) e
 |ext Q=>obtain⟨p,⟨o,e⟩,D⟩:=x;exact⟨D _ _ p λo q=>k _ _ (.inl rfl) q,⟨o,k _ _ (.inl rfl) e⟩,D⟩
theorem HOk.lt(x:HOk P w H h)(e:H a=some o):a<h.objs.size:=(x a o e).lt
theorem HOk.fresh(x:HOk P w H h)(e:h.objs.size<=a):H a=none:=by
 cases q:H a with
 |none=>rfl
 |some u=>exact absurd (aar (x.lt q) e) (aaM _)
theorem HOk.kept(x:HOk P w H h)(k:∀b u,h.get? b=some u->h'.get? b=some u):HOk P w H h':=λa o e=>
 (x a o e).kv (λb u _ q=>k b u q) (λ_ q=>q) λ_ _ q=>q
theorem HOk.laid(x:HOk P w H h)(k:∀b u,h.get? b=some u->h'.get? b=some u)(i:h.objs.size<=a)(d:ObjOk P w (upd H a o) h' a o):HOk P w (upd H a o) h':=λb u e=>by
 have f:=x.fresh i;by_cases g:b=a
 ·subst g;rw[av]at e;cases e;exact d
 ·rw[upd_ne g]at e;exact(x b u e).kv (λc v _ q=>k c v q) (λc q=>by rw[upd_ne (ah q f)];exact q) λc j q=>by rw[upd_ne (ah q f)];exact q
end
def Rd(H:Hp)(a:Addr)(u:HO):Prop:=H a=some u\/∃o,H a=some (.frz o u)
theorem Rd.of(h:H a=some u):Rd H a u:=.inl h
theorem Rd.ok{P:Program}{w:World}(r:Rd H a u)(x:HOk P w H h):ObjOk P w H h a u:=by
 rcases r with r|⟨o,r⟩
 ·exact x a u r
 ·obtain⟨_,q⟩:=x a _ r;exact q
def zl:Option HO->Prop
 |some (.lst _)=>True
 |some (.dK _)=>True
 |some (.dT _)=>True
 |some (.set _ _)=>True
 |some (.ins _ _ _)=>True
 |some (.ext _)=>True
 |_=>False
section
variable{P:Program}{w:World}{H:Hp}{h h':Heap}{x e:Addr}{o':HO}
theorem HOk.write(t:HOk P w H h)(g:zl (H x))(p:e=x\/H e=some (.own x))(k:∀b u,b≠e->h.get? b=some u->h'.get? b=some u)(m:∃u,h'.get? e=some u)
  (n:ObjOk P w (upd H x o') h' x o'):HOk P w (upd H x o') h':=λb u q=>by
 have d:∀c y,H c=some (.own y)->c≠x:=λc y r z=>by subst z;rw[r]at g;exact g
 have f:∀c i,H c=some (.tup i)->c≠x:=λc i r z=>by subst z;rw[r]at g;exact g
 by_cases j:b=x
 ·subst j;rw[av]at q;cases q;exact n
 ·rw[upd_ne j]at q;by_cases a:b=e
  ·have o:H b=some (.own x):=by
    rcases p with z|z
    ·exact absurd (a.trans z) j
    ·rw[a];exact z
   rw[q]at o;cases o;obtain⟨v,s⟩:=m;exact⟨v,by rw[a];exact s⟩
  ·refine(t b u q).kv (λc v l r=>k c v ?_ r) (λc r=>by rw[upd_ne (d c b r)];exact r) λc i r=>by rw[upd_ne (f c i r)];exact r
   rcases l with rfl|l
   ·exact a
   ·rintro rfl;rcases p with z|z
    ·exact d c b l z
    ·rw[l]at z;cases z;exact j rfl
end
structure Un (fs ex:List Addr)(H H':Hp)(h h':Heap):Prop where
 keep:∀b o,h.get? b=some o->H b=none->b ∉ fs->b ∉ ex->h'.get? b=some o
 slot:∀b o,h.get? b=some o->H b=none->b∈fs->b ∉ ex->∃sl,h'.get? b=some { o with slots:=sl }
 free:∀b o,h.get? b=some o->H b=none->b ∉ ex->H' b=none
 there:∀b o,h.get? b=some o->b ∉ ex->∃o',h'.get? b=some o'
 tups:∀b xs,H b=some (.tup xs)->H' b=some (.tup xs)
 frzs:∀b o u,H b=some (.frz o u)->H' b=some (.frz o u)
 tbls:∀b ps,H b=some (.tbl ps)->∃more,H' b=some (.tbl (ps++more))
section
variable{fs fs' ex ex':List Addr}{H H1 H2:Hp}{h h1 h2 h':Heap}{a x e:Addr}{o:HO}
theorem Un.any(u:Un fs ex H H1 h h1){b:Addr}{c:Obj}(q:h.get? b=some c)(n:H b=none)(d:b ∉ ex):∃g,h1.get? b=some { c with slots:=g }:=by
 by_cases f:b∈fs
 ·exact u.slot b c q n f d
 ·exact⟨c.slots,u.keep b c q n f d⟩
theorem Un.trans(a:Un fs ex H H1 h h1)(b:Un fs ex H1 H2 h1 h2):Un fs ex H H2 h h2 where
 keep:=λc f q n j d=>b.keep c f (a.keep c f q n j d) (a.free c f q n d) j d
 slot:=λc f q n j d=>by obtain⟨t,g⟩:=a.slot c f q n j d;obtain⟨l,k⟩:=b.slot c _ g (a.free c f q n d) j d;exact⟨l,k⟩
 free:=λc f q n d=>by obtain⟨m,g⟩:=a.there c f q d;exact b.free c m g (a.free c f q n d) d
 there:=λc f q d=>by obtain⟨m,g⟩:=a.there c f q d;exact b.there c m g d
 tups:=λc i q=>b.tups c i (a.tups c i q)
 frzs:=λc f i q=>b.frzs c f i (a.frzs c f i q)
 tbls:=λc p q=>by obtain⟨r,g⟩:=a.tbls c p q;obtain⟨s,k⟩:=b.tbls c _ g;exact⟨r++s,by rw[k,Array.append_assoc]⟩
theorem Un.kept(k:∀b u,h.get? b=some u->h'.get? b=some u):Un fs ex H H h h':=
 ⟨λb c q _ _ _=>k b c q,λb c q _ _ _=>⟨c.slots,k b c q⟩,λ_ _ _ n _=>n,λb c q _=>⟨c,k b c q⟩,λ_ _ q=>q,λ_ _ _ q=>q,λ_ d q=>⟨#[],by rw[q];simp⟩⟩
theorem Un.refl:Un fs ex H H h h:=Un.kept λ_ _ q=>q
theorem Un.laid(k:∀b u,h.get? b=some u->h'.get? b=some u)(d:h.objs.size<=a)(c:H a=none):Un fs ex H (upd H a o) h h' where
 keep:=λb u q _ _ _=>k b u q
 slot:=λb u q _ _ _=>⟨u.slots,k b u q⟩
 free:=λb u q n _=>by rw[upd_ne (aai (aar (Heap.lt_size q) d))];exact n
 there:=λb u q _=>⟨u,k b u q⟩
 tups:=λb f q=>by rw[upd_ne (ah q c)];exact q
 frzs:=λb u f q=>by rw[upd_ne (ah q c)];exact q
 tbls:=λb g q=>⟨#[],by rw[upd_ne (ah q c),q];simp⟩
theorem Un.write(d:zl (H x))(l:e=x\/H e=some (.own x))(k:∀b u,b≠e->h.get? b=some u->h'.get? b=some u)(g:∃u,h'.get? e=some u):Un fs ex H (upd H x o) h h':=by
 have i:∀b,H b=none->b≠x:=λb n z=>by subst z;rw[n]at d;exact d
 have j:∀b,H b=none->b≠e:=λb n z=>by
  subst z;rcases l with r|r
  ·exact i b n r
  ·rw[n]at r;cases r
 have f:∀b u,H b=some u->¬ zl (some u)->b≠x:=λb u q p z=>by subst z;rw[q]at d;exact p d
 refine⟨λb u q n _ _=>k b u (j b n) q,λb u q n _ _=>⟨u.slots,k b u (j b n) q⟩,λb u q n _=>by rw[upd_ne (i b n)];exact n,λb u q _=>?_,
  λb m q=>by rw[upd_ne (f b _ q λz=>z)];exact q,λb u m q=>by rw[upd_ne (f b _ q λz=>z)];exact q,λb s q=>⟨#[],by rw[upd_ne (f b _ q λz=>z),q];simp⟩⟩
 by_cases c:b=e
 ·subst c;exact g
 ·exact⟨u,k b u c q⟩
theorem Un.mono(u:Un fs ex H H1 h h1)(g:∀b∈fs,b∈fs')(f:∀b∈ex,b∈ex'):Un fs' ex' H H1 h h1:=
 ⟨λb d q n i c=>u.keep b d q n (λz=>i (g b z)) λz=>c (f b z),λ_ _ q n _ c=>u.any q n λz=>c (f _ z),λb d q n c=>u.free b d q n λz=>c (f b z),λb d q c=>u.there b d q λz=>c (f b z),u.tups,u.frzs,u.tbls⟩
end
def trk(h:Heap)(H:Hp):List Addr:=(List.range h.objs.size).filter λa=>(H a).isSome
def iy(h:Heap)(H:Hp):Heap:=PySem.W.hideAll h (trk h H)
theorem m7(h:Heap)(H:Hp):(iy h H).objs.size=h.objs.size:=PySem.W.hideAll_size _ _
theorem hidT_get(e:h.get? b=some o)(n:H b=none):(iy h H).get? b=some o:=
 PySem.W.hideAll_get _ e λa=>by have q:(H b).isSome=true:=(List.mem_filter.mp a).2;rw[n]at q;simp at q
theorem sx(e:(iy h H).get? b=some o):h.get? b=some o/\H b=none:=by
 have a:h.get? b=some o:=PySem.W.of_hideAll (trk h H) e;refine⟨a,?_⟩;cases q:H b with
 |none=>rfl
 |some x=>have c:b∈trk h H:=List.mem_filter.mpr ⟨List.mem_range.mpr (Heap.lt_size a),by simp[q]⟩;have z:(iy h H).get? b=none:=PySem.W.hideAll_none (trk h H) c;rw[z]at e;cases e
def sy(g h:Heap)(L:Addr):List (Addr×Obj):=(List.range h.objs.size).filterMap λa=>if a=L\/(g.get? a).isSome=true then none else (h.get? a).map λo=>(a,o)
def rest(g h:Heap)(L d:Addr):List (Addr×Obj):=(sy g h L).filter λp=>decide (p.1≠d)
end
section
structure Mod (K:Waa)(mg:Str->Option Value)(base:Heap):Prop where
 kin:K.In base
 glob:base.Ns mainGlobals mg
 blt:∃mb,base.Ns builtinsNs mb/\∀x:Str,x≠"__name__"->mb x=bootBuiltins x
 nolimit:base.NoLimit
structure Cx where
 prog:Program
 w:World
 K:Waa
 mg:Str->Option Value
 base:Heap
 A:Around
 N:List Str
 s₀:Shared
 H₀:Hp
 env:Env
 outer:List Env
 stack:List Env
 ex:List Addr
 fn:Str->Bool
 calm:Bool
 pn:List (Addr×Obj)
 xe:Value->Shared->Prop
def oO(l:List Env):List Addr:=l.filterMap (·.frame)
abbrev Cx.fs(X:Cx):List Addr:=oO X.outer
def Vis(sc:Scope)(x:Str):Prop:=sc.names.lookup x=some .local\/sc.names.lookup x=some .cell\/sc.names.lookup x=some .free
def Loc(sc:Scope)(x:Str):Prop:=sc.names.lookup x=some .local\/sc.names.lookup x=some .cell
def Look(env:Env)(h:Heap)(m:Str->Option Value)(x:Str)(u:Value):Prop:=
 (env.kindOf x=some .local/\m x=some u)\/((env.kindOf x=some .cell\/env.kindOf x=some .free)/\∃c,env.cells.lookup x=some c/\h.IsCell c (some u))
structure Cx.Ok (X:Cx):Prop where
 mod:Mod X.K X.mg X.base
 kind:X.env.scope.kind=.function
 glob:X.env.globals=mainGlobals
 blt:X.env.builtins=builtinsNs
 above:X.s₀.heap.objs.size<=X.env.locals
 inj:∀x y c,X.env.cells.lookup x=some c->X.env.cells.lookup y=some c->x=y
 has:∀x,(X.env.kindOf x=some .cell\/X.env.kindOf x=some .free)->∃c,X.env.cells.lookup x=some c
 cab:∀x c,X.fn x=true->X.env.cells.lookup x=some c->X.s₀.heap.objs.size<=c
 hd:X.calm=true->X.A.handled=none
 frames:X.A.frames=some X.stack
 stk:X.stack=X.outer\/(X.stack=X.env::X.outer/\X.env.frame=some X.env.locals)
 exf:∀b∈X.ex,b≠X.env.locals/\∀x c,X.env.cells.lookup x=some c->c≠b
 bs:∀b o,X.base.get? b=some o->X.s₀.heap.get? b=some o/\X.H₀ b=none
 bsz:X.base.objs.size<=X.s₀.heap.objs.size
 noex:∀b o,X.base.get? b=some o->b ∉ X.ex
 exfs:∀b∈X.ex,b ∉ X.fs
 funs:X.s₀.heap.FunFrames X.base X.outer
 frf:∀b∈X.fs,X.H₀ b=none
structure Inv (X:Cx)(pins:List (Addr×Obj))(σ:List (Option V))(H:Hp)(s:Shared):Prop where
 ok:X.Ok
 os:s.os=X.s₀.os
 bare:AllBare s.gens
 base:Un X.fs X.ex X.H₀ H X.s₀.heap s.heap
 loc:∃m,s.heap.Ns X.env.locals m/\∀(i:Nat) (x:Str) (v:V),X.N[i]?=some x->σ[i]?=some (some v)->Vis X.env.scope x->∃u,RelV v u/\Look X.env s.heap m x u
 cell:∀x c,X.env.cells.lookup x=some c->∃v,s.heap.IsCell c v
 free:H X.env.locals=none
 freeC:∀x c,X.env.cells.lookup x=some c->H c=none
 pin:∀p∈X.pn++pins,s.heap.get? p.1=some p.2/\H p.1=none/\p.1≠X.env.locals/\p.1 ∉ X.fs/\∀v,p.2.data≠.cell v
 hok:HOk X.prog X.w H s.heap
 len:σ.length=X.N.length
section
variable{X:Cx}{pins:List (Addr×Obj)}{σ:List (Option V)}{H H':Hp}{s:Shared}{h':Heap}
theorem Cx.Ok.nofr(a:X.Ok)(e:X.base.get? b=some o):b ∉ X.fs:=λc=>by have:=(a.funs.mem c).1;rw[e]at this;cases this
theorem Inv.bs(I:Inv X pins σ H s):∀b o,X.base.get? b=some o->s.heap.get? b=some o/\H b=none:=λb o e=>
 ⟨I.base.keep b o (I.ok.bs b o e).1 (I.ok.bs b o e).2 (I.ok.nofr e) (I.ok.noex b o e),I.base.free b o (I.ok.bs b o e).1 (I.ok.bs b o e).2 (I.ok.noex b o e)⟩
theorem Inv.bk(I:Inv X pins σ H s):∀b o,X.base.get? b=some o->s.heap.get? b=some o:=λb o e=>(I.bs b o e).1
theorem Inv.mod(I:Inv X pins σ H s):Mod X.K X.mg X.base:=I.ok.mod
theorem Inv.xc(I:Inv X pins σ H s):X.K.In s.heap:=I.ok.mod.kin.keeps I.bk
theorem Inv.nolimit(I:Inv X pins σ H s):s.heap.NoLimit:=I.ok.mod.nolimit.keeps I.bk
theorem Inv.fr(I:Inv X pins σ H s):∃m,Fr X.base X.env.locals s.heap m:=
 let ⟨m,a,_⟩:=I.loc
 ⟨m,a,I.bk,aat I.ok.bsz I.ok.above⟩
theorem Inv.lt(I:Inv X pins σ H s):X.env.locals<s.heap.objs.size:=let ⟨_,a,_⟩:=I.loc;a.lt
theorem Inv.sz(I:Inv X pins σ H s):X.s₀.heap.objs.size<=s.heap.objs.size:=aat I.ok.above (aaO I.lt)
theorem Inv.nofs(I:Inv X pins σ H s)(h:s.heap.objs.size<=a):a ∉ X.fs:=λc=>by obtain⟨_,o,b,_⟩:=I.ok.funs.mem c;exact absurd (aar (Heap.lt_size b) (aat I.sz h)) (aaM _)
theorem Inv.cne(I:Inv X pins σ H s):∀x c,X.env.cells.lookup x=some c->c≠X.env.locals:=λx c e z=>by obtain⟨v,o,d,f⟩:=I.cell x c e;obtain⟨m,⟨h,g,i,a,b,_⟩,_⟩:=I.loc;rw[z,a]at d;cases d;rw[b]at f;cases f
theorem Inv.funs(I:Inv X pins σ H s):s.heap.FunFrames X.base X.outer:=by
 have c:∀(l:List Env),(∀b∈oO l,b∈X.fs)->X.s₀.heap.FunFrames X.base l->s.heap.FunFrames X.base l:=by
  intro l;induction l with
  |nil=>intro _ _;trivial
  |cons p r m=>intro g k;obtain⟨j,⟨L,o,a,h,i,n⟩,q⟩:=k;have d:L∈X.fs:=g L (by unfold oO;rw[abB,a];exact aal);obtain⟨t,e⟩:=I.base.slot L o i (I.ok.frf L d) d λz=>I.ok.exfs L z d;exact⟨j,⟨L,_,a,h,e,n⟩,m (λb f=>g b (by unfold oO;rw[abB,a];exact aak _ f)) q⟩
 exact c X.outer (λ_ f=>f) I.ok.funs
theorem Inv.stack(I:Inv X pins σ H s):s.heap.FunFrames X.base X.stack:=by
 rcases I.ok.stk with e|⟨e,a⟩
 ·rw[e];exact I.funs
 ·rw[e];obtain⟨m,b,_⟩:=I.loc;refine .cons (by rw[I.ok.kind];decide) a b ?_ I.funs;exact Heap.get?_none_of_le (aat I.ok.bsz I.ok.above)
theorem Inv.n7(I:Inv X pins σ H s):∀b∈oO X.stack,b∈X.env.locals::X.fs:=λb a=>by
 rcases I.ok.stk with e|⟨e,c⟩
 ·rw[e]at a;exact aak _ a
 ·rw[e]at a;unfold oO at a;rw[abB,c]at a;exact a
theorem Inv.rr(I:Inv X pins σ H s):∀b∈oO X.stack,H b=none:=λb a=>by
 rcases aaa.mp (I.n7 b a) with e|a
 ·rw[e];exact I.free
 ·obtain⟨_,o,c,_⟩:=I.ok.funs.mem a;exact I.base.free b o c (I.ok.frf b a) λz=>I.ok.exfs b z a
theorem Inv.step{g':Array GenState}{t':Nat}{d':Drawn}{ch:List Addr}(I:Inv X pins σ H s)
  (t:∀b∈ch,(b∈X.ex\/X.s₀.heap.objs.size<=b)/\b≠X.env.locals/\(∀x c,X.env.cells.lookup x=some c->c≠b)/\∀p∈X.pn++pins,p.1≠b)
  (g:∀b o,b≠X.env.locals->b ∉ X.fs->b ∉ ch->s.heap.get? b=some o->H b=none->h'.get? b=some o)
  (B:∀b o,b≠X.env.locals->b∈X.fs->b ∉ ch->s.heap.get? b=some o->H b=none->∃sl,h'.get? b=some { o with slots:=sl }) (f:∀b o,b ∉ ch->s.heap.get? b=some o->H b=none->H' b=none)
  (D:∀b o,b ∉ ch->s.heap.get? b=some o->∃Q,h'.get? b=some Q)
  (M:∀b C,H b=some (.tup C)->H' b=some (.tup C)) (S:∀b o u,H b=some (.frz o u)->H' b=some (.frz o u)) (N:∀b U,H b=some (.tbl U)->∃T,H' b=some (.tbl (U++T)))
  (ns:∀m,s.heap.Ns X.env.locals m->h'.Ns X.env.locals m) (Y:HOk X.prog X.w H' h') (hg:AllBare g'):
  Inv X pins σ H' { s with heap:=h',gens:=g',drawn:=d',toks:=t' }:=by
 have O:∀b o,X.s₀.heap.get? b=some o->b≠X.env.locals:=λb o e=>aai (aar (Heap.lt_size e) I.ok.above);have y:∀b o,X.s₀.heap.get? b=some o->b ∉ X.ex->b ∉ ch:=λb o e a G=>by
  rcases (t b G).1 with z|z
  ·exact a z
  ·exact absurd (aar (Heap.lt_size e) z) (aaM _)
 have h:∀x c,X.env.cells.lookup x=some c->∀v,s.heap.IsCell c v->h'.IsCell c v:=λx c e v ⟨o,J,hd⟩=>by
  have j:c ∉ ch:=λz=>(t c z).2.2.1 x c e rfl;by_cases hc:c∈X.fs
  ·obtain⟨sl,q⟩:=B c o (I.cne x c e) hc j J (I.freeC x c e);exact⟨_,q,hd⟩
  ·exact⟨o,g c o (I.cne x c e) hc j J (I.freeC x c e),hd⟩
 refine⟨I.ok,I.os,hg,⟨λb o e n G a=>?_,λb o e n G a=>?_,λb o e n a=>?_,λb o e a=>?_,λb C e=>M b C (I.base.tups b C e),λb o C e=>S b o C (I.base.frzs b o C e),λb U e=>?_⟩,?_,λx c e=>?_,?_,λx c e=>?_,λp hp=>?_,Y,I.len⟩
 ·exact g b o (O b o e) G (y b o e a) (I.base.keep b o e n G a) (I.base.free b o e n a)
 ·obtain⟨sl,A⟩:=I.base.slot b o e n G a;obtain⟨Z,L⟩:=B b _ (O b o e) G (y b o e a) A (I.base.free b o e n a);exact⟨Z,L⟩
 ·obtain⟨Q,A⟩:=I.base.there b o e a;exact f b Q (y b o e a) A (I.base.free b o e n a)
 ·obtain⟨Q,A⟩:=I.base.there b o e a;exact D b Q (y b o e a) A
 ·obtain⟨m1,A⟩:=I.base.tbls b U e;obtain⟨m2,L⟩:=N b _ A;exact⟨m1++m2,by rw[L,Array.append_assoc]⟩
 ·obtain⟨m,hn,hl⟩:=I.loc;refine⟨m,ns m hn,λi x v A L e3=>?_⟩;obtain⟨u,r,l⟩:=hl i x v A L e3;refine⟨u,r,?_⟩;rcases l with l|⟨k,c,e,z⟩
  ·exact .inl l
  ·exact .inr ⟨k,c,e,h x c e _ z⟩
 ·obtain⟨v,z⟩:=I.cell x c e;exact⟨v,h x c e v z⟩
 ·obtain⟨m,⟨o,_,_,J,_⟩,_⟩:=I.loc;exact f _ o (λz=>(t _ z).2.1 rfl) J I.free
 ·obtain⟨v,o,J,hd⟩:=I.cell x c e;exact f c o (λz=>(t c z).2.2.1 x c e rfl) J (I.freeC x c e)
 ·obtain⟨e,n,ne,nf,d⟩:=I.pin p hp;have j:p.1 ∉ ch:=λz=>(t p.1 z).2.2.2 p hp rfl;exact⟨g p.1 p.2 ne nf j e n,f p.1 p.2 j e n,ne,nf,d⟩
theorem Inv.un{t':Nat}(I:Inv X pins σ H s)(u:Un X.fs [] H H' s.heap h')(f:HOk X.prog X.w H' h'):Inv X pins σ H' { s with heap:=h',toks:=t' }:=by
 obtain⟨m,⟨o,l,v,h,r⟩,_⟩:=id I.loc;obtain⟨t,i⟩:=u.any h I.free (by simp);exact I.step (ch:=[]) (λ_ z=>nomatch z) (λb o _ g _ e n=>u.keep b o e n g (by simp)) (λb o _ g _ e n=>u.slot b o e n g (by simp)) (λb o _ e n=>u.free b o e n (by simp)) (λb o _ e=>u.there b o e (by simp)) u.tups u.frzs u.tbls (λq j=>by
  obtain⟨p,c,d,a,k⟩:=j;rw[h]at a;cases a;exact⟨_,c,d,i,k⟩) f I.bare
theorem Inv.call{t':Nat}{d':Drawn}(I:Inv X pins σ H s)(u:Un (oO X.stack) ch H H' s.heap h')(j:HOk X.prog X.w H' h')(l:AllBare g')
  (d:∀b∈ch,(b∈X.ex\/X.s₀.heap.objs.size<=b)/\b≠X.env.locals/\(∀x c,X.env.cells.lookup x=some c->c≠b)/\∀p∈X.pn++pins,p.1≠b):
  Inv X pins σ H' { s with heap:=h',gens:=g',drawn:=d',toks:=t' }:=by
 obtain⟨m,⟨o,y,D,k,r⟩,_⟩:=id I.loc;obtain⟨C,h⟩:=u.any k I.free λz=>(d _ z).2.1 rfl;exact I.step d (λb o h q a e n=>u.keep b o e n (λz=>(aaa.mp (I.n7 b z)).elim h q) a) (λb o _ _ a e n=>u.any e n a) (λb o a e n=>u.free b o e n a) (λb o a e=>u.there b o e a) u.tups u.frzs u.tbls (λB t=>by
  obtain⟨A,g,i,f,v⟩:=t;rw[k]at f;cases f;exact⟨_,g,i,h,v⟩) j l
theorem Inv.turned{t':Nat}(I:Inv X pins σ H s)(k:∀b o,b≠it->s.heap.get? b=some o->h'.get? b=some o)(g:H it=none)(f:it≠X.env.locals)
  (t:it∈X.ex\/X.s₀.heap.objs.size<=it) (h:∀x c,X.env.cells.lookup x=some c->c≠it) (j:∀p∈X.pn++pins,p.1≠it):Inv X pins σ H { s with heap:=h',toks:=t' }:=by
 have d:∀b u,H b=some u->b≠it:=λb u e z=>by rw[z,g]at e;cases e
 refine I.step (ch:=[it]) (λb w=>?_) (λb o _ _ a e _=>k b o (λz=>a (by simp[z])) e) (λb o _ _ a e _=>⟨o.slots,k b o (λz=>a (by simp[z])) e⟩) (λ_ _ _ _ n=>n)
  (λb o a e=>⟨o,k b o (λz=>a (by simp[z])) e⟩) (λ_ _ e=>e) (λ_ _ _ e=>e) (λb B e=>⟨#[],by rw[e];simp⟩) (λm y=>?_) (λb u e=>?_) I.bare
 ·have e:b=it:=by simpa using w
  subst e;exact⟨t,f,h,j⟩
 ·obtain⟨o,l,A,i,r⟩:=y;exact⟨o,l,A,k _ o (aaz f) i,r⟩
 ·refine(I.hok b u e).kv (λc v a q=>k c v ?_ q) (λ_ q=>q) λ_ _ q=>q;rcases a with z|z
  ·rw[z];exact d b u e
  ·exact d c _ z
theorem Inv.tok(I:Inv X pins σ H s)(t:Nat):Inv X pins σ H { s with toks:=t }:=I.un (h':=s.heap) (t':=t) Un.refl I.hok
theorem Inv.kept{t':Nat}(I:Inv X pins σ H s)(k:∀b u,s.heap.get? b=some u->h'.get? b=some u):Inv X pins σ H { s with heap:=h',toks:=t' }:=I.un (Un.kept k) (I.hok.kept k)
theorem Inv.laid{a:Addr}{o:HO}{t':Nat}(I:Inv X pins σ H s)(k:∀b u,s.heap.get? b=some u->h'.get? b=some u)(c:s.heap.objs.size<=a)(d:ObjOk X.prog X.w (upd H a o) h' a o):
  Inv X pins σ (upd H a o) { s with heap:=h',toks:=t' }:=I.un (Un.laid k c (I.hok.fresh c)) (I.hok.laid k c d)
theorem Inv.write{t':Nat}(I:Inv X pins σ H s)(d:zl (H x))(f:e=x\/H e=some (.own x))(k:∀b u,b≠e->s.heap.get? b=some u->h'.get? b=some u)(a:∃u,h'.get? e=some u)
  (c:ObjOk X.prog X.w (upd H x o) h' x o):Inv X pins σ (upd H x o) { s with heap:=h',toks:=t' }:=I.un (Un.write d f k a) (I.hok.write d f k a c)
theorem Inv.weak(I:Inv X pins σ H s)(b:σ'.length=σ.length)(w:∀(i:Nat) v,σ'[i]?=some (some v)->σ[i]?=some (some v)):Inv X pins σ' H s:=
 ⟨I.ok,I.os,I.bare,I.base,let ⟨m,d,a⟩:=I.loc;⟨m,d,λi x v e c f=>a i x v e (w i v c) f⟩,I.cell,I.free,I.freeC,I.pin,I.hok,b.trans I.len⟩
theorem Inv.ry(I:Inv X pins σ H s)(h:∀p∈pins',s.heap.get? p.1=some p.2/\H p.1=none/\p.1≠X.env.locals/\p.1 ∉ X.fs/\∀v,p.2.data≠.cell v):Inv X pins' σ H s:=
 ⟨I.ok,I.os,I.bare,I.base,I.loc,I.cell,I.free,I.freeC,λp a=>(aaj.mp a).elim (λz=>I.pin p (aae _ z)) (h p),I.hok,I.len⟩
theorem jq{N:List Str}(d:N.Nodup){i j:Nat}(a:N[i]?=some x)(b:N[j]?=some x):i=j:=by obtain⟨f,e⟩:=aah.mp a;obtain⟨g,c⟩:=aah.mp b;exact(List.getElem_inj d).mp (e.trans c.symm)
theorem ei{M:Model}{A:Around}{E:Value->Shared->Prop}(I:Inv X pins σ H s)(hN:X.N.Nodup)(hi:X.N[i]?=some x)(B:Loc X.env.scope x)(r:RelV v u)
  (h:∀s',Inv X pins (σ.set i (some v)) H s'->(∃a,Heap.SameBut a s.heap s'.heap/\(a=X.env.locals\/X.env.cells.lookup x=some a))->Q () s') (hf:X.fn x=true\/X.env.scope.names.lookup x=some .local:=by first|exact .inl rfl|exact .inr rfl|assumption):wpAny M A (storeName X.env x u) Q E s:=by
 obtain⟨m,hn,hl⟩:=id I.loc;have Y:(X.env.scope.kind==.class||(X.env.scope.kind==.module&&X.env.locals !=X.env.globals))=false:=by rw[I.ok.kind];rfl
 have J:i<σ.length:=by rw[I.len];exact(aah.mp hi).1
 have T:=I.cne;have g:∀{a:Addr}{h':Heap},(∃o,s.heap.get? a=some o/\H a=none)->Heap.SameBut a s.heap h'->HOk X.prog X.w H h':=λ{a h'} ha f b ob e=>by
  obtain⟨_,_,C⟩:=ha;refine(I.hok b ob e).kv (λc w' t q=>(f.2 c ?_).trans q) (λ_ q=>q) λ_ _ q=>q;rintro rfl;rcases t with rfl|t
  ·rw[C]at e;cases e
  ·rw[C]at t;cases t
 rcases B with G|G
 ·refine wpAny_storeName_local G hn (λh' a2 f=>?_) Y;obtain⟨oL,_,_,a3,_⟩:=id hn;refine h _ ⟨I.ok,I.os,I.bare,⟨λb o e n S B=>?_,λb o e n S B=>?_,I.base.free,λb o e B=>?_,I.base.tups,I.base.frzs,I.base.tbls⟩,⟨_,a2,λj y v' l D e3=>?_⟩,λy c e=>?_,I.free,I.freeC,λp hp=>?_,g ⟨oL,a3,I.free⟩ f,by simpa using I.len⟩ ⟨_,f,.inl rfl⟩
  ·exact(f.2 b (aai (aar (Heap.lt_size e) I.ok.above))).trans (I.base.keep b o e n S B)
  ·obtain⟨sl,l⟩:=I.base.slot b o e n S B;exact⟨sl,(f.2 b (aai (aar (Heap.lt_size e) I.ok.above))).trans l⟩
  ·obtain⟨o',l⟩:=I.base.there b o e B;exact⟨o',(f.2 b (aai (aar (Heap.lt_size e) I.ok.above))).trans l⟩
  ·by_cases O:j=i
   ·subst O;rw[hi]at l;cases l;rw[aaS J]at D;cases D;exact⟨u,r,.inl ⟨G,by simp⟩⟩
   ·rw[aa6 (aaz O)]at D;obtain⟨u',r',q⟩:=hl j y v' l D e3;refine⟨u',r',?_⟩;rcases q with ⟨k,e⟩|⟨k,c,e,z⟩
    ·refine .inl ⟨k,?_⟩;have:y≠x:=λe=>O (jq hN l (e▸hi));simp[this,e]
    ·exact .inr ⟨k,c,e,z.sameBut f (T y c e)⟩
  ·obtain⟨w',z⟩:=I.cell y c e;exact⟨w',z.sameBut f (T y c e)⟩
  ·obtain⟨e,n,ne,nf,d⟩:=I.pin p hp;exact⟨(f.2 p.1 ne).trans e,n,ne,nf,d⟩
 ·have L:X.fn x=true:=by
   rcases hf with z|z
   ·exact z
   ·rw[z]at G;cases G
  obtain⟨c,t⟩:=I.ok.has x (.inl G);obtain⟨w',z⟩:=I.cell x c t;refine wpAny_storeName_cell I.ok.kind G t z (λh' Z f=>?_);obtain⟨oc,a0,U⟩:=id z;refine h { s with heap:=h' } ⟨I.ok,I.os,I.bare,⟨λb o e n S B=>?_,λb o e n S B=>?_,I.base.free,λb o e B=>?_,I.base.tups,I.base.frzs,I.base.tbls⟩,⟨m,hn.sameBut f (aaz (T x c t)),λj y v' l D e3=>?_⟩,λy c' e=>?_,I.free,I.freeC,λp hp=>?_,g ⟨oc,a0,I.freeC x c t⟩ f,by simpa using I.len⟩ ⟨c,f,.inr t⟩
  ·exact(f.2 b (aai (aar (Heap.lt_size e) (I.ok.cab x c L t)))).trans (I.base.keep b o e n S B)
  ·obtain⟨sl,l⟩:=I.base.slot b o e n S B;exact⟨sl,(f.2 b (aai (aar (Heap.lt_size e) (I.ok.cab x c L t)))).trans l⟩
  ·obtain⟨o',l⟩:=I.base.there b o e B;exact⟨o',(f.2 b (aai (aar (Heap.lt_size e) (I.ok.cab x c L t)))).trans l⟩
  ·by_cases O:j=i
   ·subst O;rw[hi]at l;cases l;rw[aaS J]at D;cases D;exact⟨u,r,.inr ⟨.inl G,c,t,Z⟩⟩
   ·rw[aa6 (aaz O)]at D;obtain⟨u',r',q⟩:=hl j y v' l D e3;refine⟨u',r',?_⟩;rcases q with q|⟨k,c',e,z'⟩
    ·exact .inl q
    ·refine .inr ⟨k,c',e,z'.sameBut f ?_⟩;rintro rfl;exact O (jq hN l (I.ok.inj _ _ _ e t▸hi))
  ·by_cases a1:c'=c
   ·subst a1;exact⟨_,Z⟩
   ·obtain⟨w2,z2⟩:=I.cell y c' e;exact⟨w2,z2.sameBut f a1⟩
  ·obtain⟨e,n,ne,nf,d⟩:=I.pin p hp;refine⟨(f.2 p.1 ?_).trans e,n,ne,nf,d⟩;intro q;rw[q,a0]at e;have q':oc=p.2:=aaD e;exact d w' (by rw[<-q'];exact U)
theorem br{M:Model}{A:Around}{E:Value->Shared->Prop}(I:Inv X pins σ H s)(c:X.N.Nodup)(hi:X.N[i]?=some x)(d:Loc X.env.scope x)(r:RelV v u)
  (h:∀a,Inv X pins (σ.set i (some v)) H a->Q () a) (b:X.fn x=true\/X.env.scope.names.lookup x=some .local:=by first|exact .inl rfl|exact .inr rfl|assumption):wpAny M A (storeName X.env x u) Q E s:=
 ei I c hi d r (λa e _=>h a e) b
theorem Inv.za(I:Inv X pins σ H s)(h:s'.os=s.os)(u:Un (oO X.stack) ch H H' s.heap s'.heap)(a:HOk X.prog X.w H' s'.heap)(f:AllBare s'.gens)
  (d:∀b∈ch,(b∈X.ex\/X.s₀.heap.objs.size<=b)/\b≠X.env.locals/\(∀x c,X.env.cells.lookup x=some c->c≠b)/\∀p∈X.pn++pins,p.1≠b):Inv X pins σ H' s':=by
 obtain⟨h',i,k,j,g⟩:=s';have e:g=s.os:=h;subst e;exact I.call u a f d
end
abbrev XK:=Value->Option Addr->Hp->Prop
abbrev St:=List (Option V)
abbrev VK:=V->Hp->Prop
abbrev TE:=St->Hp->VK->Prop
abbrev TT:=St->Hp->(Bool->Hp->Prop)->Prop
abbrev TA:=St->Hp->(List V->Hp->Prop)->Prop
structure Ends where
 nx:St->Hp->Prop
 rt:VK
 bk:St->Hp->Prop:=λ_ _=>False
 ct:St->Hp->Prop:=λ_ _=>False
abbrev TS:=Ends->St->Hp->Prop
def EP(X:Cx)(a:List (Addr×Obj))(σ:St)(Q:VK)(u:Value)(c:Shared):Prop:=∃v b,Inv X a σ b c/\RelV v u/\Q v b
def TP(X:Cx)(a:List (Addr×Obj))(σ:St)(Q:Bool->Hp->Prop)(b:Bool)(d:Shared):Prop:=∃c,Inv X a σ c d/\Q b c
def AP(X:Cx)(a:List (Addr×Obj))(σ:St)(Q:List V->Hp->Prop)(us:List Value)(d:Shared):Prop:=∃b c,Inv X a σ c d/\Vals b us/\Q b c
def SP(X:Cx)(b:List (Addr×Obj))(D:Ends)(f:Flow)(d:Shared):Prop:=
 match f with
 |.next=>∃a c,Inv X b a c d/\D.nx a c
 |.brk=>∃a c,Inv X b a c d/\D.bk a c
 |.cont=>∃a c,Inv X b a c d/\D.ct a c
 |.ret u=>∃v a c,Inv X b a c d/\RelV v u/\D.rt v c
def PE(X:Cx)(e:Expr)(t:TE):Prop:=
 ∀(a:List (Addr×Obj)) (s:Shared) (b:St) (H:Hp) (Q:VK),Inv X a b H s->t b H Q->wpAny (model X.prog X.w) X.A (eval e X.env) (EP X a b Q) X.xe s
def PT(X:Cx)(e:Expr)(t:TT):Prop:=
 ∀(a:List (Addr×Obj)) (s:Shared) (b:St) (H:Hp) (Q:Bool->Hp->Prop),Inv X a b H s->t b H Q->wpAny (model X.prog X.w) X.A (isTrue e X.env (eval e X.env)) (TP X a b Q) X.xe s
def PW(X:Cx)(e:Expr)(t:TT):Prop:=
 ∀(b:Sem Value) (a:List (Addr×Obj)) (s:Shared) (c:St) (H:Hp) (Q:Bool->Hp->Prop),Inv X a c H s->t c H Q->wpAny (model X.prog X.w) X.A (isTrue e X.env b) (TP X a c Q) X.xe s
theorem PW.pt(h:PW X e t):PT X e t:=h _
def PA(X:Cx)(es:List Expr)(t:TA):Prop:=
 ∀(b:Pos) (a:List (Addr×Obj)) (s:Shared) (c:St) (H:Hp) (Q:List V->Hp->Prop),Inv X a c H s->t c H Q->wpAny (model X.prog X.w) X.A (spliced (backTo b (starEach es X.env))) (AP X a c Q) X.xe s
def PS(X:Cx)(st:Stmt)(t:TS):Prop:=
 ∀(a:List (Addr×Obj)) (s:Shared) (b:St) (H:Hp) (D:Ends),Inv X a b H s->t D b H->wpAny (model X.prog X.w) X.A (exec st X.env) (SP X a D) X.xe s
def PSs(X:Cx)(st:List Stmt)(t:TS):Prop:=
 ∀(a:List (Addr×Obj)) (s:Shared) (b:St) (H:Hp) (D:Ends),Inv X a b H s->t D b H->wpAny (model X.prog X.w) X.A (execs st X.env) (SP X a D) X.xe s
theorem thn{b:Type}{t:Sem b}{Q c:b->Shared->Prop}{A:Around}(h:wpAny M A t Q E s)(d:∀a s,Q a s->c a s):wpAny M A t c E s:=wpAny_mono h d λ_ _ x=>x
end
section
section
variable{X:Cx}
theorem bin{a b:Expr}{k l:TE}(B:PE X a k)(C:PE X b l){R:V->V->Hp->Prop}(I:Inv X pins σ H s)(h:k σ H λx i=>l σ i λy c=>R x y c)
  {m:Type}{Q:m->Shared->Prop}{f:Value->Value->Sem m}
  (n:∀v u g x y c,Inv X pins σ c g->RelV x v->RelV y u->R x y c->wpAny (model X.prog X.w) X.A (f v u) Q X.xe g):
  wpAny (model X.prog X.w) X.A (eval a X.env) (λv d=>wpAny (model X.prog X.w) X.A (eval b X.env) (λu e=>wpAny (model X.prog X.w) X.A (f v u) Q X.xe e) X.xe d) X.xe s:=by
 refine thn (B pins s σ H _ I h) λv t j=>?_;obtain⟨x,i,p,q,r⟩:=j;refine thn (C pins t σ i _ p r) λu g j=>?_;obtain⟨y,c,o,z,D⟩:=j;exact n v u g x y c o q z D
def tVar(i:Nat):TE:=λa H Q=>∃v,a[i]?=some (some v)/\Q v H
def tC(v:V):TE:=λ_ H Q=>Q v H
theorem bV{g:Pos} (p:X.N[i]?=some x) (y:Vis X.env.scope x) (k:(x==("__debug__":Str))=false:=by decide) (j:(x==("__classdict__":Str))=false:=by decide):PE X (.Name x g) (tVar i):=by
 intro f s q H Q I h;obtain⟨v,e,h⟩:=h;obtain⟨m,o,t⟩:=I.loc;obtain⟨u,r,l⟩:=t i x v p e y;have b:EP X f q Q u s:=⟨v,H,I,r,h⟩
 rcases l with ⟨d,w⟩|⟨d,c,n,a⟩
 ·exact wpAny_Name (wpAny_loadName_local I.ok.kind d o w b) k
 ·rcases d with d|d
  ·exact wpAny_Name (wpAny_loadName_cell I.ok.kind d n a b) k
  ·exact wpAny_Name (wpAny_loadName_free I.ok.kind d n a b j) k
theorem kj{i j a}:PE X (.Constant (.int i) j a) (tC (.int i)):=λ_ _ _ H _ I h=>wpAny_Constant_int ⟨.int i,H,I.tok _,⟨_,rfl⟩,h⟩
theorem zo{b j a}:PE X (.Constant (.bool b) j a) (tC (.bl b)):=λ_ _ _ H _ I h=>Constant_bool ⟨.bl b,H,I,rfl,h⟩
theorem we{j a}:PE X (.Constant .none j a) (tC .non):=λ_ _ _ H _ I h=>Constant_none ⟨.non,H,I,rfl,h⟩
theorem wg{x j a}:PE X (.Constant (.str x) j a) (tC (.str x)):=λ_ _ _ H _ I h=>Calls.Constant_str ⟨.str x,H,I.tok _,⟨_,rfl⟩,h⟩
def Gl(X:Cx)(x:Str):Prop:=X.env.kindOf x=some .globalImplicit
theorem lC{E:Value->Shared->Prop}{a:Pos}(I:Inv X pins σ H s)(c:Gl X x)(b:X.mg x=some u)(h:Q u s)
  (d:(x==("__debug__":Str))=false:=by decide):wpAny (model X.prog X.w) X.A (eval (.Name x a) X.env) Q E s:=
 Calls.Name_function_global I.ok.kind c (Calls.loadGlobal_global (by rw[I.ok.glob];exact I.mod.glob.keeps I.bk) b h) d
theorem cy{E:Value->Shared->Prop}{a:List (Addr×Obj)}{s:Shared}{b:Pos}(I:Inv X a σ H s)(d:Gl X x)(c:X.mg x=none)(j:bootBuiltins x=some u)(h:Q u s)
  (f:x≠"__name__":=by decide) (i:(x==("__debug__":Str))=false:=by decide):wpAny (model X.prog X.w) X.A (eval (.Name x b) X.env) Q E s:=by
 obtain⟨k,e,g⟩:=I.mod.blt;exact Calls.Name_function_global I.ok.kind d (Calls.loadGlobal_builtin (by rw[I.ok.glob];exact I.mod.glob.keeps I.bk) c (by rw[I.ok.blt];exact e.keeps I.bk) ((g x f).trans j) h) i
theorem sA{a:Pos} (c:Gl X x) (b:X.mg x=some u) (r:RelV v u) (d:(x==("__debug__":Str))=false:=by decide):PE X (.Name x a) (tC v):=
 λ_ _ _ H _ I h=>lC I c b ⟨v,H,I,r,h⟩ d
theorem sC{a:Pos} (c:Gl X x) (b:X.mg x=none) (f:bootBuiltins x=some u) (r:RelV v u) (d:x≠"__name__":=by decide) (e:(x==("__debug__":Str))=false:=by decide):PE X (.Name x a) (tC v):=
 λ_ _ _ H _ I h=>cy I c b f ⟨v,H,I,r,h⟩ d e
def Ci(d c:TE)(k:Int->Int->Hp->Prop):St->Hp->Prop:=λa H=>d a H λx e=>c a e λy b=>∃i j,x=.int i/\y=.int j/\k i j b
def Fu(b c:TE):TE:=λd H Q=>Ci b c (λi j a=>Q (.int (i+j)) a) d H
def Fv(b c:TE):TE:=λd H Q=>Ci b c (λi j a=>Q (.int (i-j)) a) d H
def Fw(b c:TE):TE:=λd H Q=>Ci b c (λi j a=>(-(2^64)<i/\i<2^64)/\Q (.int (i*j)) a) d H
variable{a b:Expr}{ta tb:TE}{pos:Pos}
def PC(X:Cx)(g:CmpOp)(a b:Expr)(t:TE):Prop:=
 ∀(c:List (Addr×Obj)) (s:Shared) (f:St) (H:Hp) (Q:VK),Inv X c f H s->t f H Q ->
  wpAny (model X.prog X.w) X.A (eval a X.env) (λv d=>wpAny (model X.prog X.w) X.A (eval b X.env) (λu e=>wpAny (model X.prog X.w) X.A (compareOp g v u) (EP X c f Q) X.xe e) X.xe d) X.xe s
theorem nobehind(b:Expr)(h:op≠.In)(d:op≠.NotIn):behindInMarks op b=false:=by
 have e:(op==CmpOp.In)=false:=by cases op<;>first|rfl|exact absurd rfl h
 have c:(op==CmpOp.NotIn)=false:=by cases op<;>first|rfl|exact absurd rfl d
 cases b<;>simp[behindInMarks,e,c]
def kl(p:Int->Int->Bool)(ta tb:TE):TE:=λd H Q=>Ci ta tb (λi j c=>Q (.bl (p i j)) c) d H
abbrev Gr:TE->TE->TE:=kl λi j=>decide (i<j)
abbrev Fx:TE->TE->TE:=kl λi j=>decide (i<=j)
abbrev Gs:TE->TE->TE:=kl λi j=>decide (j<i)
abbrev Gu:TE->TE->TE:=kl λi j=>decide (j<=i)
abbrev Fy:TE->TE->TE:=kl λi j=>decide (i=j)
abbrev FA:TE->TE->TE:=kl λi j=>!decide (i=j)
theorem wk(l:PE X a ta)(m:PE X b tb)
  (rule:∀(i j:Int) (t u:Tok) (Q:Value->Shared->Prop) (s:Shared),Q (.bool (p i j)) s->wpAny (model X.prog X.w) X.A (compareOp op (.int i t) (.int j u)) Q X.xe s):PC X op a b (kl p ta tb):=by
 intro c s o H Q I h;refine bin l m I h λv u n x y d e f k q=>?_;obtain⟨i,j,rfl,rfl,q⟩:=q;obtain⟨t,rfl⟩:=f;obtain⟨g,rfl⟩:=k;exact rule i j t g _ n ⟨.bl _,d,e,rfl,q⟩
theorem pc_le(c:PE X a ta)(d:PE X b tb):PC X .LtE a b (Fx ta tb):=wk c d λ_ _ _ _ _ _ h=>le_int h
def CJ(ta:TE):TE:=λd H Q=>ta d H λx c=>Q (.bl (decide (x=.non))) c
def zp(ta:TE):TE:=λd H Q=>ta d H λx c=>Q (.bl (!decide (x=.non))) c
theorem RelV.ow{x:V}{v:Value}(r:RelV x v):(v==Value.none)=decide (x=.non):=by
 cases x with
 |non=>cases r;rfl
 |bl _=>cases r;rfl
 |int _=>obtain⟨t,rfl⟩:=r;rfl
 |str _=>obtain⟨t,rfl⟩:=r;rfl
 |byt _=>obtain⟨t,rfl⟩:=r;rfl
 |flt _=>obtain⟨t,rfl⟩:=r;rfl
 |ref _=>cases r;rfl
 |ty _=>cases r;rfl
theorem oP{j c}(l:PE X a ta):PC X .Is a (.Constant .none j c) (CJ ta):=by intro d s m H Q I h;refine thn (l d s m H _ I h) λv n f=>?_;obtain⟨x,k,e,g,i⟩:=f;exact Constant_none (is_none_gen ⟨.bl _,k,e,by rw[g.ow];rfl,i⟩)
theorem lD{j c}(l:PE X a ta):PC X .IsNot a (.Constant .none j c) (zp ta):=by intro d s m H Q I h;refine thn (l d s m H _ I h) λv n f=>?_;obtain⟨x,k,e,g,i⟩:=f;exact Constant_none (isnot_none_gen ⟨.bl _,k,e,by rw[g.ow];rfl,i⟩)
def tB(t:TE):TT:=λe H Q=>t e H λx d=>∃c,x=.bl c/\Q c d
theorem iz(h:PC X op a b t)(d:behindInMarks op b=false:=by first|exact nobehind _ (by decide) (by decide)|rfl):PE X (.Compare a [op] [b] pos) t:=λc s f H Q I e=>wpAny_Compare1 (h c s f H Q I e) d
theorem iA{g:CmpOp}{t:TE}(h:PC X g a b t)(f:behindInMarks g b=false:=by first|exact nobehind _ (by decide) (by decide)|rfl):PT X (.Compare a [g] [b] pos) (tB t):=by intro e s n H Q I p;refine wpAny_isTrue_Compare1 (thn (h e s n H _ I p) λv r f=>thn f λu y l=>thn l λc w o=>?_) f;obtain⟨x,m,i,j,k⟩:=o;obtain⟨d,rfl,q⟩:=k;cases j;exact wpAny_truthy_bool ⟨m,i,q⟩
variable{tA tB':TT}{rest:List Expr}
def CK(t u:TT):TT:=λe H Q=>t e H λc d=>if c=true then u e d Q else Q false d
def FB(t u:TT):TT:=λe H Q=>t e H λc d=>if c=true then Q true d else u e d Q
def CL(t:TT):TT:=λe H Q=>t e H λc d=>Q (!c) d
theorem sE(f:PT X a tA):PW X (.BoolOp .And [a] pos) tA:=by
 intro i d s g H Q I h;refine isTrue_and (thn (f d s g H Q I h) λc j e=>?_);cases c with
 |true=>exact isTrue_and_nil e
 |false=>exact e
theorem wm(f:PT X a tA):PW X (.BoolOp .Or [a] pos) tA:=by
 intro i d s g H Q I h;refine isTrue_or (thn (f d s g H Q I h) λc j e=>?_);cases c with
 |false=>exact isTrue_or_nil e
 |true=>exact e
theorem wo(m:PT X a tA)(n:PW X (.BoolOp .And (b::rest) pos) tB'):PW X (.BoolOp .And (a::b::rest) pos) (CK tA tB'):=by
 intro j d s i H Q I h;refine isTrue_and (thn (m d s i H _ I h) λc l k=>?_);obtain⟨g,e,f⟩:=k;cases c with
 |true=>exact n j d l i g Q e f
 |false=>exact⟨g,e,f⟩
theorem zq(m:PT X a tA)(n:PW X (.BoolOp .Or (b::rest) pos) tB'):PW X (.BoolOp .Or (a::b::rest) pos) (FB tA tB'):=by
 intro j d s i H Q I h;refine isTrue_or (thn (m d s i H _ I h) λc l k=>?_);obtain⟨g,e,f⟩:=k;cases c with
 |true=>exact⟨g,e,f⟩
 |false=>exact n j d l i g Q e f
theorem wq(f:PT X a tA):PT X (.UnaryOp .Not a pos) (CL tA):=by intro d s g H Q I h;exact isTrue_not (f d s g H (λc e=>Q (!c) e) I h)
def zt(ta tb:TE):TE:=λe H Q=>ta e H λx d=>∃c,x=.bl c/\if c=true then tb e d Q else Q (.bl false) d
def CM(ta tb:TE):TE:=λe H Q=>ta e H λx d=>∃c,x=.bl c/\if c=true then Q (.bl true) d else tb e d Q
def zu(ta:TE):TE:=λe H Q=>ta e H λx d=>∃c,x=.bl c/\Q (.bl (!c)) d
theorem wt{d}(h:PE X a t):PE X (.BoolOp d [a] pos) t:=λc s f H Q I e=>BoolOp_one (h c s f H Q I e)
theorem wu(m:PE X a ta)(n:PE X (.BoolOp .And (b::rest) pos) tb):PE X (.BoolOp .And (a::b::rest) pos) (zt ta tb):=by
 intro d s i H Q I h;refine BoolOp_and (thn (m d s i H _ I h) λv k l=>?_);obtain⟨x,g,f,j,e⟩:=l;obtain⟨c,rfl,e⟩:=e;cases j;refine wpAny_truthy_bool ?_;cases c with
 |true=>exact n d k i g Q f e
 |false=>exact⟨.bl false,g,f,rfl,e⟩
theorem zw(m:PE X a ta)(n:PE X (.BoolOp .Or (b::rest) pos) tb):PE X (.BoolOp .Or (a::b::rest) pos) (CM ta tb):=by
 intro d s i H Q I h;refine BoolOp_or (thn (m d s i H _ I h) λv k l=>?_);obtain⟨x,g,f,j,e⟩:=l;obtain⟨c,rfl,e⟩:=e;cases j;refine wpAny_truthy_bool ?_;cases c with
 |false=>exact n d k i g Q f e
 |true=>exact⟨.bl true,g,f,rfl,e⟩
theorem wx(k:PE X a ta):PE X (.UnaryOp .Not a pos) (zu ta):=by intro d s l H Q I h;refine UnaryOp_ (thn (k d s l H _ I h) λv m g=>?_);obtain⟨x,j,f,i,e⟩:=g;obtain⟨c,rfl,e⟩:=e;cases i;exact not_of (wpAny_truthy_bool ⟨.bl (!c),j,f,rfl,e⟩)
def FC(t:TT)(ta tb:TE):TE:=λd H Q=>t d H λc e=>if c=true then ta d e Q else tb d e Q
theorem oQ{c:Expr}(l:PT X c tA)(n:PE X a ta)(o:PE X b tb):PE X (.IfExp c a b pos) (FC tA ta tb):=by
 intro e s f H Q I h;refine wpAny_IfExp (thn (l e s f H _ I h) λd i m=>?_);obtain⟨k,g,j⟩:=m;cases d with
 |true=>exact n e i f k Q g j
 |false=>exact o e i f k Q g j
end
end
section
def SqL(K:Waa)(H:Hp)(a:Addr)(xs:List V):Prop:=
 Rd H a (.lst xs) \/
  ∃(o:Obj) (b:Array Value) (n:Nat),K.lookup a=some o/\o.cls=.type "list"/\o.dict=none/\o.data=.seq b n/\b.size<=sizeLine/\Vals xs b.toList
def SqT(K:Waa)(H:Hp)(a:Addr)(xs:List V):Prop:=
 Rd H a (.tup xs) \/
  ∃(o:Obj) (b:Array Value) (n:Nat),K.lookup a=some o/\o.cls=.type "tuple"/\o.dict=none/\o.data=.seq b n/\b.size<=sizeLine/\Vals xs b.toList
def CN:Value->Option V
 |.none=>some .non
 |.bool b=>some (.bl b)
 |.int i _=>some (.int i)
 |.str x _=>some (.str x)
 |.bytes b _=>some (.byt b)
 |.float b _=>some (.flt b)
 |.ref a=>some (.ref a)
 |.type n=>some (.ty n)
 |_=>none
theorem RelV.abs(r:RelV x u):CN u=some x:=by
 cases x with
 |non=>cases r;rfl
 |bl _=>cases r;rfl
 |int _=>obtain⟨t,rfl⟩:=r;rfl
 |str _=>obtain⟨t,rfl⟩:=r;rfl
 |byt _=>obtain⟨t,rfl⟩:=r;rfl
 |flt _=>obtain⟨t,rfl⟩:=r;rfl
 |ref _=>cases r;rfl
 |ty _=>cases r;rfl
theorem RelV.inj{x y:V}{u:Value}(r:RelV x u)(q:RelV y u):x=y:=aaD (r.abs.symm.trans q.abs)
theorem Vals.inj{xs ys:List V}{us:List Value}(h:Vals xs us)(h':Vals ys us):xs=ys:=by
 induction us generalizing xs ys with
 |nil=>cases h;cases h';rfl
 |cons u us c=>cases h with|cons r t=>cases h' with|cons b a=>rw[r.inj b,c t a]
section
variable{X:Cx}{pins:List (Addr×Obj)}{σ:St}{H:Hp}{s:Shared}{a:Addr}{xs ys:List V}
theorem SqL.of{K:Waa}(h:H a=some (.lst xs)):SqL K H a xs:=.inl (.inl h)
theorem SqT.of{K:Waa}(h:H a=some (.tup xs)):SqT K H a xs:=.inl (.inl h)
theorem Inv.list(I:Inv X pins σ H s)(h:SqL X.K H a xs):∃b:List Value,Vals xs b/\PlainL s.heap a b.toArray/\xs.length<=sizeLine:=by
 rcases h with h|⟨o,b,n,c,d,f,g,i,r⟩
 ·obtain⟨z,b,n,r,e⟩:=h.ok I.hok;exact⟨b,r,⟨_,n,e,rfl,rfl,rfl⟩,z⟩
 ·refine⟨b.toList,r,⟨o,n,I.xc a o c,d,f,by simpa using g⟩,?_⟩;have e:=r.length;simp only[aaH]at e;omega
theorem Inv.tuple(I:Inv X pins σ H s)(h:SqT X.K H a xs):∃b:List Value,Vals xs b/\IsTup s.heap a b.toArray/\xs.length<=sizeLine:=by
 rcases h with h|⟨o,b,n,f,g,_,i,j,r⟩
 ·obtain⟨z,b,r,o,e,c,n,d,_⟩:=h.ok I.hok;exact⟨b,r,⟨o,e,c,n,d⟩,z⟩
 ·refine⟨b.toList,r,⟨o,I.xc a o f,g,n,by simpa using i⟩,?_⟩;have e:=r.length;simp only[aaH]at e;omega
theorem Inv.pa(I:Inv X pins σ H s)(h:SqL X.K H a xs)(h':SqL X.K H a ys):xs=ys:=by
 obtain⟨c,r,⟨o,n,e,_,_,d⟩,_⟩:=I.list h;obtain⟨b,i,⟨k,j,f,_,_,g⟩,_⟩:=I.list h';rw[e]at f;cases f;rw[d]at g;injection g with d1 _;have:c=b:=by simpa using congrArg Array.toList d1
 subst this;exact r.inj i
theorem Inv.tupN(I:Inv X pins σ H s)(h:SqT X.K H a xs):∃o,s.heap.get? a=some o/\o.cls=.type "tuple"/\o.dict=none:=by
 rcases h with h|⟨o,f,n,b,g,i,k,j,r⟩
 ·obtain⟨_,_,_,o,e,c,_,_,d⟩:=h.ok I.hok;exact⟨o,e,c,d⟩
 ·exact⟨o,I.xc a o b,g,i⟩
theorem Inv.r8(I:Inv X pins σ H s)(h:SqT X.K H a xs)(h':SqT X.K H a ys):xs=ys:=by
 obtain⟨c,r,⟨o,e,_,n,d⟩,_⟩:=I.tuple h;obtain⟨b,i,⟨k,f,_,j,g⟩,_⟩:=I.tuple h';rw[e]at f;cases f;rw[d]at g;injection g with d1 _;have:c=b:=by simpa using congrArg Array.toList d1
 subst this;exact r.inj i
end
abbrev Cx.fy(X:Cx)(E:Value->Shared->Prop):Cx:={ X with xe:=E }
abbrev Cx.u1(X:Cx):Cx:=X.fy λ_ _=>False
theorem Cx.Ok.fy{X:Cx}(a:X.Ok)(E:Value->Shared->Prop):(X.fy E).Ok:=
 ⟨a.mod,a.kind,a.glob,a.blt,a.above,a.inj,a.has,a.cab,a.hd,a.frames,a.stk,a.exf,a.bs,a.bsz,a.noex,a.exfs,a.funs,a.frf⟩
theorem Cx.Ok.dv{X:Cx}(a:(X.fy E).Ok):X.Ok:=
 ⟨a.mod,a.kind,a.glob,a.blt,a.above,a.inj,a.has,a.cab,a.hd,a.frames,a.stk,a.exf,a.bs,a.bsz,a.noex,a.exfs,a.funs,a.frf⟩
section
variable{X:Cx}{pins:List (Addr×Obj)}{σ:St}{H:Hp}{s:Shared}{E:Value->Shared->Prop}
theorem Inv.fy(I:Inv X pins σ H s)(E:Value->Shared->Prop):Inv (X.fy E) pins σ H s:=⟨I.ok.fy E,I.os,I.bare,I.base,I.loc,I.cell,I.free,I.freeC,I.pin,I.hok,I.len⟩
theorem Inv.dv(I:Inv (X.fy E) pins σ H s):Inv X pins σ H s:=⟨I.ok.dv,I.os,I.bare,I.base,I.loc,I.cell,I.free,I.freeC,I.pin,I.hok,I.len⟩
theorem SP.dv{D:Ends}(h:SP (X.fy E) pins D f s'):SP X pins D f s':=by
 cases f with
 |next=>obtain⟨a,b,I,q⟩:=h;exact⟨a,b,I.dv,q⟩
 |brk=>obtain⟨a,b,I,q⟩:=h;exact⟨a,b,I.dv,q⟩
 |cont=>obtain⟨a,b,I,q⟩:=h;exact⟨a,b,I.dv,q⟩
 |ret u=>obtain⟨v,a,b,I,r,q⟩:=h;exact⟨v,a,b,I.dv,r,q⟩
theorem PE.u1(h:PE X.u1 e t):PE X e t:=λpins s σ H Q I a=>
 wpAny_mono (h pins s σ H Q (I.fy _) a) (λ_ _ ⟨v,c,b,r,q⟩=>⟨v,c,b.dv,r,q⟩) λ_ _ z=>False.elim z
theorem PT.u1(h:PT X.u1 e t):PT X e t:=λpins s σ H Q I a=>
 wpAny_mono (h pins s σ H Q (I.fy _) a) (λ_ _ ⟨c,b,q⟩=>⟨c,b.dv,q⟩) λ_ _ z=>False.elim z
theorem PSs.u1{a:List Stmt}(h:PSs X.u1 a t):PSs X a t:=λpins s σ H D I b=>
 wpAny_mono (h pins s σ H D (I.fy _) b) (λ_ _ q=>q.dv) λ_ _ z=>False.elim z
end
section
variable{X:Cx}{st:Stmt}{rest:List Stmt}{t u:TS}{e:Expr}{te:TE}{pos:Pos}
def tNext:TS:=λD a H=>D.nx a H
def CO(t u:TS):TS:=λD a H=>t { D with nx:=u D } a H
theorem sF:PSs X [] tNext:=λ_ _ a H _ I h=>wpAny_execs_nil ⟨a,H,I,h⟩
theorem oR(c:PS X st t)(i:PSs X rest u):PSs X (st::rest) (CO t u):=by
 intro a s k H D I h;refine wpAny_execs_cons (thn (c a s k H { D with nx:=u D } I h) λf g q=>?_);cases f with
 |next=>obtain⟨b,d,j,q⟩:=q;exact i a g b d D j q
 |ret v=>exact q
 |brk=>exact q
 |cont=>exact q
def CP:TS:=λD a H=>D.bk a H
def tCont:TS:=λD a H=>D.ct a H
theorem jr:PS X (.Continue pos) tCont:=λ_ _ a H _ I h=>wpAny_Continue ⟨a,H,I,h⟩
theorem Inv.quiet{a:List (Addr×Obj)}{σ:St}(I:Inv X a σ H s):interactive X.env=false:=by simp[interactive,I.ok.kind]
def zx(te:TE):TS:=λD a H=>te a H λ_ b=>D.nx a b
theorem fE(c:PE X e te)(i:swapsWith e none pos.line X.env=pure false:=by rfl):PS X (.Expr e pos) (zx te):=by intro a s b H D I h;exact wpAny_Expr_any (thn (c a s b H _ I h) λv k ⟨x,g,d,j,f⟩=>⟨b,g,d,f⟩) I.quiet i
def CQ(te:TE):TS:=λD a H=>te a H D.rt
theorem wy(c:PE X e te):PS X (.Return (some e) pos) (CQ te):=by intro a s b H D I h;exact wpAny_Return_some (thn (c a s b H _ I h) λv j ⟨x,i,d,f,g⟩=>⟨x,b,i,d,f,g⟩)
def EN:TS:=λD _ H=>D.rt .non H
def CT(c:TT)(t u:TS):TS:=λD a H=>c a H λb d=>if b=true then t D a d else u D a d
theorem zy{c:Expr}{a b:List Stmt}{m:TT}(q:PT X c m)(o:PSs X a t)(p:PSs X b u):PS X (.If c a b pos) (CT m t u):=by
 intro f s g H D I h;refine wpAny_If (thn (q f s g H _ I h) λd k n=>?_);obtain⟨l,i,j⟩:=n;cases d with
 |true=>exact o f k g l D i j
 |false=>exact p f k g l D i j
def tNever:TS:=λ_ _ _=>False
theorem oS:PS X st tNever:=λ_ _ _ _ _ _ h=>h.elim
end
abbrev TG:=V->St->Hp->(St->Hp->Prop)->Prop
abbrev TGs:=List V->St->Hp->(St->Hp->Prop)->Prop
def PG(X:Cx)(a:Expr)(t:TG):Prop:=
 ∀(b:List (Addr×Obj)) (s:Shared) (d:St) (H:Hp) (v:V) (u:Value) (Q:St->Hp->Prop),Inv X b d H s->RelV v u->t v d H Q ->
  wpAny (model X.prog X.w) X.A (assign a X.env u) (λ_ f=>∃c e,Inv X b c e f/\Q c e) X.xe s
def zd(X:Cx)(ts:List Expr)(t:TGs):Prop:=
 ∀(a:List (Addr×Obj)) (s:Shared) (d:St) (H:Hp) (vs:List V) (c:List Value) (Q:St->Hp->Prop),Inv X a d H s->Vals vs c->t vs d H Q ->
  wpAny (model X.prog X.w) X.A (assignInOrder ((assignEach ts X.env).map (·.2)) c) (λ_ f=>∃b e,Inv X a b e f/\Q b e) X.xe s
abbrev sG:=V->V->V->Hp->(Hp->Prop)->Prop
def PSet(X:Cx)(t:sG):Prop:=
 ∀(a:List (Addr×Obj)) (s:Shared) (d:St) (H:Hp) (o i v:V) (b c u:Value) (Q:Hp->Prop),Inv X a d H s->RelV o b->RelV i c->RelV v u->t o i v H Q ->
  wpAny (model X.prog X.w) X.A (setItem b c u) (λ_ f=>∃e,Inv X a d e f/\Q e) X.xe s
abbrev TIp:=V->V->Hp->VK->Prop
def zA(X:Cx)(c:Operator)(t:TIp):Prop:=
 ∀(a:List (Addr×Obj)) (s:Shared) (b:St) (H:Hp) (x y:V) (v u:Value) (Q:VK),Inv X a b H s->RelV x v->RelV y u->t x y H Q ->
  wpAny (model X.prog X.w) X.A (inplaceOp c v u) (EP X a b Q) X.xe s
section
variable{X:Cx}{pos:Pos}
def jt(i:Nat):TG:=λv a H Q=>Q (a.set i (some v)) H
theorem sH(c:X.N.Nodup)(hi:X.N[i]?=some x)(d:Loc X.env.scope x)(b:X.fn x=true\/X.env.scope.names.lookup x=some .local:=by first|exact .inl rfl|exact .inr rfl|assumption):PG X (.Name x pos) (jt i):=by intro a s g H v u Q I r h;exact wpAny_assign_Name (br I c hi d r (λf e=>⟨_,H,e,h⟩) b)
def gNil:TGs:=λa b H Q=>a=[]/\Q b H
def zB(t:TG)(u:TGs):TGs:=λb c H Q=>∃v r,b=v::r/\t v c H λa d=>u r a d Q
theorem sI:zd X [] gNil:=by intro a s b H d c Q I r h;obtain⟨e,h⟩:=h;subst e;cases r;exact assignInOrder_nil ⟨b,H,I,h⟩
theorem oT{e:Expr}{es:List Expr}(l:PG X e t)(g:zd X es u)
  (o:(assignEach (e::es) X.env).map (·.2)=assign e X.env::(assignEach es X.env).map (·.2):=by rfl):zd X (e::es) (zB t u):=by
 intro a s j H q w Q I r h;obtain⟨v,p,n,h⟩:=h;subst n;cases r with
 |cons r m=>rw[o];refine assignInOrder_cons (thn (l a s j H _ _ _ I r h) λ_ f k=>?_);obtain⟨b,i,c,d⟩:=k;exact g a f b i _ _ Q c m d
def CU(K:Waa)(n:Nat)(t:TGs):TG:=λv c H Q=>∃a b,v=.ref a/\SqT K H a b/\b.length=n/\t b c H Q
theorem wz{k:Nat}(B:X.calm=true)(h:zd X es t)
  (m:(assignEach es X.env).length=n:=by rfl) (d:(assignEach es X.env).findIdx? (·.1)=none:=by rfl):PG X (.Tuple es k pos) (CU X.K n t):=by
 intro c s g H v u Q I r f;obtain⟨a,w,y,A,x,f⟩:=f;subst y;cases r;obtain⟨q,i,z,C⟩:=I.tuple A;refine assign_Tuple_tuple (I.ok.hd B) z (by simp[m,<-x,i.length]) d λj p=>?_;have l:Inv X c g H { s with heap:=j }:=I.kept λb o e=>p b o (aai (Heap.lt_size e)) e;exact h c _ g H w _ Q l (by simpa using i) f
def CV(c d:TE)(t:sG):TG:=λv a H Q=>c a H λo f=>d a f λi b=>t o i v b λe=>Q a e
theorem wA{o i:Expr}{g f:TE}{t:sG}(w:PE X o g)(hi:PE X i f)(C:PSet X t)
  (D:∀v,assign (.Subscript o i pos) X.env v=(do
   let b <-holding [v] (eval o X.env)
   let d <-holding [v,b] (eval i X.env)
   standAt pos
   holding [v,b,d] (setItem b d v)
   release [v,b,d] []):=by intro _;rfl):PG X (.Subscript o i pos) (CV g f t):=by
 intro a s e H v u Q I r h;rw[D];refine wpAny_bind (wpAny_holding (thn (w a s e H _ I h) λb p c=>?_));obtain⟨x,q,l,m,n⟩:=c;refine wpAny_bind (wpAny_holding (thn (hi a p e q _ l n) λd G c=>?_));obtain⟨y,j,k,z,L⟩:=c;refine wpAny_bind (wpAny_standAt (wpAny_bind (wpAny_holding (thn (C a G e j x y v b d u _ k m z r L) λ_ M c=>?_))));obtain⟨J,A,B⟩:=c;exact wpAny_release ⟨e,J,A,B⟩
def oU(c:TE)(g:TG):TS:=λD a H=>c a H λx b=>g x a b D.nx
theorem oV{b e:Expr}{d:TE}{g:TG}(r:PE X e d)(o:PG X b g)(p:swapsWithSole [b] e pos.line X.env=pure false:=by rfl)(t:swappedStores [b] e X.env=pure none:=by rfl)
  (n:(assignEach [b] X.env).map (·.2)=[assign b X.env]:=by rfl):PS X (.Assign [b] e pos) (oU d g):=by
 intro a s c H D I h;refine wpAny_Assign_stores (thn (r a s c H _ I h) λv k m=>?_) p t;obtain⟨x,l,f,i,j⟩:=m;rw[n];exact thn (o a k c l x v _ f i j) λ_ u q=>q
theorem wB{i:Nat}{x:Str}(g:X.N.Nodup)(hi:X.N[i]?=some x)(j:Loc X.env.scope x)(p:PE X e te)(o:swapsWith e (some (.Name x pos')) pos.line X.env=pure false:=by rfl)(b:X.fn x=true\/X.env.scope.names.lookup x=some .local:=by first|exact .inl rfl|exact .inr rfl|assumption):
  PS X (.Assign [.Name x pos'] e pos) (oU te (jt i)):=by
 intro a s m H D I h;refine wpAny_Assign_Name (thn (p a s m H _ I h) λv q n=>?_) o;obtain⟨y,l,d,f,k⟩:=n;exact br d g hi j f (λr c=>⟨_,l,c,k⟩) b
def CW(i j:Nat)(b:TA):TS:=λD a H=>b a H λd c=>∃v w,d=[v,w]/\D.nx ((a.set i (some v)).set j (some w)) c
theorem wC{i j:Nat}{x y:Str}{m r d}(hc:X.calm=true)(B:X.N.Nodup)(hi:X.N[i]?=some x)(Y:X.N[j]?=some y)(n:i≠j)
  (C:X.env.scope.names.lookup x=some .local) (L:X.env.scope.names.lookup y=some .local) (ha:PA X [a,b] ta)
  (hw:swappedStores [.Tuple [.Name x px,.Name y py] m pt] (.Tuple [a,b] r d) X.env=pure (some [x,y]))
  (hs:swapsWithSole [.Tuple [.Name x px,.Name y py] m pt] (.Tuple [a,b] r d) pos.line X.env=pure false:=by rfl):
  PS X (.Assign [.Tuple [.Name x px,.Name y py] m pt] (.Tuple [a,b] r d) pos) (CW i j ta):=by
 intro c s J H D I h;rw[exec_Assign_arm];refine wpAny_bind (wpAny_standAt ?_);rw[hs];refine wpAny_bind (wpAny_pure ?_);rw[if_neg (by decide)];refine wpAny_bind (Tuple_ (thn (ha _ c s J H _ I h) λus k S=>?_));obtain⟨vs,G,O,Q,l⟩:=S;obtain⟨v,w,Z,l⟩:=l;subst Z;obtain⟨f,g,rfl,U,t⟩:∃f g,us=[f,g]/\RelV v f/\RelV w g:=by
  cases Q with
  |cons p q=>
   cases q with
   |cons p' q'=>cases q';exact⟨_,_,rfl,p,p'⟩
 refine wpAny_newObj_type ?_ (by show 2<=sizeLine;decide);have M:Inv X c J G { k with heap:=k.heap.push { cls:=.type "tuple",data:=.seq [f,g].toArray } }:=O.kept λb o e=>Heap.get?_push_of_some _ e;rw[hw];refine wpAny_bind (wpAny_pure ?_);show wpAny (model X.prog X.w) X.A (do rule "assign.swapped-stores";let items <-unpackItems (.ref k.heap.objs.size) 2 none;assignInOrder [λv=>bindName X.env y v,λv=>bindName X.env x v] items.reverse;pure Flow.next) _ _ _;refine wpAny_bind (wpAny_rule (wpAny_bind (unpackItems_tuple (items:=#[f,g]) (I.ok.hd hc) (IsTup.new k.heap _) λh' u=>?_)));have T:=M.kept (t':=k.toks) λb o e=>u b o (aai (Heap.lt_size e)) e;show wpAny _ _ (assignInOrder [λv=>bindName X.env y v,λv=>bindName X.env x v] [g,f] >>= λ_=>pure Flow.next) _ _ _;refine wpAny_bind (assignInOrder_cons (wpAny_bindName (br T B Y (.inl L) t (λs2 I4=>?_) (.inr L))));refine assignInOrder_cons (wpAny_bindName (br I4 B hi (.inl C) U (λs3 z=>assignInOrder_nil (wpAny_pure ?_)) (.inr C)));rw[abn _ _ (aaz n)]at z;exact⟨_,G,z,l⟩
def CY(i:Nat)(e:TE)(c:TIp):TS:=λD a H=>∃x,a[i]?=some (some x)/\e a H λy d=>c x y d λz b=>D.nx (a.set i (some z)) b
theorem oW{i:Nat}{x:Str}{f:Pos}(O:X.N.Nodup)(hi:X.N[i]?=some x)(n:Loc X.env.scope x)(he:PE X e te)(U:zA X op ti)(B:X.fn x=true\/X.env.scope.names.lookup x=some .local:=by first|exact .inl rfl|exact .inr rfl|assumption):
  PS X (.AugAssign (.Name x f) op e pos) (CY i te ti):=by
 intro a s t H D I h;obtain⟨v,e1,h⟩:=h;obtain⟨m,M,Y⟩:=I.loc;have o:Vis X.env.scope x:=by rcases n with k|k;exact .inl k;exact .inr (.inl k)
 obtain⟨u,r,l⟩:=Y i x v hi e1 o;refine wpAny_AugAssign_Name ?_;have q:wpAny (model X.prog X.w) X.A (eval e X.env) (λw j=>wpAny (model X.prog X.w) X.A (inplaceOp op u w) (λr g=>wpAny (model X.prog X.w) X.A (storeName X.env x r) (λ_=>SP X a D .next) X.xe g) X.xe j) X.xe s:=by refine thn (he a s t H _ I h) λw S p=>?_;obtain⟨y,T,J,L,Q⟩:=p;refine thn (U a S t T v y u w _ J r L Q) λz s2 p=>?_;obtain⟨zv,C,G,Z,q2⟩:=p;exact br G O hi n Z (λs3 I3=>⟨_,C,I3,q2⟩) B
 rcases l with ⟨b,hm⟩|⟨b,c,hc,d⟩
 ·exact wpAny_loadName_local I.ok.kind b M hm q
 ·rcases b with b|b
  ·exact wpAny_loadName_cell I.ok.kind b hc d q
  ·rcases n with k|k
   ·have:X.env.scope.names.lookup x=some .free:=b;rw[k]at this;cases this
   ·have:X.env.scope.names.lookup x=some .free:=b;rw[k]at this;cases this
def EO(j h l:TE)(a:V->V->Hp->VK->Prop)(d:TIp)(b:sG):TS:=λD c H=>j c H λo g=>h c g λi e=>a o i e λx n=>l c n λy m=>d x y m λz k=>b o i z k λf=>D.nx c f
def FD(X:Cx)(t:V->V->Hp->VK->Prop):Prop:=
 ∀(a:List (Addr×Obj)) (s:Shared) (d:St) (H:Hp) (o i:V) (b c:Value) (Q:VK),Inv X a d H s->RelV o b->RelV i c->t o i H Q ->
  wpAny (model X.prog X.w) X.A (getItem b c) (EP X a d Q) X.xe s
def CZ(f:Int->Int->Int):TIp:=λx y H Q=>∃i j,x=.int i/\y=.int j/\Q (.int (f i j)) H
theorem wD:zA X .Add (CZ λi j=>i+j):=by intro a s g H x y v u Q I c d h;obtain⟨i,j,e,b,q⟩:=h;subst e;subst b;obtain⟨t,rfl⟩:=c;obtain⟨f,rfl⟩:=d;exact iadd_int ⟨.int _,H,I.tok _,⟨_,rfl⟩,q⟩
theorem wF:zA X .Sub (CZ λi j=>i-j):=by intro a s g H x y v u Q I c d h;obtain⟨i,j,e,b,q⟩:=h;subst e;subst b;obtain⟨t,rfl⟩:=c;obtain⟨f,rfl⟩:=d;exact isub_int ⟨.int _,H,I.tok _,⟨_,rfl⟩,q⟩
end
section
variable{X:Cx}{pos:Pos}
def wG(c:TT)(h:TS):TS:=λD a H=>∃W:Nat->St->Hp->Prop,(∃m,W m a H)/\∀m a H,W m a H ->
 c a H λb f=>if b=true then ∃N:St->Hp->Prop,(∀d g,N d g->∃e,e<m/\W e d g)/\h { D with nx:=N,ct:=N,bk:=D.nx } a f else D.nx a f
theorem oX{c:Expr}{g:List Stmt}(C:PassesOwn (model X.prog X.w) X.A X.env X.xe)(Y:PT X c tc)(S:PSs X g tb):PS X (.While c g [] pos) (wG tc tb):=by
 intro a s M H D I h;obtain⟨W,⟨Z,T⟩,j⟩:=h;refine wpAny_While (codeAny_whileLoop (λn L=>∃i B,Inv X a i B L/\W n i B) ?_ Z ⟨M,H,I,T⟩);rintro n J ⟨e,z,G,O⟩;refine wpAny_passesOwn C (thn (Y a J e z _ G (j n e z O)) λb U Q=>?_);obtain⟨u,x,m⟩:=Q;cases b with
 |true=>
  obtain⟨N,y,m⟩:=m;rw[if_pos rfl];refine wpAny_passesOwn C (thn (S a U e u _ x m) λf s3 l=>?_);cases f with
  |next=>obtain⟨d,k,q,o⟩:=l;obtain⟨r,t,p⟩:=y d k o;exact⟨r,t,d,k,q,p⟩
  |cont=>obtain⟨d,k,q,o⟩:=l;obtain⟨r,t,p⟩:=y d k o;exact⟨r,t,d,k,q,p⟩
  |brk=>exact l
  |ret v=>exact l
 |false=>rw[if_neg aab];exact wpAny_execs_nil ⟨e,u,x,m⟩
end
structure It where
 go:Nat->Hp->Prop
 yld:Nat->Hp->V->Hp->Prop
 stop:Nat->Hp->Prop
def FpOk(X:Cx)(a:List (Addr×Obj))(H:Hp)(b:Addr):Prop:=
 H b=none/\b≠X.env.locals/\b ∉ X.fs/\(b∈X.ex\/X.s₀.heap.objs.size<=b)/\(∀x c,X.env.cells.lookup x=some c->c≠b)/\∀p∈X.pn++a,p.1≠b
theorem Inv.q7(I:Inv X pins σ H s)(a:s.heap.objs.size<=b)(f:H' b=none):FpOk X pins H' b:=by
 refine⟨f,aaI (aar I.lt a),I.nofs a,.inr (aat I.sz a),λx c e z=>?_,λp d z=>?_⟩
 ·obtain⟨v,q⟩:=I.cell x c e;exact absurd (aar q.lt (by rw[z];exact a)) (aaM _)
 ·exact absurd (aar (Heap.lt_size (I.pin p d).1) (by rw[z];exact a)) (aaM _)
structure Turn (P:Program)(w:World)(K:Waa)(tg:Expr)(J:It)(fp:List Addr)(it:Addr)(tn:Nat->Heap->Prop):Prop where
 mem:it∈fp
 obj:∀i h,tn i h->∀b∈fp,∃o,h.get? b=some o/\∀v,o.data≠.cell v
 keep:∀i h h',tn i h->(∀b∈fp,∀o,h.get? b=some o->h'.get? b=some o)->tn i h'
 item:∀(X:Cx),X.prog=P->X.w=w->X.K=K->X.calm=true->∀(i:Nat) (pins:List (Addr×Obj)) (s:Shared) (σ:St) (H:Hp) (E:Value->Shared->Prop),Inv X pins σ H s->(∀b∈fp,FpOk X pins H b)->tn i s.heap->J.go i H ->
  wpAny (model P w) X.A (pyNext (.ref it)) (λr s1=>∃u,r=some u /\
   wpAny (model P w) X.A (letOwnedTupleGo tg (.ref it) u) (λ_ s2=>∃x H',Inv X pins σ H' s2/\RelV x u/\J.yld i H x H'/\tn (i+1) s2.heap/\∀b∈fp,H' b=none) E s1) E s
 done:∀(X:Cx),X.prog=P->X.w=w->X.K=K->X.calm=true->∀(i:Nat) (pins:List (Addr×Obj)) (s:Shared) (σ:St) (H:Hp) (E:Value->Shared->Prop),Inv X pins σ H s->(∀b∈fp,FpOk X pins H b)->tn i s.heap->J.stop i H ->
  wpAny (model P w) X.A (pyNext (.ref it)) (λr s1=>r=none/\Inv X pins σ H s1) E s
 self:∀(A:Around) (i:Nat) (s:Shared) (Q:Value->Shared->Prop) (E:Value->Shared->Prop),tn i s.heap->Q (.ref it) s->wpAny (model P w) A (pyIter (.ref it)) Q E s
abbrev TI:=St->Hp->(It->Hp->Prop)->Prop
def ER(X:Cx)(a:List (Addr×Obj))(σ:St)(i:Expr)(R:It->Hp->Prop)(c:Value)(e:Shared):Prop:=
 ∃(g:Addr) (h:List Addr) (f:Nat->Heap->Prop) (J:It) (d:Hp),c=.ref g/\Inv X a σ d e/\Turn X.prog X.w X.K i J h g f/\f 0 e.heap/\(∀b∈h,FpOk X a d b)/\R J d
def PI(X:Cx)(d b:Expr)(f:TI):Prop:=
 ∀(a:List (Addr×Obj)) (s:Shared) (c:St) (H:Hp) (R:It->Hp->Prop),Inv X a c H s->f c H R ->
  wpAny (model X.prog X.w) X.A (eval b X.env) (λv e=>wpAny (model X.prog X.w) X.A (pyIter v) (ER X a c d R) X.xe e) X.xe s
theorem lE(e:s.heap.get? it=some o)(b:o.cls=.type n)(d:o.data=.fields vs)
  (c:["enumerate","zip","dict_itemiterator","dict_reverseitemiterator","odict_iterator","itertools.zip_longest","itertools.pairwise"].contains n=false) (a:Q () s):wpAny M A (letOwnedTupleGo tg (.ref it) u) Q E s:=by
 unfold letOwnedTupleGo;cases tg<;>first
  |exact wpAny_pure a
  | (cases u<;>first
    |exact wpAny_pure a
    | (refine wpAny_bind (wpAny_load e ?_)
       rw[b,d];show wpAny M A (if (["enumerate","zip","dict_itemiterator","dict_reverseitemiterator","odict_iterator","itertools.zip_longest","itertools.pairwise"].contains n&&vs[0]?==some (rawInt _))=true then _ else _) Q E s;rw[if_neg (by intro h;rw[c,Bool.false_and]at h;cases h)];exact wpAny_pure a))
def C1(K:Waa)(a:Addr):It:=
 ⟨λi H=>∃b x,SqL K H a b/\b[i]?=some x,λi H x c=>c=H/\∀b,SqL K H a b->b[i]?=some x,λi H=>∃b,SqL K H a b/\b.length<=i⟩
def C2(K:Waa)(a:Addr):It:=
 ⟨λi H=>∃b x,SqT K H a b/\b[i]?=some x,λi H x c=>c=H/\∀b,SqT K H a b->b[i]?=some x,λi H=>∃b,SqT K H a b/\b.length<=i⟩
def zC(lo:Int)(n:Nat):It:=⟨λi _=>i<n,λi H x a=>a=H/\x=.int (lo+i),λi _=>n<=i⟩
theorem m8{K:Waa}(a it:Addr):Turn P w K tg (C1 K a) [it] it (λi h=>h.IsListIter it a i) where
 mem:=by simp
 obj:=λi h f b j=>by
  have e:b=it:=by simpa using j
  subst e;obtain⟨o,e,c,d⟩:=f;exact⟨o,e,λv z=>by rw[d]at z;cases z⟩
 keep:=λi h q f k=>f.at λo e=>k it (by simp) o e
 item:=by intro X N M C Q i g s O H E I m f G;subst N M C;obtain⟨U,x,n,r⟩:=G;obtain⟨y,J,p,Y⟩:=I.list n;obtain⟨u,hu,Z⟩:=J.get r;obtain⟨D,t,f2,L,A,B⟩:=m it (by simp);refine wpAny_pyNext_list_item f p.isList (by simpa using hu) λq l sb=>?_;have S:Inv X g O H { s with heap:=q }:=I.turned (λb o j e=>(sb.2 b j).trans e) D t L A B;obtain⟨o,e,c,d⟩:=id l;exact⟨u,rfl,lE e c d (by decide) ⟨x,H,S,Z,⟨rfl,λys hy=>by rw[I.pa hy n];exact r⟩,l,λb j=>(m b j).1⟩⟩
 done:=by
  intro X N M C Q i g s O H E I m f G;subst N M C;obtain⟨U,n,r⟩:=G;obtain⟨y,J,p,Y⟩:=I.list n;obtain⟨D,t,f2,L,A,B⟩:=m it (by simp);have hl:=J.length;exact wpAny_pyNext_list_end (I.ok.hd Q) f p.isList (by simp;omega) λq T=>⟨rfl,I.turned (λb o j e=>T b o j e) D t L A B⟩
 self:=λ_ _ _ _ _ f h=>wpAny_pyIter_listiter f h
theorem km{K:Waa}(a it:Addr):Turn P w K tg (C2 K a) [it] it (λi h=>h.IsTupleIter it a i) where
 mem:=by simp
 obj:=λi h f b l=>by
  have e:b=it:=by simpa using l
  subst e;obtain⟨o,e,c,d⟩:=f;exact⟨o,e,λv z=>by rw[d]at z;cases z⟩
 keep:=λi h r f k=>f.at λo e=>k it (by simp) o e
 item:=by intro X N M C Q i g s O H E I n f G;subst N M C;obtain⟨U,x,q,t⟩:=G;obtain⟨j,J,p,Y⟩:=I.tuple q;obtain⟨u,hu,Z⟩:=J.get t;obtain⟨D,y,f2,L,A,B⟩:=n it (by simp);refine wpAny_pyNext_tuple_item f (show s.heap.IsTuple a j.toArray from p) (by simpa using hu) λr m sb=>?_;have S:Inv X g O H { s with heap:=r }:=I.turned (λb o l e=>(sb.2 b l).trans e) D y L A B;obtain⟨o,e,c,d⟩:=id m;exact⟨u,rfl,lE e c d (by decide) ⟨x,H,S,Z,⟨rfl,λys hy=>by rw[I.r8 hy q];exact t⟩,m,λb l=>(n b l).1⟩⟩
 done:=by
  intro X N M C Q i g s O H E I n f G;subst N M C;obtain⟨U,q,t⟩:=G;obtain⟨j,J,p,Y⟩:=I.tuple q;obtain⟨D,y,f2,L,A,B⟩:=n it (by simp);have hl:=J.length;exact wpAny_pyNext_tuple_end (I.ok.hd Q) f (show s.heap.IsTuple a j.toArray from p) (by simp;omega) λr T=>⟨rfl,I.turned (λb o l e=>T b o l e) D y L A B⟩
 self:=λ_ _ _ _ _ f h=>wpAny_pyIter_tupleiter f h
theorem kn{K:Waa}(it:Addr)(lo:Int)(n:Nat):Turn P w K tg (zC lo n) [it] it (λi h=>IsRangeIter h it (lo+(i:Nat)*1) ((n:Int)-(i:Nat)) 1) where
 mem:=by simp
 obj:=λi h a b d=>by
  have e:b=it:=by simpa using d
  subst e;exact⟨_,a,λv z=>by
   have J:Data.fields _=Data.cell v:=z;cases J⟩
 keep:=λi h j a k=>k it (by simp) _ a
 item:=by intro X B A q x i c s C H E I g a u;subst B A q;obtain⟨r,l,M,y,m,p⟩:=g it (by simp);have W:=Walks.range (prog:=X.prog) (w:=X.w) (I.ok.hd x) it lo 1 n;refine W.item i s _ _ u a λv j N O f L=>?_;obtain⟨t,rfl⟩:=O;have D:Inv X c C H { s with heap:=j,toks:=N }:=I.turned (λb o d e=>L b o (by simpa using d) e) r l y m p;refine⟨_,rfl,lE f rfl rfl (by decide) ⟨.int (lo+i),H,D,⟨t,?_⟩,⟨rfl,rfl⟩,f,λb d=>(g b d).1⟩⟩;rw[Int.mul_one]
 done:=by
  intro X B A q x i c s C H E I g a u;subst B A q;obtain⟨r,l,M,y,m,p⟩:=g it (by simp);exact wpAny_pyNext_range_end (I.ok.hd x) a (by have:n<=i:=u;omega) λj G=>⟨rfl,I.turned (λb o d e=>G b o d e) r l y m p⟩
 self:=λ_ _ _ _ _ a h=>wpAny_pyIter_rangeiter a h
end
section
section
variable{X:Cx}{tg:Expr}
def zD(K:Waa)(e:TE):TI:=λd H R=>e d H λx b=>∃a,x=.ref a/\(∃c,SqL K b a c)/\R (C1 K a) b
def C3(K:Waa)(e:TE):TI:=λd H R=>e d H λx b=>∃a,x=.ref a/\(∃c,SqT K b a c)/\R (C2 K a) b
theorem sJ{l:Expr}{g:TE}(r:PE X l g):PI X tg l (zD X.K g):=by
 intro c s m H R I h;refine thn (r c s m H _ I h) λv f t=>?_;obtain⟨x,k,d,i,j⟩:=t;obtain⟨a,e,⟨y,w⟩,q⟩:=j;subst e;cases i;obtain⟨n,A,p,z⟩:=d.list w;refine wpAny_pyIter_list p.isList ?_;refine⟨f.heap.objs.size,[f.heap.objs.size],_,_,k,rfl,d.kept (t':=f.toks) λb o e=>Heap.get?_push_of_some _ e,m8 a _,⟨_,Heap.get?_push_size _ rfl,rfl,rfl⟩,λb u=>?_,q⟩;have e:b=f.heap.objs.size:=by simpa using u
 subst e;exact d.q7 (aac _) (d.hok.fresh (aac _))
theorem wH{l:Expr}{i:TE}(r:PE X l i):PI X tg l (C3 X.K i):=by
 intro d s n H R I h;refine thn (r d s n H _ I h) λv c t=>?_;obtain⟨x,m,f,j,k⟩:=t;obtain⟨a,e,⟨y,w⟩,q⟩:=k;subst e;cases j;obtain⟨g,A,p,z⟩:=f.tuple w;refine wpAny_pyIter_tuple (show c.heap.IsTuple a g.toArray from p) ?_;refine⟨c.heap.objs.size,[c.heap.objs.size],_,_,m,rfl,f.kept (t':=c.toks) λb o e=>Heap.get?_push_of_some _ e,km a _,⟨_,Heap.get?_push_size _ rfl,rfl,rfl⟩,λb u=>?_,q⟩;have e:b=c.heap.objs.size:=by simpa using u
 subst e;exact f.q7 (aac _) (f.hok.fresh (aac _))
theorem ju{R:It->Hp->Prop}{lo hi:Int}{t u v:Tok}{c:Nat}(I:Inv X pins σ H s)(h:-(2^62)<=lo)(f:lo<2^62)(g:-(2^62)<=hi)(i:hi<2^62)
  (q:R (zC lo (hi-lo).toNat) H):wpAny (model X.prog X.w) X.A (pyIter (.ref s.heap.objs.size)) (ER X pins σ tg R) E { s with heap:=s.heap.push { cls:=.type "range",data:=.fields #[.int lo t,.int hi u,.int 1 v] },toks:=c }:=by
 refine wpAny_pyIter_range (IsRange.new ..) (small_one h f g i) ?_;have a:Inv X pins σ H { s with heap:=s.heap.push { cls:=.type "range",data:=.fields #[.int lo t,.int hi u,.int 1 v] },toks:=c }:=I.kept λb o e=>Heap.get?_push_of_some _ e;refine⟨(s.heap.push { cls:=.type "range",data:=.fields #[.int lo t,.int hi u,.int 1 v] }).objs.size,[(s.heap.push { cls:=.type "range",data:=.fields #[.int lo t,.int hi u,.int 1 v] }).objs.size],_,_,H,rfl,
  a.kept λb o e=>Heap.get?_push_of_some _ e,kn _ lo (hi-lo).toNat,?_,λb k=>?_,q⟩
 ·have j:lo+((0:Nat):Int)*1=lo:=by simp
  have d:(((hi-lo).toNat:Nat):Int)-((0:Nat):Int)=Builtin.Range.rangeSize lo hi 1:=by rw[rangeSize_one];split<;>omega
  show IsRangeIter _ _ (lo+((0:Nat):Int)*1) ((((hi-lo).toNat:Nat):Int)-((0:Nat):Int)) 1;rw[j,d];exact Heap.get?_push_size _ rfl
 ·have e:b=(s.heap.push { cls:=.type "range",data:=.fields #[.int lo t,.int hi u,.int 1 v] }).objs.size:=by simpa using k
  subst e;exact a.q7 (aac _) (a.hok.fresh (aac _))
def zF(c:TA):TI:=λb H R=>c b H λa d=>∃j:Int,a=[.int j]/\-(2^62)<=j/\j<2^62/\R (zC 0 j.toNat) d
def zG(c:TA):TI:=λb H R=>c b H λa d=>∃i j:Int,a=[.int i,.int j]/\(-(2^62)<=i/\i<2^62/\-(2^62)<=j/\j<2^62)/\R (zC i (j-i).toNat) d
theorem m9{a:Expr}{f:TA}{p c:Pos} (n:Gl X "range") (v:X.mg "range"=none) (u:PA X [a] f) (o:starEach [a] X.env=[(false,eval a X.env)]:=by rfl):PI X tg (.Call (.Name "range" p) [a] [] c) (zF f):=by
 intro b s k H R I h;refine Call_ (cy I n v boot_range (aa7 (thn (u c b s k H _ I h) λA x l=>?_) o rfl));obtain⟨z,y,g,i,d⟩:=l;obtain⟨j,e,d,w,q⟩:=d;subst e;cases i with
 |cons r m=>cases m;obtain⟨t,rfl⟩:=r;exact call_range_1 (ju g (by omega) (by omega) d w (by simpa using q))
theorem nh{a b:Expr}{l:TA}{p d:Pos} (x:Gl X "range") (A:X.mg "range"=none) (z:PA X [a,b] l) (y:starEach [a,b] X.env=[(false,eval a X.env),(false,eval b X.env)]:=by rfl) (f:starEach [b] X.env=[(false,eval b X.env)]:=by rfl):
  PI X tg (.Call (.Name "range" p) [a,b] [] d) (zG l):=by
 intro c s o H R I h;refine Call_ (cy I x A boot_range (aa7 (thn (z d c s o H _ I h) λM D u=>?_) (by rw[y,f]) (by rw[f];rfl)));obtain⟨L,J,m,n,g⟩:=u;obtain⟨i,j,e,⟨g,B,w,v⟩,q⟩:=g;subst e;cases n with
 |cons r k=>
  cases k with
  |cons C k=>cases k;obtain⟨t,rfl⟩:=r;obtain⟨G,rfl⟩:=C;exact call_range_2 (ju m g B w v q)
def C4(h:TI)(g:TG)(j:TS):TS:=λD a H=>h a H λJ k=>∃W:Nat->Nat->St->Hp->Prop,(∃m,W 0 m a k)/\∀i m a H,W i m a H ->
 (J.stop i H/\D.nx a H)\/(J.go i H/\∃N:St->Hp->Prop,(∀b c,N b c->∃e,e<m/\W (i+1) e b c)/\∀x c,J.yld i H x c->g x a c λd f=>j { D with nx:=N,ct:=N,bk:=D.nx } d f)
def pinsAt(a:List Addr)(h:Heap):List (Addr×Obj):=a.filterMap λb=>(h.get? b).map λo=>(b,o)
theorem bf(a:b∈fp)(e:h.get? b=some o):(b,o)∈pinsAt fp h:=List.mem_filterMap.mpr ⟨b,a,by rw[e];rfl⟩
theorem ni(a:p∈pinsAt fp h):p.1∈fp/\h.get? p.1=some p.2:=by
 obtain⟨b,d,e⟩:=List.mem_filterMap.mp a;cases q:h.get? b with
 |none=>rw[q]at e;cases e
 |some o=>rw[q]at e;have c:(b,o)=p:=aaD e;subst c;exact⟨d,q⟩
theorem Inv.pinned(I:Inv X pins σ H s)(g:∀b∈fp,FpOk X pins H b)(i:∀b∈fp,∃o,s.heap.get? b=some o/\∀v,o.data≠.cell v):Inv X (pins++pinsAt fp s.heap) σ H s:=
 I.ry λp h=>(aaj.mp h).elim (λz=>I.pin p (aad _ z)) λz=>by obtain⟨c,e⟩:=ni z;obtain⟨f,k,j,_⟩:=g p.1 c;obtain⟨o,a,d⟩:=i p.1 c;rw[e]at a;cases a;exact⟨e,f,k,j,d⟩
theorem Inv.et(I:Inv X (pins++pl) σ H s):Inv X pins σ H s:=I.ry λp a=>I.pin p (aad _ (aae _ a))
theorem wI{y:Expr}{G:List Stmt}{a4:Pos}(U:PassesOwn (model X.prog X.w) X.A X.env X.xe)(hc:X.calm=true)(hi:PI X tg y wi)(hg:PG X tg g)(z:PSs X G tb)
  (hs:∀x,foldedSetIterable y X.env x=pure x:=by intro _;rfl):PS X (.For tg y G [] a4) (C4 wi g tb):=by
 intro a s σ H D I h;refine wpAny_For (thn (hi a s σ H _ I h) λv s1 h1=>thn h1 λa6 s2 h2=>?_) hs;obtain⟨it,fp,tn,J,H2,e,I2,T,a5,f2,W,⟨m0,w0⟩,Z⟩:=h2;subst e;have p:∀{B:Hp},(∀b∈fp,B b=none)->∀b∈fp,FpOk X a B b:=λhn b z=>⟨hn b z,(f2 b z).2⟩
 refine codeAny_forLoop_any (λn s'=>∃i l B,Inv X a l B s'/\tn i s'.heap/\(∀b∈fp,B b=none)/\W i n l B) ?_ m0 ⟨0,σ,H2,I2,a5,λb z=>(f2 b z).1,w0⟩;rintro n s3 ⟨i,k,H3,I3,Y,S,w3⟩;rcases Z i n k H3 w3 with ⟨Q,qn⟩|⟨go,N,hN,a0⟩
 ·refine wpAny_passesOwn U (thn (T.done X rfl rfl rfl hc i a s3 k H3 X.xe I3 (p S) Y Q) λr s4 M=>?_);obtain⟨hr,I4⟩:=M;subst hr;exact wpAny_execs_nil ⟨k,H3,I4,qn⟩
 ·refine wpAny_passesOwn U (thn (T.item X rfl rfl rfl hc i a s3 k H3 X.xe I3 (p S) Y go) λr s4 M=>?_);obtain⟨u,hr,h4⟩:=M;subst hr;refine wpAny_passesOwn U (thn h4 λ_ s5 M=>?_);obtain⟨x,H5,I5,r5,y5,L,a2⟩:=M;have a1:=I5.pinned (p a2) (T.obj _ _ L);refine wpAny_passesOwn U (thn (hg _ s5 k H5 x u _ a1 r5 (a0 x H5 y5)) λ_ s6 M=>?_);obtain⟨a3,H6,I6,q6⟩:=M;refine wpAny_passesOwn U (thn (z _ s6 a3 H6 _ I6 q6) λf s7 C=>?_);have t:∀{c:St}{q:Hp},Inv X (a++pinsAt fp s5.heap) c q s7->N c q->∃m,m<n/\∃i l B,Inv X a l B s7/\tn i s7.heap/\(∀b∈fp,B b=none)/\W i m l B:=λ{c q} j O=>by obtain⟨m',hm,w7⟩:=hN c q O;refine⟨m',hm,i+1,c,q,j.et,T.keep _ _ _ L λb z o e=>(j.pin (b,o) (aad _ (aad _ (bf z e)))).1,λb z=>?_,w7⟩;obtain⟨o,e,d⟩:=T.obj _ _ L b z;exact(j.pin (b,o) (aad _ (aad _ (bf z e)))).2.1
  cases f with
  |next=>obtain⟨c,q,j,O⟩:=C;exact t j O
  |cont=>obtain⟨c,q,j,O⟩:=C;exact t j O
  |brk=>obtain⟨c,q,j,C⟩:=C;exact⟨c,q,j.et,C⟩
  |ret v=>obtain⟨x7,c,q,j,r7,C⟩:=C;exact⟨x7,c,q,j.et,r7,C⟩
end
end
section
abbrev R2:=V->V->Hp->VK->Prop
def OpR(X:Cx)(f:Value->Value->Sem Value)(r:R2):Prop:=
 ∀(a:List (Addr×Obj)) (s:Shared) (b:St) (H:Hp) (x y:V) (v u:Value) (Q:VK),Inv X a b H s->RelV x v->RelV y u->r x y H Q ->
  wpAny (model X.prog X.w) X.A (f v u) (EP X a b Q) X.xe s
def C5(X:Cx)(f:Value->Sem Value)(r:V->Hp->VK->Prop):Prop:=
 ∀(a:List (Addr×Obj)) (s:Shared) (b:St) (H:Hp) (x:V) (v:Value) (Q:VK),Inv X a b H s->RelV x v->r x H Q ->
  wpAny (model X.prog X.w) X.A (f v) (EP X a b Q) X.xe s
def CallR(X:Cx)(f:Value)(r:List V->Hp->VK->Prop):Prop:=
 ∀(a:List (Addr×Obj)) (s:Shared) (d:St) (H:Hp) (c:List V) (b:List Value) (Q:VK),Inv X a d H s->Vals c b->r c H Q ->
  wpAny (model X.prog X.w) X.A (call f b) (EP X a d Q) X.xe s
def C6(X:Cx)(r:V->Hp->(Bool->Hp->Prop)->Prop):Prop:=
 ∀(a:List (Addr×Obj)) (s:Shared) (b:St) (H:Hp) (x:V) (v:Value) (Q:Bool->Hp->Prop),Inv X a b H s->RelV x v->r x H Q ->
  wpAny (model X.prog X.w) X.A (truthy v) (TP X a b Q) X.xe s
def zH(r:R2)(d c:TE):TE:=λa H Q=>d a H λx e=>c a e λy b=>r x y b Q
def FE(r:V->Hp->VK->Prop)(a:TE):TE:=λc H Q=>a c H λx b=>r x b Q
def rI(C:Int->Int->Prop)(g:Int->Int->V):R2:=λx y H Q=>∃i j,x=.int i/\y=.int j/\C i j/\Q (g i j) H
def sj(g:Int->Int->V):R2:=λx y H Q=>∃i j,x=.int i/\y=.int j/\Q (g i j) H
def rU(g:Int->V):V->Hp->VK->Prop:=λx H Q=>∃i,x=.int i/\Q (g i) H
section
variable{X:Cx}{a b c:Expr}{ta tb tc:TE}{pos:Pos}
theorem wJ(z:PE X a ta)(B:PE X b tb){d:List (Addr×Obj)}{s:Shared}{R:V->V->Hp->Prop}(I:Inv X d σ H s)
  (h:ta σ H λx k=>tb σ k λy e=>R x y e) {f:Value->Value->Sem Value}
  (m:∀v u j x y e,Inv X d σ e j->RelV x v->RelV y u->R x y e->wpAny (model X.prog X.w) X.A (f v u) Q X.xe j):
  wpAny (model X.prog X.w) X.A (eval a X.env) (λv g=>wpAny (model X.prog X.w) X.A (eval b X.env) (λu i=>wpAny (model X.prog X.w) X.A (f v u) Q X.xe i) X.xe g) X.xe s:=by
 refine thn (z d s σ H _ I h) λv r l=>?_;obtain⟨x,k,o,p,q⟩:=l;refine thn (B d r σ k _ o q) λu j l=>?_;obtain⟨y,e,n,t,C⟩:=l;exact m v u j x y e n p t C
theorem lF(j:OpR X (binaryOp op) r)(l:PE X a ta)(m:PE X b tb):PE X (.BinOp a op b pos) (zH r ta tb):=by intro d s i H Q I h;exact wpAny_BinOp (wJ l m I h λv u n x y e f g k q=>j d n i e x y v u Q f g k q)
theorem vk{e:UnaryOp}(l:C5 X (unaryOp e) r)(n:PE X a ta):PE X (.UnaryOp e a pos) (FE r ta):=by intro d s f H Q I h;exact UnaryOp_ (thn (n d s f H _ I h) λv j ⟨x,m,g,i,k⟩=>l d j f m x v Q g i k)
theorem Cj{f:Value->Value->Sem Value}{g:Int->Int->Int}
  (rule:∀(i j:Int) (t u:Tok) (s:Shared) (Q:Value->Shared->Prop) (E:Value->Shared->Prop),C i j->Q (.int (g i j) s.toks) { s with toks:=s.toks+1 }->wpAny (model X.prog X.w) X.A (f (.int i t) (.int j u)) Q E s):
  OpR X f (rI C λi j=>.int (g i j)):=by
 intro d s n H x y v u Q I e l h;obtain⟨i,j,rfl,rfl,m,q⟩:=h;obtain⟨t,rfl⟩:=e;obtain⟨k,rfl⟩:=l;exact rule i j t k s _ _ m ⟨.int (g i j),H,I.tok _,⟨_,rfl⟩,q⟩
theorem zI{f:Value->Value->Sem Value}{g:Int->Int->Int}
  (rule:∀(i j:Int) (t u:Tok) (s:Shared) (Q:Value->Shared->Prop) (E:Value->Shared->Prop),Q (.int (g i j) s.toks) { s with toks:=s.toks+1 }->wpAny (model X.prog X.w) X.A (f (.int i t) (.int j u)) Q E s):
  OpR X f (sj λi j=>.int (g i j)):=by
 intro d s m H x y v u Q I e l h;obtain⟨i,j,rfl,rfl,q⟩:=h;obtain⟨t,rfl⟩:=e;obtain⟨k,rfl⟩:=l;exact rule i j t k s _ _ ⟨.int (g i j),H,I.tok _,⟨_,rfl⟩,q⟩
theorem sL{g:Int->Int->Bool}
  (rule:∀(i j:Int) (t u:Tok) (s:Shared) (Q:Value->Shared->Prop) (E:Value->Shared->Prop),Q (.bool (g i j)) s->wpAny (model X.prog X.w) X.A (f (.int i t) (.int j u)) Q E s):
  OpR X f (sj λi j=>.bl (g i j)):=by
 intro d s m H x y v u Q I e l h;obtain⟨i,j,rfl,rfl,q⟩:=h;obtain⟨t,rfl⟩:=e;obtain⟨k,rfl⟩:=l;exact rule i j t k s _ _ ⟨.bl (g i j),H,I,rfl,q⟩
def zJ(i j:Int):Prop:=0<j/\j<1073741824
def ES(i j:Int):Prop:=j≠0/\j.natAbs<1073741824
def zK(i j:Int):Prop:=0<=j/\j<=1000000/\i.natAbs<2^64
def CMul(i j:Int):Prop:=(-(2^64)<i/\i<2^64)\/(-(2^64)<j/\j<2^64)
theorem CMul.ok{i j:Int}(h:CMul i j):IntMulOk i j:=by
 rcases h with ⟨d,e⟩|⟨d,e⟩
 ·exact .of_left (intBits_le_64 d e)
 ·exact .of_right (intBits_le_64 d e)
theorem wK:OpR X (binaryOp .Add) (sj λi j=>.int (i+j)):=zI λ_ _ _ _ _ _ _ q=>add_int q
theorem wL:OpR X (binaryOp .Sub) (sj λi j=>.int (i-j)):=zI λ_ _ _ _ _ _ _ q=>sub_int q
theorem wM:OpR X (binaryOp .Mult) (rI CMul λi j=>.int (i*j)):=Cj λ_ _ _ _ _ _ _ d q=>mul_int q d.ok
theorem sM:OpR X (binaryOp .FloorDiv) (rI zJ λi j=>.int (i/j)):=Cj λi j _ _ _ _ _ d q=>by have e:(0:Int)<j:=d.1;have f:j<1073741824:=d.2;exact floordiv_int (by omega) (by rw[Int.fdiv_eq_ediv_of_nonneg i (by omega)];exact q) (.inl (ab1 (by omega)))
theorem wN:OpR X (binaryOp .Mod) (rI (λ_ j=>0<j) λi j=>.int (i%j)):=Cj λi j _ _ _ _ _ d q=>by have e:(0:Int)<j:=d;exact mod_int' (by omega) (by rw[Int.fmod_eq_emod_of_nonneg i (by omega)];exact q)
theorem wO:OpR X (binaryOp .Pow) (rI zK λi j=>.int (i^j.toNat)):=Cj λ_ _ _ _ _ _ _ d q=>pow_int_small d.1 d.2.1 d.2.2 q
theorem unI{f:Value->Sem Value}{g:Int->Int}
  (rule:∀(i:Int) (t:Tok) (s:Shared) (Q:Value->Shared->Prop) (E:Value->Shared->Prop),Q (.int (g i) s.toks) { s with toks:=s.toks+1 }->wpAny (model X.prog X.w) X.A (f (.int i t)) Q E s):
  C5 X f (rU λi=>.int (g i)):=by
 intro d s j H x v Q I e h;obtain⟨i,rfl,q⟩:=h;obtain⟨t,rfl⟩:=e;exact rule i t s _ _ ⟨.int (g i),H,I.tok _,⟨_,rfl⟩,q⟩
theorem oY:C5 X (unaryOp .USub) (rU λi=>.int (-i)):=unI λ_ _ _ _ _ q=>neg_int q
end
def wQ:V->V->Bool
 |.non,.non=>true|.non,.int _=>true|.int _,.non=>true|.non,.bl _=>true|.bl _,.non=>true|.non,.str _=>true|.str _,.non=>true
 |.int _,.int _=>true|.bl _,.bl _=>true|.str _,.str _=>true|.byt _,.byt _=>true
 |.int _,.str _=>true|.str _,.int _=>true|.bl _,.str _=>true|.str _,.bl _=>true
 |_,_=>false
def rEq:R2:=λx y H Q=>wQ x y=true/\Q (.bl (decide (x=y))) H
def rNe:R2:=λx y H Q=>wQ x y=true/\Q (.bl (!decide (x=y))) H
theorem lG:decide (V.int i=V.int j)=(i==j):=by rw[abo];simp
theorem oZ:decide (V.bl i=V.bl j)=(i==j):=by rw[abo];simp
theorem lH:decide (V.str i=V.str j)=(i==j):=by rw[abo];simp
theorem lI:decide (V.byt i=V.byt j)=(i.toList==j.toList):=by rw[abo];cases i;cases j;simp
section
variable{X:Cx}{a b c:Expr}{ta tb tc:TE}{pos:Pos}
theorem ax(I:Inv X pins σ H s)(q:Q (.bl k) H)(e:k=k'):EP X pins σ Q (.bool k') s:=by subst e;exact⟨.bl k,H,I,rfl,q⟩
theorem op_eq:OpR X (compareOp .Eq) rEq:=by
 intro k s l H x y v u Q I g d h;obtain⟨f,q⟩:=h;cases x with
 |non=>
  cases g;cases y with
  |non=>cases d;exact PySem.EqNone.eq_none_none (ax I q (by simp))
  |bl j=>cases d;exact PySem.EqNone.eq_none_bool (ax I q (by simp))
  |int j=>obtain⟨e,rfl⟩:=d;exact PySem.EqNone.eq_none_int (ax I q (by simp))
  |str j=>obtain⟨e,rfl⟩:=d;exact PySem.EqNone.eq_none_str (ax I q (by simp))
  |_=>exact absurd (show false=true from f) aab
 |bl i=>
  cases g;cases y with
  |non=>cases d;exact PySem.EqNone.eq_bool_none (ax I q (by simp))
  |bl j=>cases d;exact eq_bool (ax I q oZ)
  |str j=>obtain⟨e,rfl⟩:=d;exact PySem.EqMixed.eq_bool_str (ax I q (by simp))
  |_=>exact absurd (show false=true from f) aab
 |int i=>
  obtain⟨t,rfl⟩:=g;cases y with
  |non=>cases d;exact PySem.EqNone.eq_int_none (ax I q (by simp))
  |int j=>obtain⟨e,rfl⟩:=d;exact eq_int (ax I q lG)
  |str j=>obtain⟨e,rfl⟩:=d;exact PySem.EqMixed.eq_int_str (ax I q (by simp))
  |_=>exact absurd (show false=true from f) aab
 |str i=>
  obtain⟨t,rfl⟩:=g;cases y with
  |non=>cases d;exact PySem.EqNone.eq_str_none (ax I q (by simp))
  |bl j=>cases d;exact PySem.EqMixed.eq_str_bool (ax I q (by simp))
  |int j=>obtain⟨e,rfl⟩:=d;exact PySem.EqMixed.eq_str_int (ax I q (by simp))
  |str j=>obtain⟨e,rfl⟩:=d;exact eq_str (ax I q lH)
  |_=>exact absurd (show false=true from f) aab
 |byt i=>
  obtain⟨t,rfl⟩:=g;cases y with
  |byt j=>obtain⟨e,rfl⟩:=d;exact PySem.W.eq_bytes (ax I q lI)
  |_=>exact absurd (show false=true from f) aab
 |_=>cases y<;>exact absurd (show false=true from f) aab
theorem op_ne:OpR X (compareOp .NotEq) rNe:=by
 intro k s l H x y v u Q I g d h;obtain⟨f,q⟩:=h;cases x with
 |non=>
  cases g;cases y with
  |non=>cases d;exact PySem.EqNone.ne_none_none (ax I q (by simp))
  |bl j=>cases d;exact PySem.EqNone.ne_none_bool (ax I q (by simp))
  |int j=>obtain⟨e,rfl⟩:=d;exact PySem.EqNone.ne_none_int (ax I q (by simp))
  |str j=>obtain⟨e,rfl⟩:=d;exact PySem.EqNone.ne_none_str (ax I q (by simp))
  |_=>exact absurd (show false=true from f) aab
 |bl i=>
  cases g;cases y with
  |non=>cases d;exact PySem.EqNone.ne_bool_none (ax I q (by simp))
  |bl j=>cases d;exact ne_bool (ax I q (congrArg not oZ))
  |str j=>obtain⟨e,rfl⟩:=d;exact PySem.EqMixed.ne_bool_str (ax I q (by simp))
  |_=>exact absurd (show false=true from f) aab
 |int i=>
  obtain⟨t,rfl⟩:=g;cases y with
  |non=>cases d;exact PySem.EqNone.ne_int_none (ax I q (by simp))
  |int j=>obtain⟨e,rfl⟩:=d;exact ne_int (ax I q (congrArg not lG))
  |str j=>obtain⟨e,rfl⟩:=d;exact PySem.EqMixed.ne_int_str (ax I q (by simp))
  |_=>exact absurd (show false=true from f) aab
 |str i=>
  obtain⟨t,rfl⟩:=g;cases y with
  |non=>cases d;exact PySem.EqNone.ne_str_none (ax I q (by simp))
  |bl j=>cases d;exact PySem.EqMixed.ne_str_bool (ax I q (by simp))
  |int j=>obtain⟨e,rfl⟩:=d;exact PySem.EqMixed.ne_str_int (ax I q (by simp))
  |str j=>obtain⟨e,rfl⟩:=d;exact ne_str (ax I q (congrArg not lH))
  |_=>exact absurd (show false=true from f) aab
 |byt i=>
  obtain⟨t,rfl⟩:=g;cases y with
  |byt j=>obtain⟨e,rfl⟩:=d;exact PySem.W.ne_bytes (ax I q (congrArg not lI))
  |_=>exact absurd (show false=true from f) aab
 |_=>cases y<;>exact absurd (show false=true from f) aab
theorem zL:OpR X (compareOp .Lt) (sj λi j=>.bl (decide (i<j))):=sL λ_ _ _ _ _ _ _ q=>lt_int q
theorem zM:OpR X (compareOp .LtE) (sj λi j=>.bl (decide (i<=j))):=sL λ_ _ _ _ _ _ _ q=>le_int q
theorem zN:OpR X (compareOp .Gt) (sj λi j=>.bl (decide (j<i))):=sL λ_ _ _ _ _ _ _ q=>gt_int q
theorem zO:OpR X (compareOp .GtE) (sj λi j=>.bl (decide (j<=i))):=sL λ_ _ _ _ _ _ _ q=>ge_int q
def isObj:HO->Bool
 |.lst _=>true
 |.ins _ _ _=>true
 |_=>false
theorem OpR.or(h:OpR X f r)(h':OpR X f r'):OpR X f (λx y H Q=>r x y H Q\/r' x y H Q):=by
 intro d s g H x y v u Q I e i q;rcases q with q|q
 ·exact h d s g H x y v u Q I e i q
 ·exact h' d s g H x y v u Q I e i q
theorem sN(j:OpR X (compareOp op) r)(l:PE X a ta)(m:PE X b tb)(n:behindInMarks op b=false):PE X (.Compare a [op] [b] pos) (zH r ta tb):=by intro d s i H Q I h;exact wpAny_Compare1 (wJ l m I h λv u o x y e f g k q=>j d o i e x y v u Q f g k q) n
def pb(t:TE):TT:=λd H Q=>t d H λx e=>∃k,x=.bl k/\Q k e
theorem sO{g:CmpOp}{r:R2}(q:OpR X (compareOp g) r)(C:PE X a ta)(D:PE X b tb)(G:behindInMarks g b=false):PT X (.Compare a [g] [b] pos) (pb (zH r ta tb)):=by
 intro d s f H Q I h;refine wpAny_isTrue_Compare1 (thn (C d s f H _ I h) λv o ⟨x,p,l,m,n⟩=>thn (D d o f p _ l n) λu J ⟨y,i,j,t,M⟩=>
  thn (q d J f i x y v u _ j m t M) λc N ⟨z,L,w,B,k,e,A⟩=>?_) G
 subst e;cases B;exact wpAny_truthy_bool ⟨L,w,A⟩
def ko(r j:R2)(ta tb tc:TE):TE:=λd H Q=>ta d H λx i=>tb d i λy f=>r x y f λz e=>∃k,z=.bl k /\
 (if k=true then tc d e λg h=>j y g h Q else Q (.bl false) e)
theorem pd{j g:CmpOp}{r q:R2}(M:OpR X (compareOp j) r)(l:OpR X (compareOp g) q)(U:PE X a ta)(hb:PE X b tb)(hc:PE X c tc)
  (hm:lastMarks [j,g] [b,c]=false:=by with_unfolding_all rfl):PE X (.Compare a [j,g] [b,c] pos) (ko r q ta tb tc):=by
 intro f s i H Q I h;refine Compare_chain (thn (U f s i H _ I h) λv G ⟨x,L,A,B,D⟩=>chain_link (thn (hb f G i L _ A D) λu s2 ⟨y,t,w,m,q2⟩=>
  thn (M f s2 i t x y v u _ w B m q2) λd S ⟨z,p,n,T,k,e,o⟩=>?_)) hm
 subst e;cases T;refine wpAny_truthy_bool ?_;cases k with
 |false=>exact ite_ff ⟨.bl false,p,n,rfl,o⟩
 |true=>exact ite_tt (chain_last (thn (hc f S i p _ n o) λC Z ⟨J,H4,Y,O,N⟩=>l f Z i H4 y J u C Q Y m O N))
theorem pe{j g:CmpOp}{r q:R2}(O:OpR X (compareOp j) r)(l:OpR X (compareOp g) q)(ha:PE X a ta)(hb:PE X b tb)(hc:PE X c tc)
  (hm:lastMarks [j,g] [b,c]=false:=by with_unfolding_all rfl):PT X (.Compare a [j,g] [b,c] pos) (pb (ko r q ta tb tc)):=by
 intro f s i H Q I h;refine isTrue_chain (thn (ha f s i H _ I h) λv L ⟨x,N,B,C,J⟩=>test_link (thn (hb f L i N _ B J) λu s2 ⟨y,t,A,m,q2⟩=>
  thn (O f s2 i t x y v u _ A C m q2) λd s3 ⟨z,p,n,r3,k,e,o⟩=>?_)) hm
 subst e;cases r3;refine wpAny_truthy_bool ?_;cases k with
 |false=>obtain⟨k',T,q'⟩:=o;cases T;exact ite_ff ⟨p,n,q'⟩
 |true=>refine ite_tt (test_last (thn (hc f s3 i p _ n o) λG s4 ⟨M,H4,I4,Z,Y⟩=>thn (l f s4 i H4 y M u G _ I4 m Z Y) λd' s5 U=>?_));obtain⟨z2,H5,w,r5,k2,D,S⟩:=U;subst D;cases r5;exact wpAny_truthy_bool ⟨H5,w,S⟩
def wR(K:Waa)(x:V)(H:Hp)(k:Bool):Prop:=
 match x with
 |.non=>k=false
 |.bl b=>k=b
 |.int i=>k=(i !=0)
 |.str y=>y.length<=sizeLine/\k=((y.length:Int) !=0)
 |.byt y=>y.size<=sizeLine/\k=((y.size:Int) !=0)
 |.ref p=>(∃d,SqL K H p d/\k=!d.isEmpty)\/(∃d,SqT K H p d/\k=!d.isEmpty)\/∃e,H p=some (.dK e)/\k=!e.isEmpty
 |_=>False
theorem kr{e:Type}{d:List (e×V)}{vs:List (e×Value)}(r:KV d vs):(!vs.isEmpty)=!d.isEmpty:=by cases r<;>rfl
theorem fL{xs:List V}{d:List Value}(r:Vals xs d):(!d.toArray.isEmpty)=!xs.isEmpty:=by cases r<;>simp
theorem line63:(sizeLine:Nat)<2^63:=by rw[sizeLine_eq];decide
theorem wU:C6 X (λx H Q=>∃k,wR X.K x H k/\Q k H):=by
 intro A s G H x v Q I l h;obtain⟨k,e,q⟩:=h;have J:=line63;have L:sizeLine=16777216:=sizeLine_eq;cases x with
 |non=>cases l;have d:k=false:=e;subst d;exact truthy_none ⟨H,I,q⟩
 |bl b=>cases l;have d:k=b:=e;subst d;exact wpAny_truthy_bool ⟨H,I,q⟩
 |int i=>obtain⟨t,rfl⟩:=l;have d:k=(i !=0):=e;subst d;exact PySem.P.truthy_int ⟨H,I,q⟩
 |str y=>obtain⟨t,rfl⟩:=l;obtain⟨D,d⟩:y.length<=sizeLine/\k=((y.length:Int) !=0):=e;subst d;exact PySem.P.truthy_str (by omega) ⟨H,I.tok _,q⟩
 |byt y=>obtain⟨t,rfl⟩:=l;obtain⟨D,d⟩:y.size<=sizeLine/\k=((y.size:Int) !=0):=e;subst d;exact PySem.W.truthy_bytes (by omega) ⟨H,I.tok _,q⟩
 |ref p=>
  cases l;have d:(∃j,SqL X.K H p j/\k=!j.isEmpty)\/(∃j,SqT X.K H p j/\k=!j.isEmpty)\/∃f,H p=some (.dK f)/\k=!f.isEmpty:=e;rcases d with ⟨j,n,d⟩|⟨j,n,d⟩|⟨f,n,d⟩
  ·subst d;obtain⟨u,r,z,B⟩:=I.list n;have g:=r.length;exact wpAny_truthy_list z.isList (by simp only[aam];omega) ⟨H,I.tok _,by rw[fL r];exact q⟩
  ·subst d;obtain⟨u,r,z,B⟩:=I.tuple n;have g:=r.length;exact truthy_tuple z (by simp only[aam];omega) ⟨H,I.tok _,by rw[fL r];exact q⟩
  ·subst d;obtain⟨B,C,o,r,m⟩:f.length<=sizeLine/\(p==sysModules)=false/\∃o,KV f o/\s.heap.DictOf (aB X.prog X.w) p o:=I.hok p _ n;have g:f.length=o.length:=Paired.length r;exact wpAny_truthy_dict C m (by omega) ⟨H,I.tok _,by rw[kr r];exact q⟩
 |_=>exact(show False from e).elim
theorem pf(n:PE X a ta)(o:∀d,isTrue a X.env d=(do let v <-d;standAt a.pos;holding [v] (truthy v))):
  PT X a (λσ H Q=>ta σ H λx f=>∃k,wR X.K x f k/\Q k f):=by
 intro e s σ H Q I h;exact isTrue_plain (thn (n e s σ H _ I h) λv l ⟨x,m,g,i,j⟩=>wU e l σ m x v Q g i j) (o _)
def zP(b:Expr):Prop:=∀o i,subscripted b false o i=operate [o,i] (getItem o i)
theorem vals1(r:Vals [x] us):∃u,us=[u]/\RelV x u:=by
 cases r with
 |cons d e=>cases e;exact⟨_,rfl,d⟩
theorem vals2(r:Vals [x,y] us):∃u d,us=[u,d]/\RelV x u/\RelV y d:=by
 cases r with
 |cons f g=>
  cases g with
  |cons h e=>cases e;exact⟨_,_,rfl,f,h⟩
theorem ph:CallR X (.builtin "abs") (λxs H Q=>∃i,xs=[.int i]/\Q (.int (if i<0 then -i else i)) H):=by
 intro d s g H xs e Q I r h;obtain⟨i,rfl,q⟩:=h;obtain⟨u,rfl,t,rfl⟩:=vals1 r;exact call_abs_int λu f=>⟨.int (if i<0 then -i else i),H,I.tok _,⟨_,rfl⟩,q⟩
theorem nj(f:X.calm=true):CallR X (.builtin "max") (λxs H Q=>∃i j,xs=[.int i,.int j]/\Q (.int (if j>i then j else i)) H):=by
 intro e s n H xs o Q I r h;obtain⟨i,j,rfl,q⟩:=h;obtain⟨u,l,rfl,⟨t,rfl⟩,⟨m,rfl⟩⟩:=vals2 r;refine max_two_ints (I.ok.hd f) λg p k=>⟨_,H,I.kept k,?_,q⟩
 by_cases d:j>i
 ·rw[if_pos d,if_pos d];exact⟨_,rfl⟩
 ·rw[if_neg d,if_neg d];exact⟨_,rfl⟩
theorem nk(f:X.calm=true):CallR X (.builtin "min") (λxs H Q=>∃i j,xs=[.int i,.int j]/\Q (.int (if j<i then j else i)) H):=by
 intro e s n H xs o Q I r h;obtain⟨i,j,rfl,q⟩:=h;obtain⟨u,l,rfl,⟨t,rfl⟩,⟨m,rfl⟩⟩:=vals2 r;refine min_two_ints (I.ok.hd f) λg p k=>⟨_,H,I.kept k,?_,q⟩
 by_cases d:j<i
 ·rw[if_pos d,if_pos d];exact⟨_,rfl⟩
 ·rw[if_neg d,if_neg d];exact⟨_,rfl⟩
theorem nq:CallR X (.type "int") (λxs H Q=>(∃i,xs=[.int i]/\Q (.int i) H)\/∃k,xs=[.bl k]/\Q (.int (if k then 1 else 0)) H):=by
 intro d s g H xs f Q I r h;rcases h with ⟨i,rfl,q⟩|⟨k,rfl,q⟩
 ·obtain⟨u,rfl,t,rfl⟩:=vals1 r;exact call_int_int ⟨.int i,H,I,⟨_,rfl⟩,q⟩
 ·obtain⟨u,rfl,e⟩:=vals1 r;cases e;exact call_int_bool ⟨.int (if k then 1 else 0),H,I.tok _,⟨_,rfl⟩,q⟩
def zQ(K:Waa)(x:V)(H:Hp)(n:Nat):Prop:=
 match x with
 |.str y=>y.length<=sizeLine/\n=y.length
 |.byt y=>y.size<=sizeLine/\n=y.size
 |.ref p=>(∃d,SqL K H p d/\n=d.length)\/∃d,SqT K H p d/\n=d.length
 |_=>False
theorem pj:CallR X (.builtin "len") (λxs H Q=>∃x n,xs=[x]/\zQ X.K x H n/\Q (.int n) H):=by
 intro m s w H xs B Q I r h;obtain⟨x,n,rfl,e,q⟩:=h;obtain⟨u,rfl,g⟩:=vals1 r;have z:=line63;have A:sizeLine=16777216:=sizeLine_eq;cases x with
 |str y=>obtain⟨t,rfl⟩:=g;obtain⟨v,f⟩:y.length<=sizeLine/\n=y.length:=e;subst f;exact len_str (by omega) ⟨.int _,H,I.tok _,⟨_,rfl⟩,q⟩
 |byt y=>obtain⟨t,rfl⟩:=g;obtain⟨v,f⟩:y.size<=sizeLine/\n=y.size:=e;subst f;exact PySem.W.len_bytes (by omega) ⟨.int _,H,I.tok _,⟨_,rfl⟩,q⟩
 |ref p=>
  cases g;have f:(∃xs,SqL X.K H p xs/\n=xs.length)\/∃xs,SqT X.K H p xs/\n=xs.length:=e;rcases f with ⟨xs,i,f⟩|⟨xs,i,f⟩
  ·subst f;obtain⟨j,l,k,o⟩:=I.list i;have d:=l.length;exact Calls.call_len_list k.isList (by simp only[aam];omega) ⟨.int xs.length,H,I.tok _,⟨_,by simp only[aam];rw[d]⟩,q⟩
  ·subst f;obtain⟨j,l,k,o⟩:=I.tuple i;have d:=l.length;exact len_tuple k (by simp only[aam];omega) ⟨.int xs.length,H,I.tok _,⟨_,by simp only[aam];rw[d]⟩,q⟩
 |_=>exact(show False from e).elim
end
end
section
structure ObjM (h:Heap)(x dx C:Addr)(mA:Str->Option Value):Prop where
 obj:h.get? x=some (PySem.W.instObj C dx)
 ns:h.Ns1 dx mA
 ne:dx≠x
def wV(f:Str)(v:V):List (Str×V)->List (Str×V)
 |[]=>[(f,v)]
 | (g,x)::r=>if g=f then (g,v)::r else (g,x)::wV f v r
theorem RelO.some_of(r:RelO (some v) o):∃u,o=some u/\RelV v u:=by
 cases o with
 |none=>exact(show False from r).elim
 |some u=>exact⟨u,rfl,r⟩
theorem RelO.none_of(r:RelO none o):o=none:=by
 cases o with
 |none=>rfl
 |some u=>exact(show False from r).elim
structure Cls (K:Waa)(C:Addr):Prop where
 pg:PySem.W.plainGet K C Str.empty=true
 hd:PySem.W.hasDictIn K C=true
 po:PySem.W.plainOver K C=true
 sa:PySem.W.findIn K (.ref C) "__setattr__"=some (some (.builtin "object.__setattr__"))
theorem Cls.get{K:Waa}{C:Addr}(c:Cls K C)(f:Str):PySem.W.plainGet K C f=true:=c.pg
def eA(K:Waa)(C:Addr)(f:Str):Prop:=PySem.W.findIn K (.ref C) f=some none
structure Con (K:Waa)(C:Addr)(f:Str)(v:V)(u:Value):Prop where
 at_:PySem.W.findIn K (.ref C) f=some (some u)
 rel:RelV v u
 get:PySem.W.specialIn K u "__get__"=some none
 cp:PySem.W.copiedNames.contains f=false
structure Meth (K:Waa)(C:Addr)(m:Str)(f:Addr):Prop where
 at_:PySem.W.findIn K (.ref C) m=some (some (.ref f))
 fn:PySem.W.isFn K (.ref f)=true
 kp:PySem.W.keepIn K (.ref f)=true
section
variable{X:Cx}{pins:List (Addr×Obj)}{σ:St}{H:Hp}{s:Shared}{a C dx:Addr}{fs:List (Str×V)}{f:Str}{v:V}{A:Around}{E:Value->Shared->Prop}
theorem Inv.made(I:Inv X pins σ H s):Inv X pins σ (upd (upd H s.heap.objs.size (.own (s.heap.objs.size+1))) (s.heap.objs.size+1) (.ins C s.heap.objs.size []))
  { s with heap:=(s.heap.push PySem.W.emptyDict).push (PySem.W.instObj C s.heap.objs.size) }:=by
 have c:(s.heap.push PySem.W.emptyDict).get? s.heap.objs.size=some PySem.W.emptyDict:=Heap.get?_push_size s.heap rfl;have i:((s.heap.push PySem.W.emptyDict).push (PySem.W.instObj C s.heap.objs.size)).get? (s.heap.objs.size+1)=some (PySem.W.instObj C s.heap.objs.size):=by
  have:=Heap.get?_push_size (s.heap.push PySem.W.emptyDict) (o:=PySem.W.instObj C s.heap.objs.size) rfl
  rwa [Heap.size_push]at this
 have k:(s.heap.push PySem.W.emptyDict).Ns s.heap.objs.size (λ_=>none):=⟨PySem.W.emptyDict,#[],_,c,rfl,(λe g=>absurd g (by simp)),λ_=>rfl⟩
 have h:=I.laid (o:=.own (s.heap.objs.size+1)) (t':=s.toks) (λb u q=>Heap.get?_push_of_some _ q) (aac _) ⟨_,c⟩;refine h.laid (λb u q=>Heap.get?_push_of_some _ q) (abp (Heap.size_push _ _)) ?_;have d:s.heap.objs.size≠s.heap.objs.size+1:=aai (aaP _);refine⟨by rw[upd_ne d,av],aaE _,d,i,λ_=>none,(Heap.Ns1.of_empty k).at λo q=>Heap.get?_push_of_some _ q,λ_=>True.intro,λy j=>absurd rfl j⟩
end
def FF(K:Waa)(d:TE)(f:Str):TE:=λg H Q=>d g H λx b=>∃a C e c v,x=.ref a/\b a=some (.ins C e c)/\Cls K C/\eA K C f/\c.lookup f=some v/\Q v b
def FG(K:Waa)(d:TE)(f:Str):TE:=λg H Q=>d g H λx b=>∃a C e c v u,x=.ref a/\b a=some (.ins C e c)/\Cls K C/\Con K C f v u/\c.lookup f=none/\Q v b
def FH(K:Waa)(i g:TE)(f:Str):TS:=λD b H=>g b H λy h=>i b h λx d=>∃a C e c,x=.ref a/\d a=some (.ins C e c)/\Cls K C/\eA K C f/\c.length<1000 /\
 D.nx b (upd d a (.ins C e (wV f y c)))
def FI(X:Cx)(c:Operator)(d:V->V->Hp->VK->Prop):Prop:=
 ∀(a:List (Addr×Obj)) (s:Shared) (b:St) (H:Hp) (x y:V) (u v:Value) (Q:VK),Inv X a b H s->RelV x u->RelV y v->d x y H Q->wpAny (model X.prog X.w) X.A (inplaceOp c u v) (EP X a b Q) X.xe s
def Cm(K:Waa)(k j:TE)(l:V->V->Hp->VK->Prop)(f:Str):TS:=λD d H=>k d H λx e=>∃a C m g v,x=.ref a/\e a=some (.ins C m g)/\Cls K C/\eA K C f/\g.lookup f=some v /\
 j d e λy i=>l v y i λz h=>∃c b,h a=some (.ins C c b)/\b.length<1000/\D.nx d (upd h a (.ins C c (wV f z b)))
section
variable{X:Cx}{o e value:Expr}{f:Str}{pos pos' tpos:Pos}{ta tv:TE}
def FJ:V->V->Hp->VK->Prop:=λx y H Q=>∃i j,x=.int i/\y=.int j/\Q (.int (i+j)) H
def FK:V->V->Hp->VK->Prop:=λx y H Q=>∃i j,x=.int i/\y=.int j/\Q (.int (i-j)) H
end
section
variable{X:Cx}{pins:List (Addr×Obj)}{σ:St}{H:Hp}{s:Shared}{A:Around}{E:Value->Shared->Prop}{Q:Value->Shared->Prop}{c:Value}{b:Bool}
inductive TyOf (K:Waa)(H:Hp):V->Value->Prop where
 |non:TyOf K H .non (.type "NoneType")
 |bl (x:Bool):TyOf K H (.bl x) (.type "bool")
 |int (i:Int):TyOf K H (.int i) (.type "int")
 |str (x:Str):TyOf K H (.str x) (.type "str")
 |flt (x:UInt64):TyOf K H (.flt x) (.type "float")
 |lst {a:Addr}{xs:List V} (e:H a=some (.lst xs)):TyOf K H (.ref a) (.type "list")
 |frz {a:Addr}{o:Obj}{xs:List V} (e:H a=some (.frz o (.lst xs))):TyOf K H (.ref a) (.type "list")
 |tup {a:Addr}{xs:List V} (e:H a=some (.tup xs)):TyOf K H (.ref a) (.type "tuple")
 |dK {a:Addr}{kvs:List (Key×V)} (e:H a=some (.dK kvs)):TyOf K H (.ref a) (.type "dict")
 |dT {a:Addr}{kvs:List (List Key×V)} (e:H a=some (.dT kvs)):TyOf K H (.ref a) (.type "dict")
 |ins {a C dx:Addr}{fs:List (Str×V)} (e:H a=some (.ins C dx fs)) (cl:Cls K C) (ha:PySem.W.findIn K (.ref C) "__class__"=some (some (.builtin "object.__class__")))
   (hn:PySem.W.specialIn K (.builtin "object.__class__") "__get__"=some (some (.builtin "getset_descriptor.__get__"))) (htk:PySem.W.takesIn K (.builtin "object.__class__")=some true)
   (hm:PySem.W.mroIn K C (.type "object")=some true):TyOf K H (.ref a) (.ref C)
end
end
section
structure Room (k:Nat)(A:Around):Prop where
 hd:A.handled=none
 dp:A.depth+3*k+5<recursionLimit
 un:A.units+16*k+200<cLine
 gd:A.guards=some []
theorem Room.mono(r:Room k A)(h:j<=k):Room j A:=⟨r.hd,by have:=r.dp;omega,by have:=r.un;omega,r.gd⟩
theorem Room.deeper(r:Room (k+1) A)(env:Env):Room k (A.deeper env):=
 ⟨r.hd,by have:=r.dp;show A.depth+1+3*k+5<_;omega,by have:=r.un;show A.units+3+16*k+200<_;omega,r.gd⟩
theorem Room.in1(r:Room (k+1) A):Room k A.in1:=
 ⟨r.hd,by have:=r.dp;show A.depth+3*k+5<_;omega,by have:=r.un;show A.units+1+16*k+200<_;omega,r.gd⟩
theorem ku{A:Around}:(A.under (.builtin "type.__call__" ⟨.ref C::us,kw⟩)).depth=A.depth+1:=by
 first|rfl|simp[Around.under,Code.weight,Code.isCreation,Code.isGuard,Code.isCaller,Code.frames,Code.isFrame,guardIds]
theorem ky{A:Around}:(A.under (.builtin "type.__call__" ⟨.ref C::us,kw⟩)).units=A.units+1:=by
 first|rfl|simp[Around.under,Code.cUnits,Code.frames,Code.isFrame]
theorem Room.make(r:Room (k+1) A)(C:Addr)(us:List Value)(a:List (Str×Value)):Room k (A.under (.builtin "type.__call__" ⟨.ref C::us,a⟩)):=
 ⟨r.hd,by have:=r.dp;rw[ku];omega,by have:=r.un;rw[ky];omega,by first|exact r.gd|simp[Around.under,Code.isGuard,guardIds,r.gd]⟩
theorem Room.depth(r:Room k A):A.depth<recursionLimit:=by have:=r.dp;omega
theorem Room.units{A:Around}(r:Room k A):A.units+64<cLine:=by have:=r.un;omega
def tNil:TA:=λ_ H Q=>Q [] H
def zR(e:TE)(d:TA):TA:=λa H Q=>e a H λx f=>d a f λc b=>Q (x::c) b
section
variable{X:Cx}{e:Expr}{es:List Expr}{te:TE}{t:TA}{pos:Pos}
theorem bC:PA X [] tNil:=λ_ _ _ _ H Q I h=>Calls.spliced_nil ⟨[],H,I,.nil,h⟩
theorem aQ(p:PE X e te)(q:PA X es t)(o:starEach (e::es) X.env=(false,eval e X.env)::starEach es X.env:=by rfl):PA X (e::es) (zR te t):=by
 intro pos a s b H Q I h;rw[o];show wpAny _ _ (spliced ((false,eval e X.env)::backTo pos (starEach es X.env))) _ _ s;refine Calls.spliced_cons (thn (p a s b H _ I h) λu j m=>?_);obtain⟨x,k,f,g,i⟩:=m;exact thn (q pos a j b k _ f i) λw v ⟨l,c,d,n,r⟩=>⟨x::l,c,d,.cons g n,r⟩
def C7(t:TA):TE:=λc H Q=>t c H λa b=>a.length<=sizeLine/\∀p,b p=none->Q (.ref p) (upd b p (.tup a))
def C8(t:TA):TE:=λc H Q=>t c H λa b=>a.length<=sizeLine/\∀p,b p=none->Q (.ref p) (upd b p (.lst a))
theorem pk{j}(h:PA X es t):PE X (.Tuple es j pos) (C7 t):=by intro a s i H Q I l;refine wpAny_Tuple_spliced (thn (h pos a s i H _ I l) λm c ⟨k,f,d,r,z,q⟩=>⟨by rw[<-r.length];exact z,?_⟩);have g:f c.heap.objs.size=none:=d.hok.fresh (aac _);refine⟨.ref c.heap.objs.size,upd f c.heap.objs.size (.tup k),d.laid (t':=c.toks) (λb u e=>Heap.get?_push_of_some _ e) (aac _) ?_,rfl,q _ g⟩;exact⟨z,m,r,⟨_,Heap.get?_push_size _ rfl,rfl,_,rfl,rfl⟩⟩
theorem wW(h:PA X es t):PE X (.List es pos) (C8 t):=by intro a s i H Q I k;refine wpAny_List_spliced (thn (h pos a s i H _ I k) λl c ⟨j,f,d,r,z,q⟩=>⟨by rw[<-r.length];exact z,?_⟩);have g:f c.heap.objs.size=none:=d.hok.fresh (aac _);refine⟨.ref c.heap.objs.size,upd f c.heap.objs.size (.lst j),d.laid (t':=c.toks) (λb u e=>Heap.get?_push_of_some _ e) (aac _) ?_,rfl,q _ g⟩;exact⟨z,l,0,r,Heap.get?_push_size _ rfl⟩
end
abbrev Sp:=List V->Hp->VK->XK->Prop
abbrev CXT:=List Env->Hp->Shared->XK->Value->Shared->Prop
structure Env0 (P:Program)(w:World)(K:Waa)(mg:Str->Option Value)(base:Heap)(A:Around)(outer:List Env)(s:Shared)(H:Hp):Prop where
 frames:A.frames=some outer
 mod:Mod K mg base
 bs:∀b o,base.get? b=some o->s.heap.get? b=some o/\H b=none
 bsz:base.objs.size<=s.heap.objs.size
 funs:s.heap.FunFrames base outer
 frf:∀b∈oO outer,H b=none
 hok:HOk P w H s.heap
 bare:AllBare s.gens
def CE(a:List Env)(P:Program)(w:World)(H:Hp)(s:Shared)(Q:VK)(u:Value)(b:Shared):Prop:=
 ∃v c,b.os=s.os/\AllBare b.gens/\Un (oO a) [] H c s.heap b.heap/\HOk P w c b.heap/\RelV v u/\Q v c
def CR(CX:CXT)(a:List Env)(P:Program)(w:World)(H:Hp)(s:Shared)(Q:VK)(E:XK)(r:Result)(b:Shared):Prop:=
 match r with
 |.ok (.ret u)=>CE a P w H s Q u b
 |.ok _=>False
 |.error e=>CX a H s E e b
structure FnOk (P:Program)(w:World)(K:Waa)(mg:Str->Option Value)(base:Heap)(CX:CXT)(k:Nat)(f:Addr)(fd:FuncData)(ps:List Str)(sp:Sp):Prop where
 len:∀vs H Q E,sp vs H Q E->vs.length=ps.length
 run:∀(A:Around) (outer:List Env) (s:Shared) (H:Hp) (args:Args) (us:List Value) (vs:List V) (Q:VK) (E:XK),Room k A->Env0 P w K mg base A outer s H->BindsTo s fd args (ps.zip us)->Vals vs us->sp vs H Q E ->
  codeAny (model P w) A (.call (.ref f) args) (CR CX outer P w H s Q E) s
theorem FnOk.mono{K:Waa}(F:FnOk P w K mg base CX j f fd ps sp)(h:j<=k):
  FnOk P w K mg base CX k f fd ps sp:=⟨F.len,λA a s H b c d Q E e=>F.run A a s H b c d Q E (e.mono h)⟩
theorem FnOk.imp{K:Waa}(F:FnOk P w K mg base CX k f fd ps sp)
  (h:∀vs H Q E,sp' vs H Q E->sp vs H Q E):FnOk P w K mg base CX k f fd ps sp':=
 ⟨λvs H Q E q=>F.len vs H Q E (h _ _ _ _ q),λA a s H b d vs Q E i c j g e=>F.run A a s H b d vs Q E i c j g (h _ _ _ _ e)⟩
theorem Env0.make{K:Waa}(e:Env0 P w K mg base A outer s H)(C:Addr)(us:List Value)(a:List (Str×Value)):
  Env0 P w K mg base (A.under (.builtin "type.__call__" ⟨.ref C::us,a⟩)) outer s H:=⟨by first|exact e.frames|(simpa[Around.under,Code.envs,Code.isFrame,pushEnvs] using e.frames),e.mod,e.bs,e.bsz,e.funs,e.frf,e.hok,e.bare⟩
theorem Env0.in1{K:Waa}(e:Env0 P w K mg base A outer s H):
  Env0 P w K mg base A.in1 outer s H:=⟨e.frames,e.mod,e.bs,e.bsz,e.funs,e.frf,e.hok,e.bare⟩
section
variable{X:Cx}{pins:List (Addr×Obj)}{σ:St}{H:Hp}{s s':Shared}
theorem Inv.env0(I:Inv X pins σ H s):Env0 X.prog X.w X.K X.mg X.base X.A X.stack s H:=
 ⟨I.ok.frames,I.ok.mod,I.bs,aat I.ok.bsz I.sz,I.stack,I.rr,I.hok,I.bare⟩
theorem Inv.after(I:Inv X pins σ H s)(h:CE X.stack X.prog X.w H s Q u s'):EP X pins σ Q u s':=by obtain⟨v,j,f,a,i,c,r,q⟩:=h;obtain⟨k,g,d,t,e⟩:=s';obtain rfl:e=s.os:=f;exact⟨v,j,I.call i c a (λb z=>absurd z (by simp)),r,q⟩
end
def vm(sp:Sp)(a:List V)(E:XK)(t:TA):TE:=λb H Q=>t b H λd c=>sp (d++a) c Q E
def ET(C:Addr)(m:Str)(sp:Sp)(b:List V)(E:XK)(g:TE)(t:TA):TE:=λd H Q=>g d H λx c=>∃a h e,x=.ref a/\c a=some (.ins C h e)/\e.lookup m=none /\
 t d c λi f=>sp (x::(i++b)) f Q E
def EU(C:Addr)(sp:Sp)(b:List V)(E:XK)(t:TA):TE:=λe H Q=>t e H λf c=>∀x a,c x=none->c a=none->a≠x ->
 sp (.ref x::(f++b)) (upd (upd c a (.own x)) x (.ins C a [])) (λv d=>v=.non/\Q (.ref x) d) E
def Binds(K:Waa)(c:FuncData)(b:List Str)(ds:List Value):Prop:=
 ∀(s:Shared) (a:List Value),K.In s.heap->(a++ds).length=b.length->BindsTo s c ⟨a,[]⟩ (b.zip (a++ds))
theorem Binds.all{K:Waa}{c:FuncData}{a:List Str}(h:∀us:List Value,us.length=a.length->bindArgs c ⟨us,[]⟩=pure (a.zip us)):Binds K c a []:=λs us _ b=>by rw[aaA]at b ⊢;exact .of_eq (h us b)
def Passes(CX:CXT)(X:Cx)(E:XK):Prop:=∀(a:List (Addr×Obj)) (c:St) (H:Hp) (s:Shared) (e:Value) (b:Shared),Inv X a c H s->CX X.stack H s E e b->X.xe e b
section
variable{X:Cx}{CX:CXT}{k:Nat}{f C:Addr}{fd:FuncData}{ps:List Str}{sp:Sp}{dvs:List V}{ds:List Value}{E:XK}{x m:Str}{p pos apos:Pos}{e o:Expr}{es:List Expr}{ta:TE}{t:TA}
theorem wX(F:FnOk X.prog X.w X.K X.mg X.base CX k f fd ps sp)(l:Room k X.A)(n:Binds X.K fd ps ds)(j:Vals dvs ds)(g:Passes CX X E)
  (I:Inv X pins σ H s) (r:Vals vs us) (h:sp (vs++dvs) H Q E):wpAny (model X.prog X.w) X.A (call (.ref f) us) (EP X pins σ Q) X.xe s:=by
 have b:Vals (vs++dvs) (us++ds):=r.append j;have d:(us++ds).length=ps.length:=by rw[<-b.length];exact F.len _ _ _ _ h
 refine wpAny_call (codeAny_mono (F.run X.A X.stack s H ⟨us,[]⟩ (us++ds) (vs++dvs) Q E l I.env0 (n s us I.xc d) b h) λr i a=>?_);cases r with
 |error e=>exact g pins σ H s e i I a
 |ok c=>
  cases c with
  |ret u=>exact I.after a
  |next=>exact False.elim a
  |brk=>exact False.elim a
  |cont=>exact False.elim a
theorem sP(F:FnOk X.prog X.w X.K X.mg X.base CX k f fd ps sp)(u:Room k X.A)(j:Gl X x)(y:X.mg x=some (.ref f))(hk:PySem.W.keepIn X.K (.ref f)=true)(v:Binds X.K fd ps ds)(l:Vals dvs ds)(g:Passes CX X E)
  (n:PA X (e::es) t) (b:(x==("__debug__":Str))=false:=by decide) (z:starEach (e::es) X.env=(false,eval e X.env)::starEach es X.env:=by rfl) (c:(backTo pos (starEach es X.env)).any (·.1)=false:=by rfl):
  PE X (.Call (.Name x p) (e::es) [] pos) (vm sp dvs E t):=by
 intro a s i H Q I h;refine wpAny_Call_Name_kw (lC I j y ?_ b);refine PySem.W.callWith_K (h₀:=X.base) I.ok.mod.kin hk (thn (n pos a s i H _ I h) λJ B ⟨G,D,d,r,q⟩=>⟨d.xc,?_⟩) z c;exact wX F u v l g d r q
structure Mk (K:Waa)(C f:Addr):Prop where
 makes:PySem.W.makesIn K C=true
 init:PySem.W.findIn K (.ref C) "__init__"=some (some (.ref f))
 fn:PySem.W.isFn K (.ref f)=true
 kp:PySem.W.keepIn K (.ref C)=true
end
def PK(X:Cx)(b:List Keyword)(t:TA):Prop:=
 ∀(c:Pos) (a:List (Addr×Obj)) (s:Shared) (d:St) (H:Hp) (Q:List V->Hp->Prop),Inv X a d H s->t d H Q->wpAny (model X.prog X.w) X.A (evalAll ((backToKw c (keywordEach b X.env)).map (·.2))) (AP X a d Q) X.xe s
section
variable{X:Cx}{CX:CXT}{k:Nat}{f C:Addr}{fd:FuncData}{ps ks:List Str}{sp:Sp}{E:XK}{x m:Str}{p pos apos kpos:Pos}{e o:Expr}{es:List Expr}{kws:List Keyword}{te ta:TE}{t tk:TA}{nm:Option Str}
structure KBinds (K:Waa)(fd:FuncData)(ps ks:List Str)(g:List Value->List Value->List Value)(gV:List V->List V->List V):Prop where
 to:∀(s:Shared) (us ws:List Value),K.In s.heap->(g us ws).length=ps.length->BindsTo s fd ⟨us,ks.zip ws⟩ (ps.zip (g us ws))
 rel:∀{vs:List V}{us:List Value}{zs:List V}{ws:List Value},Vals vs us->Vals zs ws->Vals (gV vs zs) (g us ws)
def C9(sp:Sp)(h:List V->List V->List V)(E:XK)(t tk:TA):TE:=λa H Q=>t a H λg d=>tk a d λc b=>sp (h g c) b Q E
variable{g:List Value->List Value->List Value}{gV:List V->List V->List V}
end
structure FnScope (N P:List Str)(sc:Scope):Prop where
 kind:sc.kind=.function
 co:sc.isCoroutine=false
 gen:sc.isGenerator=false
 nd:N.Nodup
 pre:N.take P.length=P
 par:∀x∈P,sc.names.lookup x=some .local\/sc.names.lookup x=some .cell
 nofree:∀y∈sc.names,y.2≠.free
theorem gX{b:Str->Option NameKind}:∀{a:List (Str×Value)}{m:Str->Option Value},(∀v,(x,v) ∉ a)->bindL b a m x=m x
 |[],_,_=>rfl
 | (n,v)::r,m,h=>by
  unfold bindL;rw[gX λw c=>h w (aak _ c)];split
  ·have:x≠n:=by rintro rfl;exact h v aal
   simp[this]
  ·rfl
theorem gY{b:Str->Option NameKind}:∀{a:List (Str×Value)}{m:Str->Option Value},(∀v,(x,v) ∉ a)->bindC b a m x=m x
 |[],_,_=>rfl
 | (n,v)::r,m,h=>by
  unfold bindC;rw[gY λw c=>h w (aak _ c)];split
  ·rfl
  ·have:x≠n:=by rintro rfl;exact h v aal
   simp[this]
theorem gZ{a:Str->Option NameKind}:∀{P:List Str}{vs:List Value}{i:Nat}{m:Str->Option Value},P.Nodup->P[i]?=some x->vs[i]?=some v->a x=some .local ->
  bindL a (P.zip vs) m x=some v
 |[],_,_,_,_,h,_,_=>by simp at h
 |_::_,[],_,_,_,_,h,_=>by simp at h
 |p::P,w::vs,0,m,nd,h1,h2,hk=>by simp at h1 h2;subst h1;subst h2;show bindL a ((p,w)::P.zip vs) m p=_;unfold bindL;rw[gX λv b=>(aaF.mp nd).1 (abC b).1,if_pos hk];simp
 |p::P,w::vs,i+1,m,nd,h1,h2,hk=>by show bindL a ((p,w)::P.zip vs) m x=_;unfold bindL;exact gZ (i:=i) (aaF.mp nd).2 (by simpa using h1) (by simpa using h2) hk
theorem g6{a:Str->Option NameKind}:∀{P:List Str}{vs:List Value}{i:Nat}{m:Str->Option Value},P.Nodup->P[i]?=some x->vs[i]?=some v->a x≠some .local ->
  bindC a (P.zip vs) m x=some v
 |[],_,_,_,_,h,_,_=>by simp at h
 |_::_,[],_,_,_,_,h,_=>by simp at h
 |p::P,w::vs,0,m,nd,h1,h2,hk=>by simp at h1 h2;subst h1;subst h2;show bindC a ((p,w)::P.zip vs) m p=_;unfold bindC;rw[gY λv b=>(aaF.mp nd).1 (abC b).1,if_neg hk];simp
 |p::P,w::vs,i+1,m,nd,h1,h2,hk=>by show bindC a ((p,w)::P.zip vs) m x=_;unfold bindC;exact g6 (i:=i) (aaF.mp nd).2 (by simpa using h1) (by simpa using h2) hk
def start(N:List Str)(vs:List V):St:=vs.map some++List.replicate (N.length-vs.length) none
def iB(CX:CXT)(P:Program)(w:World)(K:Waa)(mg:Str->Option Value)(base:Heap)(N:List Str)(b:Str)(a:Scope)(f:Addr)(d:Value)(A:Around)(outer:List Env)(s:Shared)(H:Hp)(E:XK):Cx where
 prog:=P
 w:=w
 K:=K
 mg:=mg
 base:=base
 A:=A.deeper (envOfC b a s.heap.objs.size f d)
 N:=N
 s₀:=s
 H₀:=H
 env:=envOfC b a s.heap.objs.size f d
 outer:=outer
 stack:=envOfC b a s.heap.objs.size f d::outer
 ex:=[]
 calm:=true
 fn:=λ_=>true
 pn:=[]
 xe:=λe h=>wpAny (model P w) (A.deeper (envOfC b a s.heap.objs.size f d)) (leaving (envOfC b a s.heap.objs.size f d) e) (λ_ c=>CX outer H s E e c) (λg c=>CX outer H s E g c) h
theorem jv{sc:Scope}(h:sc.names.lookup x=some .cell):∃c,(cellsFrom n sc.names []).lookup x=some c:=by have q:=ab2 sc.names n [] (.inl h);exact abg.mp q
theorem nu{K:Waa}
  (S:FnScope N ps scope) (G:A.handled=none) (g:Env0 P w K mg base A outer s H) (M:vs.length=ps.length) (r:Vals vs us)
  (x:InCallC s s.heap.objs.size (bindL (envOfC qual scope s.heap.objs.size f cd).kindOf (ps.zip us) λ_=>none) (cellsFrom (s.heap.objs.size+1) scope.names []) (bindC (envOfC qual scope s.heap.objs.size f cd).kindOf (ps.zip us) λ_=>none) s1):
  Inv (iB CX P w K mg base N qual scope f cd A outer s H E) [] (start N vs) H s1:=by
 have J:ps.length<=N.length:=by have:=congrArg List.length S.pre;rw[aa0]at this;omega
 obtain⟨o,O,rfl,B⟩:=x.done;have j:∀b:Addr,b ∉ (iB CX P w K mg base N qual scope f cd A outer s H E).ex:=λb z=>absurd (show b∈([]:List Addr) from z) (by simp);refine⟨⟨g.mod,S.kind,rfl,rfl,aac _,λy z c o d=>?_,λy l=>?_,λy c _ h=>?_,λ_=>G,Around.frames_deeper g.frames,.inr ⟨rfl,rfl⟩,λb z=>absurd z (j b),g.bs,g.bsz,λb _ _=>j b,λb z=>absurd z (j b),g.funs,g.frf⟩,
  rfl,g.bare,Un.kept B,⟨_,x.toInCall.ns,λi y v o d L=>?_⟩,λy c h=>⟨_,x.cell y c h⟩,g.hok.fresh (aac _),λy c h=>?_,λp n=>absurd (show p∈([]:List (Addr×Obj)) from n) (by simp),g.hok.kept B,?_⟩
 ·exact name_of_addr x.apart (aa1 o) (aa1 d)
 ·have l:scope.names.lookup y=some .cell\/scope.names.lookup y=some .free:=l;rcases l with l|l
  ·exact jv l
  ·exact absurd rfl (S.nofree _ (aa1 l))
 ·exact aaO (x.above y c (aa1 h))
 ·have t:i<vs.length:=by
   unfold start at d;by_cases t:i<vs.length
   ·exact t
   ·rw[abq (by simpa using t)]at d;rw[ab3]at d;split at d<;>cases d
  have I:vs[i]?=some v:=by
   unfold start at d;rw[abr (by simpa using t),aaq]at d;cases e:vs[i]? with
   |none=>rw[e]at d;cases d
   |some a=>rw[e]at d;cases d;rfl
  obtain⟨u,C,D⟩:=r.get I;have n:ps[i]?=some y:=by rw[<-S.pre,List.getElem?_take_of_lt (by omega)];exact o
  have m:ps.Nodup:=by rw[<-S.pre];exact S.nd.sublist (List.take_sublist _ _)
  refine⟨u,D,?_⟩;rcases S.par y (aaT n) with k|k
  ·exact .inl ⟨k,gZ m n C k⟩
  ·obtain⟨c,e⟩:=jv k;refine .inr ⟨.inl k,c,e,?_⟩;have q:=x.cell y c e;rw[g6 m n C (by show scope.names.lookup y≠_;rw[k];decide)]at q;exact q
 ·exact g.hok.fresh (aaO (x.above y c (aa1 h)))
 ·unfold start;show _=N.length;rw[aaw,aag,abt];omega
theorem zS{K:Waa}{X Z m U c ct oc:Value}{an od:Option Addr}
  {G:Array (Option Value)}{N C:List Str}{sp:Sp} (lk:K.lookup f=some ⟨oc,od,.func (PySem.W.fnOf name qual params body scope X Z m U an c ct),G⟩) (L:PySem.W.codeIn K c qual=true) (S:FnScope N C scope)
  (z:∀vs H Q E,sp vs H Q E->vs.length=C.length)
  (i:∀(A:Around) (a:List Env) (s:Shared) (H:Hp) (vs:List V) (Q:VK) (E:XK),Room k (A.deeper (envOfC qual scope s.heap.objs.size f c))->sp vs H Q E ->
   ∃t,PSs (iB CX P w K mg base N qual scope f c A a s H E) body t/\t { nx:=λ_ g=>Q .non g,rt:=Q } (start N vs) H):
  FnOk P w K mg base CX (k+1) f (PySem.W.fnOf name qual params body scope X Z m U an c ct) C sp:=by
 refine⟨z,λA a s H a0 us vs Q E O B hb r p=>?_⟩;have hl:=z _ _ _ _ p;have KX:K.In s.heap:=B.mod.kin.keeps λb o e=>(B.bs b o e).1;have T:s.heap.NoLimit:=B.mod.nolimit.keeps λb o e=>(B.bs b o e).1;have h:∀y∈C.zip us,scope.names.lookup y.1=some .local\/(scope.names.lookup y.1=some .cell/\((cellsFrom (s.heap.objs.size+1) scope.names []).lookup y.1).isSome=true):=λ⟨n,v⟩ hy=>by
  rcases S.par n (abC hy).1 with q|q
  ·exact .inl q
  ·exact .inr ⟨q,ab2 _ _ _ (.inl q)⟩
 refine codeAny_call_function O.depth (KX _ _ lk) rfl S.co S.gen rfl (PySem.W.codeRec_of KX L) (hb _ _ _ _ ?_);refine wpAny_newFunctionEnv_cells S.kind h λa1 he Y x=>?_;subst he;refine⟨T.keeps x.toInCall.keep,codeAny_func ?_⟩;obtain⟨t,ht,hq⟩:=i A a s H vs Q E (O.deeper _) p;have I:Inv (iB CX P w K mg base N qual scope f c A a s H E) [] (start N vs) H Y:=nu S O.hd B hl r x;refine wpAny_mono (ht [] Y (start N vs) H _ I hq) (λfl D j=>?_) λe D j=>j;have l:∀{d:St}{g:Hp}{v:V}{u:Value},Inv (iB CX P w K mg base N qual scope f c A a s H E) [] d g D->RelV v u->Q v g->CE a P w H s Q u D:=
  λ{d g v u} J M q=>⟨v,g,J.os,J.bare,J.base,J.hok,M,q⟩
 cases fl with
 |ret u=>obtain⟨v,d,g,J,M,q⟩:=j;exact l J M q
 |next=>obtain⟨d,g,J,q⟩:=j;exact l (v:=V.non) (u:=Value.none) J rfl q
 |brk=>obtain⟨_,_,_,q⟩:=j;exact False.elim q
 |cont=>obtain⟨_,_,_,q⟩:=j;exact False.elim q
end
section
section
variable{X:Cx}{x:Str}{p pos:Pos}{e:Expr}{es:List Expr}{t:TA}{id T:String}{r:List V->Hp->VK->Prop}
def Da(r:List V->Hp->VK->Prop)(t:TA):TE:=λc H Q=>t c H λb a=>r b a Q
theorem cz(w:CallR X (.builtin id) r) (m:Gl X x) (q:X.mg x=none) (y:bootBuiltins x=some (.builtin id)) (o:PA X (e::es) t) (i:x≠"__name__":=by decide) (b:(x==("__debug__":Str))=false:=by decide)
  (u:starEach (e::es) X.env=(false,eval e X.env)::starEach es X.env:=by rfl) (c:(backTo pos (starEach es X.env)).any (·.1)=false:=by rfl):PE X (.Call (.Name x p) (e::es) [] pos) (Da r t):=by
 intro a s d H Q I h;refine wpAny_Call_Name_kw (cy I m q y ?_ i b);exact PyProof.Rows.callWith_builtin1 (thn (o pos a s d H _ I h) λv k ⟨n,l,f,g,j⟩=>w a k d l n v Q f g j) u c
theorem eB(w:CallR X (.type T) r) (m:Gl X x) (q:X.mg x=none) (y:bootBuiltins x=some (.type T)) (o:PA X (e::es) t) (i:x≠"__name__":=by decide) (b:(x==("__debug__":Str))=false:=by decide)
  (u:starEach (e::es) X.env=(false,eval e X.env)::starEach es X.env:=by rfl) (c:(backTo pos (starEach es X.env)).any (·.1)=false:=by rfl):PE X (.Call (.Name x p) (e::es) [] pos) (Da r t):=by
 intro a s d H Q I h;refine wpAny_Call_Name_kw (cy I m q y ?_ i b);exact aa7 (thn (o pos a s d H _ I h) λv k ⟨n,l,f,g,j⟩=>w a k d l n v Q f g j) u c
end
end
end L2
namespace HT
open PySem PyProof.Rows
def lexLt:List Int->List Int->Bool
 |[],[]=>false
 |[],_::_=>true
 |_::_,[]=>false
 |x::xs,y::ys=>if x=y then lexLt xs ys else decide (x<y)
section
variable{prog:Program}{w:World}{A:Around}{E:Value->Shared->Prop}{s:Shared}
theorem cat_tup(y:IsTup s.heap t vs.toArray)(z:IsTup s.heap b ws.toArray)(u:vs≠[])
  (x:ws=[]->Q (.ref t) s) (v:ws≠[]->Q (.ref s.heap.objs.size) { s with heap:=s.heap.push { cls:=.type "tuple",data:=.seq (vs++ws).toArray } })
  (j:vs.length+ws.length<=sizeLine):wpAny (model prog w) A (binaryOp .Add (.ref t) (.ref b)) Q E s:=by
 obtain⟨⟨cls,o,data,q⟩,h,r,n,p⟩:=id y;obtain⟨⟨l,g,k,f⟩,a,d,m,c⟩:=id z;simp only at r p d c;subst r p d c;have e:vs.toArray++ws.toArray=(vs++ws).toArray:=by simp
 by_cases i:ws=[]
 ·exact concat_meets ⟨_,h,rfl⟩ ⟨_,a,rfl⟩ noFill_tuple_add seq_tuple_add ab4 ab5 (ab6 _ _)
   (tuple_addW1 t b vs.toArray ws.toArray n m o g q f (by simpa using u) (by simp[i])) ⟨h,a,x i⟩
 ·refine concat_meets ⟨_,h,rfl⟩ ⟨_,a,rfl⟩ noFill_tuple_add seq_tuple_add ab4 ab5 (ab6 _ _)
   (tuple_addW2 t b vs.toArray ws.toArray n m o g q f (by simpa using u) (by simpa using i) (by rw[aam,aam];exact j)) ⟨h,a,?_⟩
  rw[e];exact v i
def sIx(n d:Nat):Option Int->Nat
 |none=>d
 |some v=>if v<0 then (v+(n:Int)).toNat else min v.toNat n
theorem wY(n d:Nat)(b:d<=n)(o:Option Int):sIx n d o<=n:=by
 cases o with
 |none=>exact b
 |some v=>
  show (if v<0 then (v+(n:Int)).toNat else min v.toNat n)<=n;by_cases a:v<0
  ·rw[if_pos a];omega
  ·rw[if_neg a];exact Nat.min_le_right _ _
theorem lJ(v:Int)(n d:Nat):(if v<0 then max (v+(n:Int)) 0 else min v (n:Int))=((sIx n d (some v):Nat):Int):=by
 show (if v<0 then max (v+(n:Int)) 0 else min v (n:Int))=(((if v<0 then (v+(n:Int)).toNat else min v.toNat n):Nat):Int);by_cases a:v<0
 ·simp only[if_pos a];omega
 ·simp only[if_neg a];omega
theorem kz(lo hi:Option Int)(n:Nat):Builtin.Slice.sliceAdjust lo hi 1 (n:Int)=(((sIx n 0 lo:Nat):Int),((sIx n n hi:Nat):Int)):=by
 have a:¬ ((1:Int)<0):=by omega
 unfold Builtin.Slice.sliceAdjust;simp only[a,if_false];refine Prod.ext ?_ ?_
 ·cases lo with
  |none=>rfl
  |some v=>exact lJ v n 0
 ·cases hi with
  |none=>rfl
  |some v=>exact lJ v n n
theorem kA(i j:Nat):Builtin.Slice.slicePlaces (i:Int) (j:Int) 1=j-i:=by
 unfold Builtin.Slice.slicePlaces;have a:(1:Int)>0:=by omega
 simp only[a,if_true,Int.ediv_one];split<;>omega
theorem fM(p:IsPart v o)(h:Q o s):wpAny (model prog w) A (Builtin.Slice.slicePartIndex v) Q E s:=by
 cases p with
 |none=>exact slicePart_none h
 |int i t=>exact slicePart_int h
theorem eC{lo hi:Option Int}{Q:Int×Int×Nat->Shared->Prop}(c:s.heap.IsSliceOf sl vl vu .none)(pl:IsPart vl lo)(d:IsPart vu hi)
  (h:Q (((sIx n 0 lo:Nat):Int),1,sIx n n hi-sIx n 0 lo) s):wpAny (model prog w) A (Builtin.Slice.sliceApplied (.ref sl) (pure (n:Int))) Q E s:=by
 obtain⟨f,a,e,b⟩:=id c;unfold Builtin.Slice.sliceApplied Builtin.Slice.sliceFields;refine wpAny_bind (wpAny_bind (wpAny_field a b rfl (wpAny_bind (wpAny_field a b rfl (wpAny_bind (wpAny_field a b rfl (wpAny_pure ?_)))))));refine wpAny_bind (slicePart_none ?_);show wpAny _ _ (if ((1:Int)==0)=true then _ else _) _ _ s;rw[if_neg (by decide)];refine wpAny_bind (fM pl (wpAny_bind (fM d (wpAny_bind (wpAny_pure ?_)))));show wpAny _ _ (match Builtin.Slice.sliceAdjust lo hi 1 (n:Int) with|(lo,hi)=>pure (lo,(1:Int),Builtin.Slice.slicePlaces lo hi 1)) _ _ s;rw[kz lo hi n];show wpAny _ _ (pure (((sIx n 0 lo:Nat):Int),(1:Int),Builtin.Slice.slicePlaces ((sIx n 0 lo:Nat):Int) ((sIx n n hi:Nat):Int) 1)) _ _ s;rw[kA];exact wpAny_pure h
theorem pq(xs:Array Value)(i k:Nat):((List.range k).filterMap λ(m:Nat)=>xs[((i:Int)+(m:Int)*1).toNat]?).toArray=((xs.toList.drop i).take k).toArray:=by
 have e:(λ(m:Nat)=>xs[((i:Int)+(m:Int)*1).toNat]?)=λm=>xs[i+m]?:=by
  funext m;have:((i:Int)+(m:Int)*1).toNat=i+m:=by omega
  rw[this]
 rw[e];have:=pick_run xs i k;rw[List.filterMap_map]at this;have a:((λx=>xs[x]?) ∘ λx=>i+x)=λm=>xs[i+m]?:=rfl;rw[a]at this;rw[this]
theorem getItem_tuple_cut{lo hi:Option Int}(b:IsTup s.heap t items)(g:s.heap.IsSliceOf sl vl vu .none)(pl:IsPart vl lo)(l:IsPart vu hi)
  (m:¬ (sIx items.size 0 lo=0/\sIx items.size items.size hi=items.size))
  (h:Q (.ref s.heap.objs.size) { s with heap:=s.heap.push { cls:=.type "tuple",data:=.seq ((items.toList.drop (sIx items.size 0 lo)).take (sIx items.size items.size hi-sIx items.size 0 lo)).toArray } })
  (i:items.size<=sizeLine):wpAny (model prog w) A (getItem (.ref t) (.ref sl)) Q E s:=by
 have a:sizeOk (.seq ((items.toList.drop (sIx items.size 0 lo)).take (sIx items.size items.size hi-sIx items.size 0 lo)).toArray):=by show ((items.toList.drop (sIx items.size 0 lo)).take (sIx items.size items.size hi-sIx items.size 0 lo)).toArray.size<=sizeLine;rw[aam,aa0,aa8,aaH];omega
 have o:sIx items.size items.size hi<=items.size:=wY _ _ (aac _) hi;obtain⟨j,d,f,k⟩:=id g;have e:s.TypeIs (.ref sl) "slice":=⟨j,d,f⟩
 unfold getItem
 try with_reducible refine wpAny_holding ?_
 first|refine wpAny_bind (wpAny_pure ?_)|skip
 refine wpAny_bind (wpAny_sequenceKey b.typeIs (by decide) ?_);refine wpAny_bind (wpAny_callSpecial?_slot b.typeIs abD
  (wpAny_call_entry abD b.typeIs entry_tuple_getitem ?_ (args_tuple_getitem _ _)))
 show wpAny _ _ (Builtin.Tuple.tupleItemsOf (.ref t) >>= _) _ _ s;refine wpAny_bind (tupleItemsOf_ b ?_);refine wpAny_bind (wpAny_typeOf e ?_);rw[if_pos (by decide)];refine wpAny_bind (eC g pl l ?_);have c:¬ ((((sIx items.size 0 lo:Nat):Int)==0&&(1:Int)==1&&(sIx items.size items.size hi-sIx items.size 0 lo)==items.size)=true):=by intro q;rw[aax,aax]at q;have n:((sIx items.size 0 lo:Nat):Int)=0:=eq_of_beq q.1.1;have p:sIx items.size items.size hi-sIx items.size 0 lo=items.size:=eq_of_beq q.2;exact m ⟨by omega,by omega⟩
 show wpAny _ _ (if (((sIx items.size 0 lo:Nat):Int)==0&&(1:Int)==1&&(sIx items.size items.size hi-sIx items.size 0 lo)==items.size)=true then _ else _) _ _ s;rw[if_neg c,pq]
 first
  |exact wpAny_bind (wpAny_newObj_type (wpAny_pure ⟨_,rfl,wpAny_pure h⟩) a)
  |exact wpAny_bind (wpAny_newObj_type (wpAny_bind (wpAny_pure (wpAny_pure ⟨_,rfl,wpAny_pure h⟩))) a)
  |exact wpAny_bind (wpAny_bind (wpAny_newObj_type (wpAny_pure (wpAny_pure ⟨_,rfl,wpAny_pure h⟩)) a))
  |exact wpAny_bind (wpAny_bind (wpAny_newObj_type (wpAny_pure ⟨_,rfl,wpAny_pure h⟩) a))
end
end HT
namespace L2
open PySem PySem.Spec PyProof.Rows
section
abbrev TO:=St->Hp->(Option Int->Hp->Prop)->Prop
def PO(X:Cx)(e:Option Expr)(t:TO):Prop:=
 ∀(a:List (Addr×Obj)) (s:Shared) (b:St) (H:Hp) (Q:Option Int->Hp->Prop),Inv X a b H s->t b H Q ->
  wpAny (model X.prog X.w) X.A (evalPart e X.env) (λu d=>∃o c,Inv X a b c d/\IsPart u o/\Q o c) X.xe s
def tNoPart:TO:=λ_ H Q=>Q none H
def zT(t:TE):TO:=λb H Q=>t b H λx a=>∃i,x=.int i/\Q (some i) a
section
variable{X:Cx}{e:Expr}{te:TE}{lo hi:Option Expr}{tl th:TO}{pos p2:Pos}
theorem sQ:PO X none tNoPart:=by intro a s b H Q I h;rw[evalPart_none];exact wpAny_pure ⟨none,H,I,.none,h⟩
theorem sR(h:PE X e te):PO X (some e) (zT te):=by intro a s g H Q I k;rw[evalPart_some];refine thn (h a s g H _ I k) λu l j=>?_;obtain⟨x,f,b,c,d⟩:=j;obtain⟨i,rfl,q⟩:=d;obtain⟨t,rfl⟩:=c;exact⟨some i,f,b,.int i t,q⟩
def SlR(X:Cx)(r:V->Option Int->Option Int->Hp->VK->Prop):Prop:=
 ∀(a:List (Addr×Obj)) (s:Shared) (f:St) (H:Hp) (x:V) (v d c:Value) (lo hi:Option Int) (b:Addr) (Q:VK),Inv X a f H s->RelV x v->s.heap.IsSliceOf b d c .none->IsPart d lo->IsPart c hi->r x lo hi H Q ->
  ∃T g,typeLookup (.type T) "__getitem__"=pure (some (.builtin g))/\s.TypeIs v T/\wpAny (model X.prog X.w) X.A (getItem v (.ref b)) (EP X a f Q) X.xe s
theorem SlR.or(h:SlR X r)(h':SlR X r'):SlR X (λx lo hi H Q=>r x lo hi H Q\/r' x lo hi H Q):=by
 intro a s c H x v d g lo hi k Q I b i f j q;rcases q with q|q
 ·exact h a s c H x v d g lo hi k Q I b i f j q
 ·exact h' a s c H x v d g lo hi k Q I b i f j q
def FL(r:V->Option Int->Option Int->Hp->VK->Prop)(te:TE)(tl th:TO):TE:=λa H Q=>te a H λx d=>tl a d λl b=>th a b λu c=>r x l u c Q
theorem jw{r:V->Option Int->Option Int->Hp->VK->Prop}(O:SlR X r)(S:PE X e te)(z:PO X lo tl)(J:PO X hi th):PE X (.Subscript e (.Slice lo hi none p2) pos) (FL r te tl th):=by intro a s d H Q I h;refine Subscript_ (thn (S a s d H _ I h) λv t i=>?_);obtain⟨x,y,n,o,p⟩:=i;refine wpAny_Slice (thn (z a t d y _ n p) λf U ⟨l,k,m,D,Z⟩=>thn (J a U d k _ m Z) λg c i=>?_);obtain⟨u,j,B,N,C⟩:=i;rw[evalPart_none];refine wpAny_pure ?_;have M:Inv X a d j { c with heap:=c.heap.push { cls:=.type "slice",data:=.fields #[f,g,.none] } }:=B.kept (t':=c.toks) λb ob q=>Heap.get?_push_of_some _ q;obtain⟨T,id,Y,L,G⟩:=O a { c with heap:=c.heap.push { cls:=.type "slice",data:=.fields #[f,g,.none] } } d j x v f g l u c.heap.objs.size Q M o (Heap.IsSliceOf.new ..) D N C;show wpAny (model X.prog X.w) X.A (subscriptTail e (.Slice lo hi none p2) v (.ref c.heap.objs.size)) (EP X a d Q) X.xe { c with heap:=c.heap.push { cls:=.type "slice",data:=.fields #[f,g,.none] } };exact tail_any (ops:=[.ref c.heap.objs.size,v]) L Y G (by with_unfolding_all rfl)
def sS(xs:List V)(lo hi:Option Int):List V:=(xs.drop (HT.sIx xs.length 0 lo)).take (HT.sIx xs.length xs.length hi-HT.sIx xs.length 0 lo)
theorem eZ(xs:List V)(lo hi:Option Int):(sS xs lo hi).length<=xs.length:=by unfold sS;rw[aa0,aa8];omega
def Dc(K:Waa):V->Option Int->Option Int->Hp->VK->Prop:=λx lo hi H Q=>∃a b,x=.ref a/\SqT K H a b /\
 ¬ (HT.sIx b.length 0 lo=0/\HT.sIx b.length b.length hi=b.length)/\∀p,H p=none->Q (.ref p) (upd H p (.tup (sS b lo hi)))
theorem wZ:SlR X (Dc X.K):=by
 intro g s t H x v u w lo hi z Q I k n m o h;obtain⟨a,d,rfl,l,p,q⟩:=h;cases k;obtain⟨f,r,j,i⟩:=I.tuple l;have c:f.toArray.size=d.length:=by rw[aam];exact r.length.symm
 refine⟨"tuple",_,abD.lookup,j.typeIs,?_⟩;refine HT.getItem_tuple_cut j n m o (by rw[c];exact p) ?_ (by rw[c];exact i);rw[c];refine⟨.ref s.heap.objs.size,_,I.laid (λb y q=>Heap.get?_push_of_some _ q) (aac _) ?_,rfl,q _ (I.hok.fresh (aac _))⟩;exact⟨aat (eZ d lo hi) i,_,(r.drop (HT.sIx d.length 0 lo)).take (HT.sIx d.length d.length hi-HT.sIx d.length 0 lo),⟨_,Heap.get?_push_size _ rfl,rfl,_,rfl,rfl⟩⟩
def FM(K:Waa):R2:=λx y H Q=>∃a b d c,x=.ref a/\y=.ref b/\SqT K H a (d.map V.int)/\SqT K H b (c.map V.int)/\Q (.bl (HT.lexLt d c)) H
def zU(K:Waa):R2:=λx y H Q=>∃a b d c,x=.ref a/\y=.ref b/\SqT K H a d/\SqT K H b c/\d≠[]/\d.length+c.length<=sizeLine /\
 (c=[]->Q (.ref a) H)/\(c≠[]->∀p,H p=none->Q (.ref p) (upd H p (.tup (d++c))))
theorem Vals.l3(r:Vals xs us):us=[] ↔ xs=[]:=by
 cases r with
 |nil=>simp
 |cons _ _=>simp
theorem sT:OpR X (binaryOp .Add) (zU X.K):=by intro f s A H x y v u Q I j o h;obtain⟨a,b,B,C,rfl,rfl,p,r,l,g,m,t⟩:=h;cases j;cases o;obtain⟨n,d,k,_⟩:=I.tuple p;obtain⟨i,c,p2,_⟩:=I.tuple r;refine HT.cat_tup k p2 (λz=>l (d.l3.mp z)) (λz=>⟨.ref a,H,I,rfl,m (c.l3.mp z)⟩) (λz=>?_) (by rw[<-d.length,<-c.length];exact g);refine⟨.ref s.heap.objs.size,_,I.laid (λb D q=>Heap.get?_push_of_some _ q) (aac _) ?_,rfl,t (λw=>z (c.l3.mpr w)) _ (I.hok.fresh (aac _))⟩;exact⟨by rw[aaw];exact g,_,d.append c,⟨_,Heap.get?_push_size _ rfl,rfl,_,rfl,rfl⟩⟩
end
end
section
def ixN(n:Nat)(i:Int):Option Nat:=if 0<=i then (if i<n then some i.toNat else none) else if -(n:Int)<=i then some (i+n).toNat else none
def atI{a:Type}(xs:List a)(i:Int):Option a:=(ixN xs.length i).bind λj=>xs[j]?
theorem ixN_seq(h:ixN n i=some j):seqIndex? i n=some j/\j<n/\-(n:Int)<=i/\i<n:=by
 unfold ixN at h;by_cases b:0<=i
 ·rw[if_pos b]at h;by_cases a:i<n
  ·rw[if_pos a]at h;have e:i.toNat=j:=aaD h;exact⟨by rw[seqIndex_of b a,e],by omega,by omega,a⟩
  ·rw[if_neg a]at h;cases h
 ·rw[if_neg b]at h;by_cases a:-(n:Int)<=i
  ·rw[if_pos a]at h;have e:(i+n).toNat=j:=aaD h;exact⟨by rw[seqIndex_neg (by omega) a,e],by omega,a,by omega⟩
  ·rw[if_neg a]at h;cases h
theorem atI_get{a:Type}{xs:List a}{i:Int}{v:a}(h:atI xs i=some v):∃j,seqIndex? i xs.length=some j/\xs[j]?=some v/\j<xs.length/\-(xs.length:Int)<=i/\i<xs.length:=by
 unfold atI at h;cases e:ixN xs.length i with
 |none=>rw[e]at h;cases h
 |some j=>rw[e]at h;obtain⟨d,f,b,c⟩:=ixN_seq e;exact⟨j,d,h,f,b,c⟩
theorem atI_last{a:Type}(xs:List a)(v:a):atI (xs++[v]) (-1)=some v:=by
 have b:(xs++[v]).length=xs.length+1:=by simp
 have e:ixN (xs++[v]).length (-1)=some xs.length:=by unfold ixN;rw[b,if_neg (by decide),if_pos (by omega)];congr 1;omega
 unfold atI;rw[e];show (xs++[v])[xs.length]?=some v;simp
def PlainIx(b:Expr):Prop:=∀o i,subscripted b false o i=operate [o,i] (getItem o i)
def IxR(X:Cx)(r:R2):Prop:=
 ∀(c a:Expr) (b:List (Addr×Obj)) (s:Shared) (d:St) (H:Hp) (x y:V) (v u:Value) (Q:VK),Inv X b d H s->RelV x v->RelV y u->r x y H Q ->
  subscripted a false v u=operate [v,u] (getItem v u)->wpAny (model X.prog X.w) X.A (subscriptTail c a v u) (EP X b d Q) X.xe s
def MtR(X:Cx)(id:String)(r:V->List V->Hp->VK->Prop):Prop:=
 ∀(a:List (Addr×Obj)) (s:Shared) (d:St) (H:Hp) (x:V) (c:List V) (v:Value) (b:List Value) (Q:VK),Inv X a d H s->RelV x v->Vals c b->r x c H Q ->
  wpAny (model X.prog X.w) X.A (call (.builtin id) (v::b)) (EP X a d Q) X.xe s
section
variable{X:Cx}{a b:Expr}{ta tb:TE}{pos:Pos}
theorem IxR.or(h:IxR X r)(h':IxR X r'):IxR X (λx y H Q=>r x y H Q\/r' x y H Q):=by
 intro c d e s i H x y v u Q I f j q g;rcases q with q|q
 ·exact h c d e s i H x y v u Q I f j q g
 ·exact h' c d e s i H x y v u Q I f j q g
theorem MtR.or{d:String}(h:MtR X d r)(h':MtR X d r'):MtR X d (λx xs H Q=>r x xs H Q\/r' x xs H Q):=by
 intro c s i H x xs v e Q I f g q;rcases q with q|q
 ·exact h c s i H x xs v e Q I f g q
 ·exact h' c s i H x xs v e Q I f g q
theorem vn(l:IxR X r)(k:PE X a ta)(m:PE X b tb)(j:PlainIx b):PE X (.Subscript a b pos) (zH r ta tb):=by intro c s g H Q I h;exact Subscript_ (wJ k m I h λv u n x y d e f i q=>l a b c n g d x y v u Q e f i q (j _ _))
def zV(K:Waa):R2:=λx y H Q=>∃p c i v,x=.ref p/\y=.int i/\SqL K H p c/\atI c i=some v/\Q v H
def zW(K:Waa):R2:=λx y H Q=>∃p c i v,x=.ref p/\y=.int i/\SqT K H p c/\atI c i=some v/\Q v H
def rIxS:R2:=λx y H Q=>∃z i c,x=.str z/\y=.int i/\z.length<=sizeLine/\atI z.cps.toList i=some c/\Q (.str ⟨#[c]⟩) H
theorem ix_list:IxR X (zV X.K):=by
 intro n m c s B H x y v u Q I D N h C;obtain⟨p,Z,i,z,rfl,rfl,T,S,q⟩:=h;cases D;obtain⟨t,rfl⟩:=N;obtain⟨f,r,g,hz⟩:=I.list T;obtain⟨j,e,G,Y,O,M⟩:=atI_get S;obtain⟨w,o,k⟩:=r.get G;have L:=r.length;have U:=line63;have d:EP X c B Q w s:=⟨z,H,I,k,q⟩
 by_cases A:0<=i
 ·have l:i.toNat=j:=by rw[seqIndex_of A M]at e;exact aaD e
  exact item_listR g.isList A (by omega) (by rw[l];simpa using o) d C
 ·have l:(i+(f.toArray.size:Int)).toNat=j:=by rw[seqIndex_neg (by omega) O]at e;rw[aam,<-L];exact aaD e
  exact subscriptTail_builtinR (x:=w) g.isList.typeIs slot_list_getitem.lookup
   (wpAny_getItem_list_neg (Q:=λr J=>r=w/\EP X c B Q r J) g.isList (by omega) (by rw[aam]<;>omega) (by omega) (by rw[l];simpa using o) ⟨rfl,d⟩) C
theorem ix_tup:IxR X (zW X.K):=by
 intro g f c s k H x y v u Q I n G h J;obtain⟨p,S,i,z,rfl,rfl,M,L,q⟩:=h;cases n;obtain⟨t,rfl⟩:=G;obtain⟨B,r,l,T⟩:=I.tuple M;obtain⟨j,D,o,O,Y,U⟩:=atI_get L;obtain⟨w,m,e⟩:=r.get o;have C:=r.length;have N:=line63;have d:EP X c k Q w s:=⟨z,H,I,e,q⟩
 exact subscriptTail_builtinR (x:=w) l.typeIs slot_tuple_getitem.lookup
  (getItem_tuple (j:=j) (Q:=λr A=>r=w/\EP X c k Q r A) l (by omega) (by omega) (by rw[aam,<-C];exact D) (by simpa using m) ⟨rfl,d⟩) J
theorem w8:IxR X rIxS:=by
 intro e d f s G H x y v u Q I k p h A;obtain⟨z,i,c,rfl,rfl,L,B,q⟩:=h;obtain⟨t,rfl⟩:=k;obtain⟨D,rfl⟩:=p;obtain⟨j,g,m,J,r,o⟩:=atI_get B;have n:z.cps.toList.length=z.length:=by simp[Str.length]
 rw[n]at g r o;have C:=line63;exact tail_any (typeIs_str s z t) slot_str_getitem.lookup (getItem_str (c:=c) (by
  have w:decide (i < -(2^63:Int))=false:=Dab (by omega);have l:decide (i ≥ 2^63)=false:=Dab (by omega);rw[w,l,abE]) (by rw[g];simpa using m) ⟨.str ⟨#[c]⟩,H,I.tok _,⟨_,rfl⟩,q⟩) A
def FN(K:Waa):R2:=λx y H Q=>zV K x y H Q\/zW K x y H Q\/rIxS x y H Q
theorem pv:IxR X (FN X.K):=ix_list.or (ix_tup.or w8)
theorem kB(c:List Value)(n j:Nat)(u:Value):Obj.mapSeq (·.setIfInBounds j u) { cls:=.type "list",data:=.seq c.toArray n }={ cls:=.type "list",data:=.seq (c.set j u).toArray n }:=by simp[Obj.mapSeq]
theorem Inv.lst{d:List (Addr×Obj)}{σ:St}(I:Inv X d σ H s)(h:H p=some (.lst xs)):
  ∃(c:List Value) (n:Nat),Vals xs c/\s.heap.get? p=some { cls:=.type "list",data:=.seq c.toArray n }/\xs.length<=sizeLine:=by
 obtain⟨z,c,n,r,e⟩:=I.hok p _ h;exact⟨c,n,r,e,z⟩
theorem Inv.lstUpd{xs ys:List V}{d c:List Value}{n g:Nat}{f:Obj->Obj}(I:Inv X pins σ H s)(h:H p=some (.lst xs))
  (j:s.heap.get? p=some { cls:=.type "list",data:=.seq d.toArray n }) (i:f { cls:=.type "list",data:=.seq d.toArray n }={ cls:=.type "list",data:=.seq c.toArray g }) (r:Vals ys c) (k:ys.length<=sizeLine) (t:Nat):
  Inv X pins σ (upd H p (.lst ys)) { s with heap:=s.heap.update p f,toks:=t }:=by
 have e:(s.heap.update p f).get? p=some { cls:=.type "list",data:=.seq c.toArray g }:=by rw[Heap.get?_update_self f j (by rw[i]<;>rfl),i]
 refine I.write (by rw[h];trivial) (.inl rfl) (λb u l q=>(Heap.get?_update_other _ _ (aaz l)).trans q) ⟨_,e⟩ ?_;exact⟨k,c,g,r,e⟩
def rSetL:V->V->V->Hp->(Hp->Prop)->Prop:=λo i v H Q=>∃p c k j,o=.ref p/\i=.int k/\H p=some (.lst c)/\ixN c.length k=some j/\Q (upd H p (.lst (c.set j v)))
theorem set_list:PSet X rSetL:=by
 intro c s A H o i v S O u Q I D G J h;obtain⟨p,B,k,j,rfl,rfl,y,L,q⟩:=h;cases D;obtain⟨t,rfl⟩:=G;obtain⟨d,n,r,f,C⟩:=I.lst y;obtain⟨e,N,x,z⟩:=ixN_seq L;have l:=r.length;have M:=line63;have m:Inv X c A (upd H p (.lst (B.set j v))) { s with heap:=s.heap.update p (Obj.mapSeq (·.setIfInBounds j u)) }:=
  I.lstUpd y f (kB d n j u) (r.set J j) (by rw[abF];exact C) s.toks
 by_cases w:0<=k
 ·have g:k.toNat=j:=by rw[seqIndex_of w z]at e;exact aaD e
  exact PySem.W.ki_setAt f w (by omega) (by rw[aam,<-l];exact z) (by rw[g];exact⟨_,m,q⟩)
 ·have g:(k+(d.toArray.size:Int)).toNat=j:=by rw[seqIndex_neg (by omega) x]at e;rw[aam,<-l];exact aaD e
  exact PySem.W.ki_setBack f (by omega) (by rw[aam,<-l];exact x) (by omega) (by rw[g];exact⟨_,m,q⟩)
theorem iC(lo hi:Option Int)(n:Nat):(sliceBounds lo hi none n).1=((HT.sIx n 0 lo:Nat):Int)/\(sliceBounds lo hi none n).2.1=((HT.sIx n n hi:Nat):Int)/\(sliceBounds lo hi none n).2.2=1:=by
 refine⟨?_,?_,rfl⟩
 ·cases lo with
  |none=>simp[sliceBounds,HT.sIx]
  |some i=>
   simp only[sliceBounds,HT.sIx,Option.getD_none,show (1:Int)>0 by decide,if_true];by_cases h:i<0
   ·simp only[h,if_true]<;>omega
   ·simp only[h,if_false]<;>omega
 ·cases hi with
  |none=>simp[sliceBounds,HT.sIx]
  |some i=>
   simp only[sliceBounds,HT.sIx,Option.getD_none,show (1:Int)>0 by decide,if_true];by_cases h:i<0
   ·simp only[h,if_true]<;>omega
   ·simp only[h,if_false]<;>omega
theorem gP(c:List Value)(lo hi:Option Int):slicePick c.toArray lo hi none=((c.drop (HT.sIx c.length 0 lo)).take (HT.sIx c.length c.length hi-HT.sIx c.length 0 lo)).toArray:=by obtain⟨e,f,d⟩:=iC lo hi c.toArray.size;unfold slicePick;rw[e,f,d];simp only[sliceRange_one,pick_run,aam]<;>rfl
def De(K:Waa):V->Option Int->Option Int->Hp->VK->Prop:=λx d e H Q=>∃a c,x=.ref a/\SqL K H a c/\∀p,H p=none->Q (.ref p) (upd H p (.lst (sS c d e)))
theorem sU:SlR X (De X.K):=by intro f s t H x v u w e g z Q I j o n p h;obtain⟨a,d,rfl,k,q⟩:=h;cases j;obtain⟨l,r,i,m⟩:=I.list k;have c:=r.length;refine⟨"list",_,slot_list_getitem.lookup,i.isList.typeIs,?_⟩;refine wpAny_getItem_list_slice i.isList o n p .none (by simp) ?_ (by rw[aam]<;>omega);rw[gP,<-c];refine⟨.ref s.heap.objs.size,_,I.laid (λb y q=>Heap.get?_push_of_some _ q) (aac _) ?_,rfl,q _ (I.hok.fresh (aac _))⟩;exact⟨aat (eZ d e g) m,_,0,(r.drop (HT.sIx d.length 0 e)).take (HT.sIx d.length d.length g-HT.sIx d.length 0 e),Heap.get?_push_size _ rfl⟩
def bI:V->Bool
 |.non=>true
 |.bl _=>true
 |.int _=>true
 |.str _=>true
 |_=>false
def eqV:V->V->Bool
 |.non,.non=>true
 |.bl a,.bl b=>a==b
 |.bl a,.int b=>(if a then 1 else 0)==b
 |.int a,.bl b=>a==(if b then 1 else 0)
 |.int a,.int b=>a==b
 |.str a,.str b=>a==b
 |_,_=>false
theorem w9(f:RelV y u)(c:RelV x v)(g:bI y=true)(e:bI x=true):SeqAt.EqAt A s u v (eqV y x):=by
 cases y with
 |non=>
  cases f;cases x with
  |non=>cases c;exact SeqAt.EqAt.same _
  |bl b=>cases c;exact SeqAt.EqAt.none_bool b
  |int b=>obtain⟨t,rfl⟩:=c;exact SeqAt.EqAt.none_int b t
  |str b=>obtain⟨t,rfl⟩:=c;exact SeqAt.EqAt.none_str b t
  |_=>exact absurd (show false=true from e) aab
 |bl a=>
  cases f;cases x with
  |non=>cases c;exact SeqAt.EqAt.bool_none a
  |bl b=>cases c;exact SeqAt.EqAt.bool_bool a b
  |int b=>obtain⟨t,rfl⟩:=c;exact SeqAt.EqAt.bool_int a b t
  |str b=>obtain⟨t,rfl⟩:=c;exact SeqAt.EqAt.bool_str a b t
  |_=>exact absurd (show false=true from e) aab
 |int a=>
  obtain⟨d,rfl⟩:=f;cases x with
  |non=>cases c;exact SeqAt.EqAt.int_none a d
  |bl b=>cases c;exact SeqAt.EqAt.int_bool a d b
  |int b=>obtain⟨t,rfl⟩:=c;exact SeqAt.EqAt.int_int a d b t
  |str b=>obtain⟨t,rfl⟩:=c;exact SeqAt.EqAt.int_str a d b t
  |_=>exact absurd (show false=true from e) aab
 |str a=>
  obtain⟨d,rfl⟩:=f;cases x with
  |non=>cases c;exact SeqAt.EqAt.str_none a d
  |bl b=>cases c;exact SeqAt.EqAt.str_bool a d b
  |int b=>obtain⟨t,rfl⟩:=c;exact SeqAt.EqAt.str_int a d b t
  |str b=>obtain⟨t,rfl⟩:=c;exact SeqAt.EqAt.str_str a d b t
  |_=>exact absurd (show false=true from e) aab
 |_=>exact absurd (show false=true from g) aab
def kC(x:V)(u:Value):Bool:=match u with
 |.none=>eqV .non x
 |.bool b=>eqV (.bl b) x
 |.int i _=>eqV (.int i) x
 |.str z _=>eqV (.str z) x
 |_=>false
theorem pw(r:RelV y u)(f:bI y=true):kC x u=eqV y x:=by
 cases y with
 |non=>cases r;rfl
 |bl b=>cases r;rfl
 |int i=>obtain⟨t,rfl⟩:=r;rfl
 |str z=>obtain⟨t,rfl⟩:=r;rfl
 |_=>exact absurd (show false=true from f) aab
theorem dD:∀{xs:List V}{us:List Value},Vals xs us->xs.all bI=true->us.any (kC x)=xs.any λy=>eqV y x
 |_,_,.nil,_=>rfl
 |y::xs,u::us,.cons r t,f=>by rw[List.all_cons,aax]at f;rw[aaU,aaU,pw r f.1,dD t f.2]
theorem cA(e:RelV x v)(d:bI x=true):∀{xs:List V}{us:List Value},Vals xs us->xs.all bI=true->∀u∈us,SeqAt.EqAt A s u v (kC x u)
 |_,_,.nil,_=>λu c=>by cases c
 |y::xs,u::us,.cons r t,f=>λg c=>by
  rw[List.all_cons,aax]at f;rcases aaa.mp c with rfl|c
  ·rw[pw r f.1];exact w9 r e f.1 d
  ·exact cA e d t f.2 g c
def inV(x:V)(xs:List V):Bool:=xs.any λy=>eqV y x
def Dg(K:Waa)(d:Bool):R2:=λx y H Q=>∃p c,y=.ref p/\(SqL K H p c\/SqT K H p c)/\bI x=true/\c.all bI=true/\Q (.bl (if d then !inV x c else inV x c)) H
theorem nv:OpR X (compareOp .In) (Dg X.K false):=by
 intro j s n H x y v u Q I i m h;obtain⟨p,o,rfl,d,k,e,q⟩:=h;cases m;rcases d with d|d
 ·obtain⟨c,r,f,l⟩:=I.list d;refine SeqAt.in_listAt (kC x) f.isList (λw g=>cA i k r e w (by simpa using g)) ⟨.bl _,H,I,rfl,?_⟩;rw[show c.toArray.any (kC x)=c.any (kC x) by simp,dD r e];exact q
 ·obtain⟨c,r,f,l⟩:=I.tuple d;refine SeqAt.in_tupleAt (kC x) f (λw g=>cA i k r e w (by simpa using g)) ⟨.bl _,H,I,rfl,?_⟩;rw[show c.toArray.any (kC x)=c.any (kC x) by simp,dD r e];exact q
theorem iD:OpR X (compareOp .NotIn) (Dg X.K true):=by
 intro j s n H x y v u Q I i m h;obtain⟨p,o,rfl,d,k,e,q⟩:=h;cases m;rcases d with d|d
 ·obtain⟨c,r,f,l⟩:=I.list d;refine SeqAt.notIn_listAt (kC x) f.isList (λw g=>cA i k r e w (by simpa using g)) ⟨.bl _,H,I,rfl,?_⟩;rw[show c.toArray.any (kC x)=c.any (kC x) by simp,dD r e];exact q
 ·obtain⟨c,r,f,l⟩:=I.tuple d;refine SeqAt.notIn_tupleAt (kC x) f (λw g=>cA i k r e w (by simpa using g)) ⟨.bl _,H,I,rfl,?_⟩;rw[show c.toArray.any (kC x)=c.any (kC x) by simp,dD r e];exact q
theorem CallR.or(h:CallR X f r)(h':CallR X f r'):CallR X f (λxs H Q=>r xs H Q\/r' xs H Q):=by
 intro c s g H xs d Q I e q;rcases q with q|q
 ·exact h c s g H xs d Q I e q
 ·exact h' c s g H xs d Q I e q
theorem gQ:CallR X (.type "tuple") (λxs H Q=>∃p ys,xs=[.ref p]/\((SqL X.K H p ys/\∀l,H l=none->Q (.ref l) (upd H l (.tup ys)))\/(SqT X.K H p ys/\Q (.ref p) H))):=by
 intro c s n H xs z Q I r h;obtain⟨p,ys,rfl,h⟩:=h;obtain⟨u,rfl,x⟩:=vals1 r;cases x;rcases h with ⟨i,q⟩|⟨i,q⟩
 ·obtain⟨d,j,g,t⟩:=I.list i;have m:=j.length;refine call_tuple_list g.isList (λf y=>?_) (by simp only[aam]<;>omega);have k:Inv X c n H { s with heap:=f }:=I.kept y;have v:Inv X c n (upd H f.objs.size (.tup ys)) { s with heap:=f.push { cls:=.type "tuple",data:=.seq d.toArray } }:=
   k.laid (λb o e=>Heap.get?_push_of_some _ e) (aac _) (show ObjOk X.prog X.w _ _ _ (.tup ys) from ⟨t,d,j,⟨_,Heap.get?_push_size _ rfl,rfl,_,rfl,rfl⟩⟩)
  exact⟨.ref f.objs.size,_,v,rfl,q _ (k.hok.fresh (aac _))⟩
 ·obtain⟨d,j,g,t⟩:=I.tuple i;exact call_tuple_same g ⟨.ref p,H,I,rfl,q⟩
def Dh(K:Waa)(T:String)(x:V)(H:Hp):Prop:=match x with
 |.str _=>T="str"
 |.int _=>T="int"
 |.ref p=>(T="list"/\∃d,SqL K H p d)\/(T="tuple"/\∃d,SqT K H p d) \/
   (T="dict"/\((∃c,H p=some (.dK c))\/∃c,H p=some (.dT c)))\/(T="set"/\∃S n,H p=some (.set S n))
 |_=>False
theorem xf{g:List (Addr×Obj)}{σ:St}(I:Inv X g σ H s)(r:RelV x v)(h:Dh X.K T x H):
  s.TypeIs v T/\∀a,v=.ref a->∃q,s.heap.get? a=some q/\q.dict=none:=by
 cases x with
 |str z=>obtain⟨t,rfl⟩:=r;cases (show T="str" from h);exact⟨typeIs_str s z t,λ_ e=>nomatch e⟩
 |int i=>obtain⟨t,rfl⟩:=r;cases (show T="int" from h);exact⟨typeIs_int s i t,λ_ e=>nomatch e⟩
 |ref p=>
  cases r;rcases h with ⟨rfl,A,C⟩|⟨rfl,A,d⟩|⟨rfl,d⟩|⟨rfl,S,n,d⟩
  ·obtain⟨y,_,m,_⟩:=I.list C;refine⟨m.isList.typeIs,λa e=>?_⟩;cases e;obtain⟨o,n,e,c,B,_⟩:=m;exact⟨o,e,B⟩
  ·obtain⟨o,l,u,w⟩:=I.tupN d;refine⟨⟨o,l,u⟩,λa e=>?_⟩;cases e;exact⟨o,l,w⟩
  ·have z:∃o,s.heap.get? p=some o/\o.ExactDict:=by
    rcases d with ⟨k,d⟩|⟨k,d⟩
    ·obtain⟨_,_,_,_,o,_,_,e,f,_⟩:=I.hok p _ d;exact⟨o,e,f⟩
    ·obtain⟨_,_,_,_,o,_,_,e,f,_⟩:=I.hok p _ d;exact⟨o,e,f⟩
   obtain⟨o,e,f⟩:=z;refine⟨⟨o,e,f.1⟩,λa j=>?_⟩;cases j;exact⟨o,e,f.2.1⟩
  ·obtain⟨o,_,_,_,e,f,_⟩:=I.hok p _ d;refine⟨⟨o,e,f.1⟩,λa j=>?_⟩;cases j;exact⟨o,e,f.2.1⟩
 |_=>exact False.elim h
def FO(K:Waa)(T:String)(r:V->List V->Hp->VK->Prop)(d:TE):TE:=λe H Q=>d e H λx c=>Dh K T x c/\r x [] c Q
def FP(K:Waa)(T:String)(r:V->List V->Hp->VK->Prop)(f:TE)(t:TA):TE:=λd H Q=>f d H λx c=>Dh K T x c/\t d c λg e=>r x g e Q
variable{o e:Expr}{es:List Expr}{to:TE}{t:TA}{name:Str}{apos cpos:Pos}{T id:String}{r:V->List V->Hp->VK->Prop}
theorem lK(Y:PlainAttrs T) (i:Slot T name id) (l:typeOf (.builtin id)=pure (.type "method_descriptor")) (O:MtR X id r) (B:PE X o to) (M:PA X (e::es) t)
  (g:attributeBase o name X.env (eval o X.env)=eval o X.env:=by rfl)
  (j:((backTo cpos (starEach (e::es) X.env)).all (λx=>!x.1)&&(backToKw cpos (keywordEach [] X.env)).all (λx=>x.1.isSome)
   && decide ((e::es).length+([]:List Keyword).length+(if ([]:List Keyword).isEmpty then 0 else 1)<30))=true:=by rfl)
  (f:(apos.endLine==cpos.line)=true:=by rfl) (L:starEach (e::es) X.env=(false,eval e X.env)::starEach es X.env:=by rfl) (d:(backTo cpos (starEach es X.env)).any (·.1)=false:=by rfl):
  PE X (.Call (.Attribute o name apos) (e::es) [] cpos) (FP X.K T r to t):=by
 intro c s k H Q I h;refine wpAny_Call_method_late g j f rfl (thn (B c s k H _ I h) λv y D=>?_);obtain⟨x,A,m,n,C,w⟩:=D;obtain⟨G,z⟩:=xf m n C;refine⟨T,id,Y,i,l,G,z,?_⟩;have p:=M cpos c y k A _ m w;rw[L]at p ⊢;refine Calls.callWith_builtin (by show (false||(backTo cpos (starEach es X.env)).any (·.1))=false;rw[d]<;>rfl) (Calls.evalArgs_plain ?_);exact thn p λU S ⟨N,q,u,J,Z⟩=>O c S k q x N v U Q u n J Z
end
end
section
def Di(X:Cx)(id:String)(r:V->List V->Hp->VK->Prop):Prop:=
 ∀(a:List (Addr×Obj)) (s:Shared) (d:St) (H:Hp) (x:V) (c:List V) (v:Value) (b:List Value) (Q:VK),Inv X a d H s->RelV x v->Vals c b->r x c H Q ->
  wpAny (model X.prog X.w) X.A (call (.builtin id) (v::b)) (EP X a d Q) X.xe s
theorem Vals.one(h:Vals [x] us):∃u,us=[u]/\RelV x u:=by
 cases h with|cons r t=>cases t;exact⟨_,rfl,r⟩
theorem Vals.two(h:Vals [x,y] us):∃u v,us=[u,v]/\RelV x u/\RelV y v:=by
 cases h with|cons r t=>cases t with|cons q t=>cases t;exact⟨_,_,rfl,r,q⟩
theorem Vals.zero:∀{us:List Value},Vals [] us->us=[]
 |_,.nil=>rfl
theorem Vals.dropLast(h:Vals xs us):Vals xs.dropLast us.dropLast:=by
 induction h with
 |nil=>exact .nil
 |cons r t a=>
  cases t with
  |nil=>exact .nil
  |cons q b=>exact .cons r a
theorem Vals.eraseIdx:∀{xs:List V}{us:List Value} (i:Nat),Vals xs us->Vals (xs.eraseIdx i) (us.eraseIdx i)
 |_,_,_,.nil=>.nil
 |_,_,0,.cons _ t=>t
 |_,_,i+1,.cons r t=>.cons r (Vals.eraseIdx i t)
theorem Vals.reverse(h:Vals xs us):Vals xs.reverse us.reverse:=by
 induction h with
 |nil=>exact .nil
 |cons r t a=>rw[List.reverse_cons,List.reverse_cons];exact Vals.append a (.cons r .nil)
theorem Vals.rep(h:Vals xs us):∀k:Nat,Vals (List.replicate k xs).flatten (List.replicate k us).flatten
 |0=>.nil
 |k+1=>by rw[aaK,aaK,aa9,aa9];exact Vals.append h (Vals.rep h k)
theorem foldl_rep(a:List Value):∀(k:Nat) (b:List Value),
  List.foldl (λc d=>c++d) b.toArray (List.replicate k a.toArray)=(b++(List.replicate k a).flatten).toArray
 |0,b=>by simp
 |k+1,b=>by
  have e:b.toArray++a.toArray=(b++a).toArray:=by simp
  have f:(b++a)++(List.replicate k a).flatten=b++(List.replicate (k+1) a).flatten:=by rw[aaK,aa9,aaf]
  rw[<-f,<-foldl_rep a k (b++a),<-e,aaK,abG]
section
variable{X:Cx}{pins:List (Addr×Obj)}{σ:St}{H:Hp}{s:Shared}{l b:Addr}{xs ys zs:List V}
theorem Inv.wj{c a:List Value}{n:Nat}{f:Array Value->Array Value}{t':Nat}(I:Inv X pins σ H s)(g:H l=some (.lst xs))
  (e:s.heap.get? l=some { cls:=.type "list",data:=.seq c.toArray n }) (d:f c.toArray=a.toArray) (i:Vals ys a) (h:ys.length<=sizeLine):
  Inv X pins σ (upd H l (.lst ys)) { s with heap:=s.heap.update l (Obj.mapSeq f),toks:=t' }:=by
 have q:=PySem.IsL.update e f;rw[d]at q;refine I.write (by rw[g];exact trivial) (.inl rfl) (λm u k j=>(Heap.get?_update_other s.heap (Obj.mapSeq f) (aaz k)).trans j) ⟨_,q⟩ ?_;exact⟨h,a,_,i,q⟩
theorem Inv.lnew{t':Nat}(I:Inv X pins σ H s)(a:Vals ys its)(hz:ys.length<=sizeLine):
  Inv X pins σ (upd H s.heap.objs.size (.lst ys)) { s with heap:=s.heap.push { cls:=.type "list",data:=.seq its.toArray },toks:=t' }:=
 I.laid (λ_ _ q=>Heap.get?_push_of_some _ q) (aac _) ⟨hz,its,0,a,Heap.get?_push_size _ rfl⟩
theorem Inv.fresh(I:Inv X pins σ H s):H s.heap.objs.size=none:=I.hok.fresh (aac _)
theorem Inv.ri(I:Inv X pins σ H s)(c:H l=some (.lst xs)):xs.length<=sizeLine/\∃(a:List Value) (n:Nat),Vals xs a/\xs.length=a.length/\s.heap.get? l=some { cls:=.type "list",data:=.seq a.toArray n }:=by obtain⟨z,a,n,r,e⟩:=I.hok l _ c;exact⟨z,a,n,r,r.length,e⟩
theorem fN(h:n<=sizeLine):Builtin.List.listTooLong n=false:=by unfold Builtin.List.listTooLong;exact Dab (by omega)
end
section
variable{X:Cx}
def rAppend:V->List V->Hp->VK->Prop:=λx b H Q=>∃l a y,x=.ref l/\b=[y]/\H l=some (.lst a)/\a.length<sizeLine/\Q .non (upd H l (.lst (a++[y])))
theorem g7:Di X "list.append" rAppend:=by intro b s i H x o v p Q I d g h;obtain⟨l,j,y,rfl,rfl,c,m,q⟩:=h;cases d;obtain⟨u,rfl,f⟩:=g.one;obtain⟨z,a,n,r,k,e⟩:=I.ri c;refine call_meets F.slot_list_append ⟨_,e,rfl⟩ F.entry_list_append (F.args_list_append_2 _ _) (PySem.list_append l a.toArray n u (by rw[aam];omega)) ⟨e,?_⟩;refine⟨.non,_,I.wj c e (by simp) (r.append (.cons f .nil)) ?_,rfl,q⟩;rw[aaw,ab7];omega
def rExtend:V->List V->Hp->VK->Prop:=λx d H Q=>∃l b a c,x=.ref l/\d=[.ref b]/\H l=some (.lst a)/\H b=some (.lst c)/\a.length+c.length<=sizeLine/\Q .non (upd H l (.lst (a++c)))
theorem ny:Di X "list.extend" rExtend:=by
 intro g s C H x L v M Q I j w h;obtain⟨l,b,D,A,rfl,rfl,i,o,J,q⟩:=h;cases j;obtain⟨u,rfl,p⟩:=w.one;cases p;obtain⟨z,c,n,r,G,e⟩:=I.ri i;obtain⟨B,a,t,m,y,k⟩:=I.ri o;have f:c.toArray.size+a.toArray.size<=sizeLine:=by rw[aam,aam];omega
 have d:¬ (!c.toArray.isEmpty&&Builtin.List.listTooLong (c.toArray.size+a.toArray.size))=true:=by rw[fN f,Bool.and_false];exact aab
 refine call_meets F.slot_list_extend ⟨_,e,rfl⟩ F.entry_list_extend (F.args_list_extend_2 _ _)
  (AutoSeq1.list_extend_list_list_0 l c.toArray n b a.toArray t d (by rw[aam];omega) (by omega)) ⟨e,k,?_⟩
 refine⟨.non,_,I.wj i e (by simp) (r.append m) ?_,rfl,q⟩;rw[aaw];omega
def FQ:V->List V->Hp->VK->Prop:=λx b H Q=>∃l a y,x=.ref l/\b=[]/\H l=some (.lst a)/\a[a.length-1]?=some y/\Q y (upd H l (.lst a.dropLast))
def Dj:V->List V->Hp->VK->Prop:=λx b H Q=>∃l a i k y,x=.ref l/\b=[.int i]/\H l=some (.lst a)/\-(2^63)<=i/\i<2^63/\seqIndex? i a.length=some k/\a[k]?=some y/\Q y (upd H l (.lst (a.eraseIdx k)))
def zX:V->List V->Hp->VK->Prop:=λx b H Q=>∃l a,x=.ref l/\b=[]/\H l=some (.lst a)/\Q .non (upd H l (.lst a.reverse))
def Dk:V->List V->Hp->VK->Prop:=λx b H Q=>∃l a,x=.ref l/\b=[]/\H l=some (.lst a)/\Q .non (upd H l (.lst []))
def FR:R2:=λx y H Q=>∃l b a c,x=.ref l/\y=.ref b/\H l=some (.lst a)/\H b=some (.lst c)/\a.length+c.length<=sizeLine/\∀p,H p=none->Q (.ref p) (upd H p (.lst (a++c)))
def rRep:R2:=λx y H Q=>∃l k a,x=.ref l/\y=.int k/\H l=some (.lst a)/\-(2^63)<=k/\k<2^63/\a.length*k.toNat<=sizeLine /\
 ∀p,H p=none->Q (.ref p) (upd H p (.lst (List.replicate k.toNat a).flatten))
theorem len_rep{a:Type}(xs:List a)(k:Nat):(List.replicate k xs).flatten.length=k*xs.length:=by
 induction k with
 |zero=>simp
 |succ k b=>rw[aaK,aa9,aaw,b,Nat.succ_mul,Nat.add_comm]
theorem xg:OpR X (binaryOp .Mult) rRep:=by
 intro p s N H x y v u Q I A J h;obtain⟨l,k,O,rfl,rfl,M,G,B,w,q⟩:=h;cases A;obtain⟨t,rfl⟩:=J;obtain⟨z,b,n,r,D,e⟩:=I.ri M;have d:b.toArray.size*k.toNat<=sizeLine:=by rw[aam,<-D];exact w
 have g:¬ b.toArray.size*k.toNat>(2^63-1)/8:=by
  have:(sizeLine:Nat)<=(2^63-1)/8:=by decide
  omega
 have f:¬ (!Builtin.List.listFitsIndex k)=true:=by rw[fitsIndex_both G B];exact aab
 have c:¬ Builtin.List.listTooLong (b.toArray.size*k.toNat)=true:=by rw[fN d];exact aab
 have i:List.foldl (λo j=>o++j) #[] (List.replicate (if b.toArray.isEmpty=true then 0 else k.toNat) b.toArray)=(List.replicate k.toNat b).flatten.toArray:=by
  have L:∀m:Nat,List.foldl (λo j=>o++j) #[] (List.replicate m b.toArray)=(List.replicate m b).flatten.toArray:=λm=>by have:=foldl_rep b m [];rw[aaN]at this;exact this
  rw[L];cases b with
  |nil=>simp
  |cons a S=>rw[if_neg (by simp)]
 refine wpAny_binaryOp_repeat_ref (by decide) ⟨_,e,rfl⟩ (λC=>typeIs_int C k t) noFill_list_mul F.fills_int_mul F.slot_int_rmul repeat_list F.slot_int_index.lookup
  (call_meets F.slot_int_rmul (typeIs_int s k t) F.entry_int_rmul (F.args_int_rmul_2 _ _) (int___rmul___int_list k t l b.toArray n)
   ⟨e,rfl,⟨_,e,rfl⟩,call_meets F.slot_list_mul ⟨_,e,rfl⟩ F.entry_list_mul (F.args_list_mul_2 _ _) (AutoListH.list___mul___list_int_3 l b.toArray n k t f g c) ⟨e,?_⟩⟩)
 rw[i];exact⟨.ref _,_,I.lnew (r.rep k.toNat) (by rw[len_rep,Nat.mul_comm];exact w),rfl,q _ I.fresh⟩
end
section
variable{prog:Program}{w:World}{A:Around}{E:Value->Shared->Prop}{s:Shared}
set_option maxRecDepth 100000 in
end
end
end L2
namespace Att
open PySem PySem.W PySem.Calls PyProof.Rows
theorem fA:∀(ns:List Int) (vs:List Value),WellAll P h vs (ns.map WData.int)->IntsAre vs ns:=by
 intro ns;induction ns with
 |nil=>intro vs w;rw[aaQ]at w;cases w;exact .nil
 |cons n ns c=>
  intro vs w;rw[aan]at w;cases w with
  |cons a b=>cases a;exact .cons _ _ (c _ b)
theorem nz{l:OpenLaw}(o:l.most=some n)
  (b:l.row.toRowW.claim.pre args=true) (i:WellAll P h vals args):
  ∃a vs ns,vals=[Value.ref a]/\args=[WData.list (ns.map WData.int)]/\h.get? a=some { cls:=.type "list",data:=.seq vs.toArray }/\IntsAre vs ns/\ns.length<=n:=by
 have j:WShape.hasAll [] args [.list .int]=true:=(pre_splitW b).1;have k:l.pre.holds [] { args:=args }=true:=(pre_splitW b).2;obtain⟨d,r,rfl,v,p⟩:=hasAllW_cons j;obtain rfl:=hasAllW_nil p;obtain⟨x,rfl,t⟩:=hasW_list v;obtain⟨ns,rfl⟩:=items_int t;have c:ns.length<=n:=by
  unfold OpenLaw.pre at k;have g:(WTm.not (.lt (.lit (.int (n:Int))) (.len (.arg 0)))).holds [] { args:=[.list (ns.map .int)] }=true:=by have g:=(holds_andW k).1;rw[o]at g;exact g
  have f:=condW_of g (w_not (w_lt w_lit (w_len_list (w_arg rfl))));rw[aag]at f;refine Nat.le_of_not_lt λq=>?_;have w:(n:Int)<((ns.length:Nat):Int):=by omega
  first
   | (rw[Dac w]at f;exact absurd f (by decide))
   | (simp at f;omega)
 cases i with
 |cons u m=>
  cases m;cases u with
  |list s e=>exact⟨_,_,ns,rfl,rfl,s,fA ns _ e,c⟩
theorem nF(l:OpenLaw)(args:List WData):l.row.toRowW.claim.post args (.bool true) args=true:=
 postW_of
  (show WShape.has [] (.bool true) .bool=true by first|rfl|decide|simp[WShape.has,WShape.arms,WShape.armsAll])
  (show (WTm.eq .res (.lit (.bool true))).value [] { args:=args,res:=some (.bool true),after:=args }=some (.bool (true==true)) from w_eq_bool (w_res rfl) w_lit) rfl
theorem attach_call{l:OpenLaw}
  (D:l.most=some n) (y:d.params.defaults=[])
  (call:∀(w:World) (c b:Shared) (p t:Str->Option Value) (fa:Addr) (o:Obj) (s m e:Value) (a:Addr) (vs:List Value) (ns:List Int),
   Ground q loose [] XP w c p t b.heap->YP w b.heap ->
   b.heap.get? fa=some o->o.data=.func (docDef d.name d.params d.body d.scope s m e)->b.heap.CodeRec m d.name->p d.name=some (.ref fa) ->
   b.heap.get? a=some { cls:=.type "list",data:=.seq vs.toArray }->IntsAre vs ns->ns.length<=n->b.gens=#[] ->
   codeAny (model l.prog w) callerA (.call (.ref fa) ⟨[.ref a],[]⟩) (λr k=>r=.ok (.ret (.bool true))/\OldK b.heap k.heap/\k.os=b.os/\AllBare k.gens) b):
  WalkO q loose XP YP l.row.toRowW d [] (λf vs=>PySem.call f vs):=by
 intro w c b p t G Y fa o s m e H J M S v B x Q C A Z j z L u X;obtain rfl:H=.none:=Dflts.none B y;obtain rfl:J=.none:=Dflts.noKw B;obtain⟨a,vs,ns,rfl,rfl,h,g,i⟩:=nz D j u;refine enter_call (codeAny_mono (call w c b p t fa o s m e a vs ns G Y M (fd_plain S) v x h g i Q) λr k U=>?_);obtain⟨rfl,I,N,O⟩:=U;exact⟨.inl ⟨.bool true,.bool true,[],rfl,λ_=>rfl,.bool true,nF l _,λ_=>⟨List.Pairwise.nil,λ_ T=>(nomatch T)⟩⟩,I,N,O⟩
section
variable{prog:Program}{w:World}{A:Around}{E:Value->Shared->Prop}{s:Shared}{K:Frag}
def Dm(h:Heap):Heap:={ h with objs:=#[] }
def ledger(h:Heap)(L d:Addr):List (Addr×Obj):=(List.range h.objs.size).filterMap λa=>if a=L\/a=d then none else (h.get? a).map λo=>(a,o)
end
end Att
namespace L2
open PySem PySem.Spec PyProof.Rows
section
theorem vals_ints:∀{vs:List Value}{ns:List Int},IntsAre vs ns->Vals (ns.map V.int) vs
 |_,_,.nil=>.nil
 |_,_,.cons n t h=>.cons ⟨t,rfl⟩ (vals_ints h)
def xh(H:Hp):Prop:=∀b,H b=none\/∃o a,H b=some (.frz o (.lst a))
theorem pC{P:Program}{w:World}{K:Waa}{CX:CXT}{k:Nat}{fa a:Addr}{fd:FuncData}{sp:Sp}{vs:List Value}{ns:List Int}
  (X:K.In s₁.heap) (D:s₁.heap.Ns mainGlobals mg) (f:s₁.heap.Ns builtinsNs mb) (U:∀x:Str,x≠"__name__"->mb x=bootBuiltins x) (t:s₁.heap.NoLimit) (hg:s₁.gens=#[])
  (M:s₁.heap.get? a=some { cls:=.type "list",data:=.seq vs.toArray }) (hi:IntsAre vs ns) (Z:ns.length<=sizeLine) (hr:Room k callerA)
  (F:∀i:Heap,K.In i->i.Ns mainGlobals mg->FnOk P w K mg i CX k fa fd [x] sp) (p:∀(s:Shared) (u:Value),BindsTo s fd ⟨[u],[]⟩ [(x,u)])
  (N:∀H:Hp,xh H->SqL K H a (ns.map V.int)->sp [.ref a] H (λv _=>v=.bl true) λ_ _ _=>False)
  (T:∀H e g,CX [] H s₁ (λ_ _ _=>False) e g->False):
  codeAny (model P w) callerA (.call (.ref fa) ⟨[.ref a],[]⟩) (λr g=>r=.ok (.ret (.bool true))/\OldK s₁.heap g.heap/\g.os=s₁.os/\AllBare g.gens) s₁:=by
 have rv:=vals_ints hi;have A:=hi.length;have l:∀H:Hp,xh H->SqL K H a (ns.map V.int)->HOk P w H s₁.heap->(∀b,H b≠none->b=a)->(H a≠none->K.lookup a=none) ->
   codeAny (model P w) callerA (.call (.ref fa) ⟨[.ref a],[]⟩) (λr g=>r=.ok (.ret (.bool true))/\OldK s₁.heap g.heap/\g.os=s₁.os/\AllBare g.gens) s₁:=by
  intro H Y hS C hA hK;have c:∀{b:Addr}{o:Obj},s₁.heap.get? b=some o->H b=none->(iy s₁.heap H).get? b=some o:=λe n=>hidT_get e n;have S:∀{b:Addr}{o:Obj}{B:Array DictEntry}{J:Nat},s₁.heap.get? b=some o->o.data=.dict B J->H b=none:=λ{b o B J} e d=>by
   cases q:H b with
   |none=>rfl
   |some u=>have Q:b=a:=hA b (by rw[q];simp);subst Q;rw[M]at e;cases e;have d':Data.seq vs.toArray _=Data.dict B J:=d;cases d'
  have j:∀{b:Addr}{m:Str->Option Value},s₁.heap.Ns b m->(iy s₁.heap H).Ns b m:=λ{b m} ⟨o,B,J,e,d,r⟩=>⟨o,B,J,c e (S e d),d,r⟩
  have G:K.In (iy s₁.heap H):=λb o e=>c (X b o e) (by
   cases q:H b with
   |none=>rfl
   |some u=>
    have Q:b=a:=hA b (by rw[q];simp);subst Q;rw[hK (by rw[q];simp)]at e;cases e)
  have hM:Mod K mg (iy s₁.heap H):=⟨G,j D,⟨mb,j f,U⟩,let ⟨mc,h1,h2⟩:=t;⟨mc,j h1,h2⟩⟩
  have e0:Env0 P w K mg (iy s₁.heap H) callerA [] s₁ H:=⟨rfl,hM,λb o e=>sx e,abp (m7 _ _),trivial,λb f=>absurd (show b∈([]:List Addr) from f) (by simp),C,.of_eq hg⟩
  refine codeAny_mono ((F _ G (j D)).run callerA [] s₁ H ⟨[.ref a],[]⟩ [.ref a] [.ref a] _ _ hr e0 (p s₁ (.ref a)) (.cons rfl .nil) (N H Y hS)) λr g h=>?_;cases r with
  |error e=>exact(T H e g h).elim
  |ok fl=>
   cases fl with
   |next=>exact False.elim h
   |brk=>exact False.elim h
   |cont=>exact False.elim h
   |ret u=>
    obtain⟨v,H',os,L,un,I,r',q⟩:=h;have q':v=.bl true:=q;subst q';obtain rfl:u=Value.bool true:=r';refine⟨rfl,OldK.of_keep λb o e=>?_,os,L⟩;cases q:H b with
    |none=>exact un.keep b o e q (by intro z;exact absurd (show b∈([]:List Addr) from z) (by simp)) (by simp)
    |some u=>
     rcases Y b with z|⟨ob,xs,z⟩
     ·rw[q]at z;cases z
     ·have z2:=un.frzs b ob _ z;obtain⟨e1,_⟩:=C b _ z;obtain⟨e2,_⟩:=I b _ z2;rw[e]at e1;cases e1;exact e2
 cases O:K.lookup a with
 |some o=>have e:=X a o O;rw[M]at e;cases e;refine l (λ_=>none) (λ_=>.inl rfl) (.inr ⟨_,vs.toArray,_,O,rfl,rfl,rfl,by rw[aam,A];exact Z,by simpa using rv⟩) (λb u z=>by have y:(none:Option HO)=some u:=z;cases y) (λb z=>absurd rfl z) λz=>absurd rfl z
 |none=>
  refine l (λb=>if b=a then some (.frz { cls:=.type "list",data:=.seq vs.toArray } (.lst (ns.map V.int))) else none) (λb=>?_) (.inl (.inr ⟨{ cls:=.type "list",data:=.seq vs.toArray },if_pos rfl⟩)) (λb u z=>?_) (λb z=>?_) λ_=>O
  ·by_cases f:b=a
   ·exact .inr ⟨_,_,if_pos f⟩
   ·exact .inl (if_neg f)
  ·by_cases f:b=a
   ·have y:=(if_pos f).symm.trans z;cases y;subst f;exact⟨M,by rw[aag];exact Z,vs,_,rv,M⟩
   ·have y:=(if_neg f).symm.trans z;cases y
  ·by_cases f:b=a
   ·exact f
   ·exact absurd (if_neg f) z
end
section
abbrev Gv{K:Waa}{h:Heap}(_:K.In h):Waa:=K
theorem walk_of{l:PySem.W.OpenLaw}{K:Params->Waa}{CX:World->CXT}{sp:World->Sp}{x:Str}
  (L:l.most=some n) (D:n<=sizeLine) (C:d.params.defaults=[]) (S:Room k callerA)
  (N:∀(w:World) (h:Heap),YP w h->(K w.params).In h)
  (F:∀(w:World) (m:Str->Option Value) (fa:Addr) (h:Heap),(K w.params).In h->h.Ns mainGlobals m->m d.name=some (.ref fa) ->
   ∃z:FuncData,(∀(s:Shared) (u:Value),BindsTo s z ⟨[u],[]⟩ [(x,u)]) /\
    ∀c:Heap,(K w.params).In c->c.Ns mainGlobals m->FnOk l.prog w (K w.params) m c (CX w) k fa z [x] (sp w))
  (y:∀(w:World) (H:Hp) (a:Addr) (ns:List Int),ns.length<=n->xh H->SqL (K w.params) H a (ns.map V.int)->sp w [.ref a] H (λv _=>v=.bl true) λ_ _ _=>False)
  (A:∀(w:World) (H:Hp) (s:Shared) (e:Value) (t:Shared),CX w [] H s (λ_ _ _=>False) e t->False):
  PySem.W.WalkO q loose XP YP l.row.toRowW d [] (λf vs=>PySem.call f vs):=by
 refine Att.attach_call L C λw I r m mb fa o pm cd M a vs ns G Y ho hd O B p j i Q=>?_;have J:=N w _ Y;obtain⟨z,U,Z⟩:=F w m fa _ J G.T.g B;exact pC J G.T.g G.T.b G.T.builtins G.T.nolimit Q p j (aat i D) S Z U (λH hO X=>y w H a ns i hO X) λH e t=>A w H r e t
end
section
def inClass(s:Stmt)(j:Nat):Stmt:=match s with
 |.ClassDef _ _ _ body _ _ _ _ _ _ _=>body.getD j (.Pass ⟨0,0,0,0⟩)
 |_=>.Pass ⟨0,0,0,0⟩
def bW(s:Stmt):Arguments:=match s with
 |.FunctionDef _ a _ _ _ _ _ _ _ _=>a
 |_=>{ posonlyargs:=[],args:=[],vararg:=none,kwonlyargs:=[],kw_defaults:=[],kwarg:=none,defaults:=[] }
def bo(s:Stmt):List Stmt:=match s with
 |.FunctionDef _ _ b _ _ _ _ _ _ _=>b
 |_=>[]
def aD(s:Stmt):Scope:=match s with
 |.FunctionDef _ _ _ _ _ _ sc _ _ _=>sc
 |_=>{ kind:=.function,names:=[],isGenerator:=false,isCoroutine:=false }
abbrev CX0:CXT:=λ_ _ _ _ _ _=>False
abbrev E0:XK:=λ_ _ _=>False
theorem zY:Passes CX0 X E0:=λ_ _ _ _ _ _ _ h=>h.elim
structure Fun (K:Waa)(x qual:Str)(st:Stmt)(f:Addr)(fd:FuncData):Prop where
 ex:∃(oc:Value) (od:Option Addr) (kV doc pm:Value) (an:Option Addr) (cdv ct:Value) (osl:Array (Option Value)),
  fd=PySem.W.fnOf x qual (bW st) (bo st) (aD st) .none kV doc pm an cdv ct/\K.lookup f=some ⟨oc,od,.func fd,osl⟩/\PySem.W.codeIn K cdv qual=true
 kp:PySem.W.keepIn K (.ref f)=true
section
variable{P:Program}{w:World}{K:Waa}{mg:Str->Option Value}{base:Heap}
theorem Fun.ok{x b:Str}{e:Stmt}(F:Fun K x b e f fd)(S:FnScope N ps (aD e))(j:∀vs H Q E,sp vs H Q E->vs.length=ps.length)
  (d:∀(c:Value) (A:Around) (a:List Env) (s:Shared) (H:Hp) (vs:List V) (Q:VK) (E:XK),Room k (A.deeper (envOfC b (aD e) s.heap.objs.size f c))->sp vs H Q E ->
   ∃t,PSs (iB CX0 P w K mg base N b (aD e) f c A a s H E).u1 (bo e) t/\t { nx:=λ_ m=>Q .non m,rt:=Q } (start N vs) H):FnOk P w K mg base CX0 (k+1) f fd ps sp:=by
 obtain⟨B,z,u,l,r,y,c,v,n,rfl,o,i⟩:=F.ex;refine zS o i S j λA a s H vs Q E p g=>?_;obtain⟨t,h,q⟩:=d c A a s H vs Q E p g;exact⟨t,h.u1,q⟩
theorem Fun.binds{c:Stmt}(F:Fun K x qual c f fd)
  (h:∀(e a d:Value) (i:Option Addr) (b g:Value) (us:List Value),us.length=ps.length->bindArgs (PySem.W.fnOf x qual (bW c) (bo c) (aD c) .none e a d i b g) ⟨us,[]⟩=pure (ps.zip us)):Binds K fd ps []:=by
 obtain⟨m,l,e,a,d,i,b,g,k,rfl,n,j⟩:=F.ex;exact .all (h e a d i b g)
theorem iE{b:Stmt}{g d e a h:Value}(l:K.lookup f=some ⟨oc,od,.func (PySem.W.fnOf x qual (bW b) (bo b) (aD b) .none g d e an a h),osl⟩)
  (c:PySem.W.codeIn K a qual=true) (k:PySem.W.keepIn K (.ref f)=true):Fun K x qual b f (PySem.W.fnOf x qual (bW b) (bo b) (aD b) .none g d e an a h):=⟨⟨oc,od,g,d,e,an,a,h,osl,rfl,l,c⟩,k⟩
end
def Same(H a:Hp):Prop:=∀b o,H b=some o->a b=some o
theorem Same.refl(H:Hp):Same H H:=λ_ _ h=>h
theorem Same.trans(a:Same H H1)(b:Same H1 H2):Same H H2:=λc o h=>b c o (a c o h)
theorem Same.free{H a:Hp}(e:Same H a)(h:a l=Option.none):H l=Option.none:=by
 cases q:H l with
 |none=>rfl
 |some o=>rw[e l o q]at h;cases h
theorem Same.seq{K:Waa}(e:Same H H')(h:SqL K H a xs):SqL K H' a xs:=by
 rcases h with (h|⟨o,h⟩)|h
 ·exact .inl (.inl (e _ _ h))
 ·exact .inl (.inr ⟨o,e _ _ h⟩)
 ·exact .inr h
end
section
theorem kD:∀(f:List (Str×NameKind)) (g:List (Str×Addr)),(∀x∈f,x.2=.free->∃c,env.cells.lookup x.1=some c) ->
  (∀x c,g.lookup x=some c->env.cells.lookup x=some c) ->
  ∃l:List (Str×Addr),forIn f g (λ(x:Str×NameKind) (r:List (Str×Addr))=>match x with
    | (name,kind)=>(if kind==NameKind.free then do let c <-cellOf env name;pure (ForInStep.yield ((name,c)::r)) else pure (ForInStep.yield r):Sem (ForInStep (List (Str×Addr)))))=pure l /\
   (∀x c,l.lookup x=some c->env.cells.lookup x=some c)/\(∀x∈f,x.2=.free->∃c,l.lookup x.1=some c)/\(∀x c,g.lookup x=some c->∃j,l.lookup x=some j):=by
 intro f;induction f with
 |nil=>intro g _ o;exact⟨g,rfl,o,λ_ h=>(nomatch h),λx c h=>⟨c,h⟩⟩
 |cons p r v=>
  intro g u o;obtain⟨n,k⟩:=p;rw[abH];have w:∀x∈r,x.2=.free->∃c,env.cells.lookup x.1=some c:=λx i=>u x (aak _ i);by_cases q:k=.free
  ·subst q;obtain⟨c,y⟩:=u (n,.free) aal rfl;have t:cellOf env n=pure c:=by unfold cellOf;rw[show env.cells.lookup n=some c from y]
   have s:∀x j,((n,c)::g).lookup x=some j->env.cells.lookup x=some j:=λx j h=>by
    rw[aaV]at h;cases i:x==n with
    |true=>rw[i]at h;cases h;rw[eq_of_beq i];exact y
    |false=>rw[i]at h;exact o x j h
   obtain⟨l,e,a,b,d⟩:=v ((n,c)::g) w s;refine⟨l,?_,a,λx i m=>?_,λx j h=>?_⟩
   ·show ((cellOf env n >>= λc=>pure (ForInStep.yield ((n,c)::g))) >>= _)=_;rw[t];exact e
   ·rcases aaa.mp i with rfl|i
    ·exact d n c (by simp[aaV])
    ·exact b x i m
   ·cases i:x==n with
    |true=>exact d x c (by rw[aaV,i])
    |false=>exact d x j (by rw[aaV,i];exact h)
  ·have z:(k==NameKind.free)=false:=by simpa using q
   obtain⟨l,e,a,b,d⟩:=v g w o;refine⟨l,?_,a,λx i m=>?_,d⟩
   ·show ((if (k==NameKind.free)=true then _ else _) >>= _)=_;rw[z];exact e
   ·rcases aaa.mp i with rfl|i
    ·exact absurd m q
    ·exact b x i m
theorem fO(h:∀x∈scope.names,x.2=.free->∃c,env.cells.lookup x.1=some c):
  ∃d:List (Str×Addr),closureFor scope env=pure d/\(∀x c,d.lookup x=some c->env.cells.lookup x=some c)/\(∀x∈scope.names,x.2=.free->∃c,d.lookup x.1=some c):=by
 obtain⟨d,e,a,b,_⟩:=kD scope.names [] h (λ_ _ h=>nomatch h);refine⟨d,?_,a,b⟩;have q:closureFor scope env=(forIn scope.names ([]:List (Str×Addr)) (λ(x:Str×NameKind) (r:List (Str×Addr))=>match x with
    | (name,kind)=>(if kind==NameKind.free then do let c <-cellOf env name;pure (ForInStep.yield ((name,c)::r)) else pure (ForInStep.yield r):Sem (ForInStep (List (Str×Addr))))) >>= λr=>pure r):=rfl
 rw[q,e];rfl
def aR(X:Cx)(N:List Str)(a:Scope)(c:List (Str×Addr))(s:Shared)(H:Hp)(d:List Addr)(b:List (Addr×Obj)):Cx where
 prog:=X.prog
 w:=X.w
 K:=X.K
 mg:=X.mg
 base:=X.base
 A:=X.A
 N:=N
 s₀:=s
 H₀:=H
 env:=compEnvC a c s.heap.objs.size X.env
 outer:=X.stack
 stack:=X.stack
 ex:=d
 fn:=λ_=>false
 calm:=X.calm
 pn:=X.pn++b
 xe:=λ_ _=>False
structure CC where
 cl:List (Str×Addr)
 s:Shared
 H:Hp
 fp:List Addr
 pins:List (Addr×Obj)
abbrev cQ(X:Cx)(N:List Str)(scope:Scope)(c:CC):Cx:=aR X N scope c.cl c.s c.H c.fp c.pins
def a9(nt:Nat)(fr:List Nat)(σ:St):St:=List.replicate nt none++fr.map λj=>(σ[j]?).join
structure CompScope (N:List Str)(nt:Nat)(fr:List Nat)(ON:List Str)(sc osc:Scope):Prop where
 kind:sc.kind=.function
 nocell:∀x∈sc.names,x.2≠.cell
 names:∀x∈sc.names,x.2=.local->sc.names.lookup x.1=some .local
 len:N.length=nt+fr.length
 out:∀(i:Nat) (j:Nat),fr[i]?=some j->∃x,N[nt+i]?=some x/\ON[j]?=some x/\osc.names.lookup x=some .cell/\sc.names.lookup x=some .free
 cells:∀x∈sc.names,x.2=.free->osc.names.lookup x.1=some .cell
 looks:∀x∈sc.names,x.2=.free->sc.names.lookup x.1=some .free
theorem bx{sc:Scope}{env:Env}:∀(a:List (Str×NameKind)) (x:Str) (k:NameKind),
  (a.map λ(n,k)=>if (k==NameKind.free&&env.scope.kind==.function&&env.kindOf n==some .cell) then (n,NameKind.cell) else (n,k)).lookup x=some k ->
  a.lookup x=some k\/(k=.cell/\a.lookup x=some .free)
 |[],_,_,h=>by simp at h
 | (n,k0)::r,x,k,h=>by
  have e:=bx (sc:=sc) (env:=env) r x k;rw[aan]at h;have b:List.lookup x ((if (k0==NameKind.free&&env.scope.kind==.function&&env.kindOf n==some .cell)=true then (n,NameKind.cell) else (n,k0))::(r.map λ(n,k)=>if (k==NameKind.free&&env.scope.kind==.function&&env.kindOf n==some .cell) then (n,NameKind.cell) else (n,k)))=some k:=h;by_cases d:(k0==NameKind.free&&env.scope.kind==.function&&env.kindOf n==some .cell)=true
  ·rw[if_pos d,aaV]at b;rw[aaV];cases c:x==n with
   |true=>
    rw[c]at b;cases b;rw[aax,aax]at d;have:k0=.free:=by simpa using d.1.1
    subst this;exact .inr ⟨rfl,rfl⟩
   |false=>rw[c]at b;exact e b
  ·rw[if_neg d,aaV]at b;rw[aaV];cases c:x==n with
   |true=>rw[c]at b;exact .inl b
   |false=>rw[c]at b;exact e b
theorem nG(I:Nat->Shared->Prop)
  (k:∀n s,I n s->wpAny (model prog w) A (pyNext it) (λr e=>match r with
   |none=>R (.ok .next) e
   |some v=>wpAny (model prog w) A (letOwnedTupleGo target it v) (λ_ a=>wpAny (model prog w) A (assign target env v) (λ_ a=>
     wpAny (model prog w) A (forIn ifs true λc r=>if r=true then do let q <-isTrue c env (eval c env);pure (ForInStep.yield q) else pure (ForInStep.yield r)) (λq f=>
      if q=true then wpAny (model prog w) A (eval elt env) (λx i=>
       wpAny (model prog w) A (call (.builtin "list.append") [acc,x]) (λ_ g=>∃m,m<n/\I m g) (λ_ _=>False) i) (λ_ _=>False) f
      else ∃m,m<n/\I m f) (λ_ _=>False) a) (λ_ _=>False) a) (λ_ _=>False) e) (λ_ _=>False) s)
  (n:Nat) (h:I n s):
  codeAny (model prog w) A (.compLoop (.ListComp elt [⟨target,iter,ifs,0⟩] scope pos) 0 it acc env) R s:=by
 refine codeAny_loop rfl I (λn s t=>?_) n h;show wpAny _ A ((compTurn (.ListComp elt [⟨target,iter,ifs,0⟩] scope pos) 0 it acc env).onRaise (λx=>do noteFrame x env;theTreesLotGoes x)) _ _ s;refine wpAny_noted ?_;rw[compTurn_list];refine wpAny_bind (wpAny_standAt (wpAny_bind (wpAny_mono (k n s t) (λr e b=>?_) λ_ _ d=>d.elim)));cases r with
 |none=>exact wpAny_pure b
 |some v=>
  refine wpAny_bind (wpAny_mono b (λ_ a b=>?_) λ_ _ d=>d.elim);refine wpAny_bind (wpAny_mono b (λ_ a o=>wpAny_bind (wpAny_mono o (λq f j=>?_) λ_ _ d=>d.elim)) λ_ _ d=>d.elim);cases q with
  |false=>exact wpAny_pure ⟨rfl,j⟩
  |true=>exact wpAny_bind (wpAny_bind (wpAny_mono j (λx i l=>wpAny_bind (wpAny_mono l (λ_ g p=>wpAny_pure (wpAny_pure ⟨rfl,p⟩)) λ_ _ d=>d.elim)) λ_ _ d=>d.elim))
section
variable{X:Cx}{tg elt iter:Expr}{ifs:List Expr}{scope:Scope}{pos:Pos}{N:List Str}{nt:Nat}{fr:List Nat}
theorem fP(S:CompScope N nt fr X.N scope X.env.scope)(I:Inv X pins σ H s)
  (B:∀b∈fp,FpOk X pins H b) (g:∀b∈fp,b<s.heap.objs.size)
  (a:∀x c,cl.lookup x=some c->X.env.cells.lookup x=some c) (Q:∀x∈scope.names,x.2=.free->∃c,cl.lookup x.1=some c)
  (hk:∀b o,s.heap.get? b=some o->s4.heap.get? b=some o) (hn:∃m,s4.heap.Ns s.heap.objs.size m) (ho:s4.os=s.os) (hg:s4.gens=s.gens):
  Inv (aR X N scope cl s H fp pins) [] (a9 nt fr σ) H s4:=by
 have hC:H s.heap.objs.size=none:=I.hok.fresh (aac _);have J:∀b o,s.heap.get? b=some o->b≠s.heap.objs.size:=λb o e=>aai (Heap.lt_size e);have kd:(aR X N scope cl s H fp pins).env.scope.kind=.function:=S.kind;have O:∀x,scope.names.lookup x=some .free->∃c,cl.lookup x=some c:=λx h=>Q (x,.free) (aa1 h) rfl;refine⟨⟨I.ok.mod,kd,I.ok.glob,I.ok.blt,aac _,λx y c G f=>I.ok.inj x y c (a x c G) (a y c f),λx hx=>?_,λ_ _ h _=>absurd (show false=true from h) aab,I.ok.hd,I.ok.frames,.inl rfl,λb r=>⟨aai (g b r),λx c e=>(B b r).2.2.2.2.1 x c (a x c e)⟩,
  I.bs,aat I.ok.bsz I.sz,λb o e r=>?_,λb r hs=>?_,I.stack,I.rr⟩,ho,by rw[hg];exact I.bare,Un.kept hk,?_,λx c e=>?_,hC,λx c e=>I.freeC x c (a x c e),λp hp=>?_,I.hok.kept hk,?_⟩
 ·have T:(relabel scope X.env).names.lookup x=some .cell\/(relabel scope X.env).names.lookup x=some .free:=hx;rcases T with h|h
  ·rcases bx (sc:=scope) scope.names x _ h with q|⟨_,q⟩
   ·exact absurd rfl (S.nocell _ (aa1 q))
   ·exact O x q
  ·rcases bx (sc:=scope) scope.names x _ h with q|⟨q,_⟩
   ·exact O x q
   ·cases q
 ·rcases (B b r).2.2.2.1 with z|z
  ·exact I.ok.noex b o e z
  ·exact absurd (aar (Heap.lt_size e) (aat I.ok.bsz z)) (aaM _)
 ·rcases aaa.mp (I.n7 b hs) with z|z
  ·exact(B b r).2.1 z
  ·exact(B b r).2.2.1 z
 ·obtain⟨m,hm⟩:=hn;refine⟨m,hm,λi x v G f h3=>?_⟩;obtain⟨m0,a0,L⟩:=I.loc;have hi:nt<=i:=by refine Nat.le_of_not_lt λg=>?_;unfold a9 at f;rw[abr (by simpa using g),ab3]at f;rw[if_pos g]at f;cases f
  obtain⟨d,rfl⟩:∃d,i=nt+d:=⟨i-nt,by omega⟩
  unfold a9 at f;rw[abq (by simp),abt,abI,aaq]at f;cases Y:fr[d]? with
  |none=>rw[Y]at f;cases f
  |some j=>
   rw[Y]at f;have k:(σ[j]?).join=some v:=aaD f;have M:σ[j]?=some (some v):=by
    cases e:σ[j]? with
    |none=>rw[e]at k;cases k
    |some q=>rw[e]at k;exact congrArg some k
   obtain⟨y,e1,e2,e3,e4⟩:=S.out d j Y;have A:N[nt+d]?=some x:=G;rw[e1]at A;cases A;obtain⟨u,ru,l⟩:=L j x v e2 M (.inr (.inl e3));refine⟨u,ru,?_⟩;rcases l with ⟨q,_⟩|⟨_,c,ec,z⟩
   ·have C:X.env.scope.names.lookup x=some .local:=q;rw[e3]at C;cases C
   ·obtain⟨D,w⟩:=O x e4;have:D=c:=by have:=a x D w;rw[ec]at this;exact(aaD this).symm
    subst this;obtain⟨o,t,U⟩:=z;refine .inr ⟨?_,D,w,⟨o,hk _ _ t,U⟩⟩;rcases h3 with q|q|q
    ·have C:(relabel scope X.env).names.lookup x=some .local:=q;rcases bx (sc:=scope) scope.names x _ C with z|⟨z,_⟩
     ·rw[e4]at z;cases z
     ·cases z
    ·exact .inl q
    ·exact .inr q
 ·obtain⟨v,o,t,U⟩:=I.cell x c (a x c e);exact⟨v,o,hk _ _ t,U⟩
 ·have Z:p∈X.pn++pins:=by
   rcases aaj.mp hp with z|z
   ·exact z
   ·exact absurd z (by simp)
  obtain⟨e,n,ne,nf,d⟩:=I.pin p Z;refine⟨hk _ _ e,n,J _ _ e,λz=>?_,d⟩;rcases aaa.mp (I.n7 p.1 z) with q|q
  ·exact ne q
  ·exact nf q
 ·show (a9 nt fr σ).length=N.length;unfold a9;rw[aaw,abt,aag,S.len]
theorem pD(I:Inv X pins σ H s)(w:∀b∈fp,FpOk X pins H b)
  (t:H D=none) (k:s.heap.objs.size<=D) (p:D<s3.heap.objs.size) (hk:∀b o,s.heap.get? b=some o->s3.heap.get? b=some o) (r:s3.os=s.os)
  (J:Inv (aR X N scope cl s3 (upd H D (.lst [])) fp pins) pins' σ' H1 s5) (l:Heap.SameBut s3.heap.objs.size s5.heap h'):
  Inv X pins σ H1 { s5 with heap:=h' }:=by
 have m:s.heap.objs.size<=s3.heap.objs.size:=aaO (abh k p);have f:∀b,b<s.heap.objs.size->b≠D/\b≠s3.heap.objs.size:=λb d=>⟨aai (aar d k),aai (aar d m)⟩
 have j:∀b,b≠D->(upd H D (.lst [])) b=H b:=λb d=>upd_ne d;refine I.za (ch:=fp) (J.os.trans r) ⟨λb o e n d g=>?_,λb o e n d g=>?_,λb o e n g=>?_,λb o e g=>?_,λb y e=>?_,λb o u e=>?_,λb A e=>?_⟩ ?_ J.bare λb d=>?_
 ·obtain⟨i,h⟩:=f b (Heap.lt_size e);exact(l.2 b h).trans (J.base.keep b o (hk b o e) ((j b i).trans n) d g)
 ·obtain⟨i,h⟩:=f b (Heap.lt_size e);obtain⟨L,q⟩:=J.base.slot b o (hk b o e) ((j b i).trans n) d g;exact⟨L,(l.2 b h).trans q⟩
 ·obtain⟨i,h⟩:=f b (Heap.lt_size e);exact J.base.free b o (hk b o e) ((j b i).trans n) g
 ·obtain⟨i,h⟩:=f b (Heap.lt_size e);obtain⟨G,q⟩:=J.base.there b o (hk b o e) g;exact⟨G,(l.2 b h).trans q⟩
 ·exact J.base.tups b y ((j b (ah e t)).trans e)
 ·exact J.base.frzs b o u ((j b (ah e t)).trans e)
 ·exact J.base.tbls b A ((j b (ah e t)).trans e)
 ·intro b u e;refine(J.hok b u e).kv (λc v M q=>(l.2 c ?_).trans q) (λ_ q=>q) λ_ _ q=>q;have a:H1 s3.heap.objs.size=none:=J.free;rintro rfl;rcases M with z|z
  ·rw[z]at a;rw[a]at e;cases e
  ·rw[a]at z;cases z
 ·obtain⟨S,x,Q,O,B,C⟩:=w b d;exact⟨O,x,B,C⟩
abbrev TC:=Addr->St->Hp->(Hp->Prop)->Prop
def lL(c:TE):TC:=λD d H Q=>c d H λy b=>∃a,b D=some (.lst a)/\a.length<sizeLine/\Q (upd b D (.lst (a++[y])))
def zZ(d:TT)(e:TE):TC:=λD c H Q=>d c H λb a=>if b=true then lL e D c a Q else Q a
def jx(k:TI)(nt:Nat)(fr:List Nat)(g:CC->TG)(l:CC->TC):TE:=λh H Q=>k h H λJ f=>∀(c:CC) D,f D=none->∃W:Nat->Nat->St->Hp->Prop,(∃m,W 0 m (a9 nt fr h) (upd f D (.lst []))) /\
 ∀i m b a,W i m b a->(J.stop i a/\Q (.ref D) a)\/(J.go i a/\∀x e,J.yld i a x e->g c x b e λd o=>l c D d o λn=>∃j,j<m/\W (i+1) j d n)
def jy(Y:Cx)(D:Addr)(ifs:List Expr)(elt:Expr)(i:TC):Prop:=
 ∀(a:List (Addr×Obj)) (s:Shared) (g:St) (H:Hp) (Q:Hp->Prop),Inv Y a g H s->i D g H Q ->
  wpAny (model Y.prog Y.w) Y.A (forIn ifs true λc r=>if r=true then do let h <-isTrue c Y.env (eval c Y.env);pure (ForInStep.yield h) else pure (ForInStep.yield r)) (λh b=>
   if h=true then wpAny (model Y.prog Y.w) Y.A (eval elt Y.env) (λx d=>
    wpAny (model Y.prog Y.w) Y.A (call (.builtin "list.append") [.ref D,x]) (λ_ e=>∃f,Inv Y a g f e/\Q f) Y.xe d) Y.xe b
   else ∃f,Inv Y a g f b/\Q f) Y.xe s
theorem lM(n:PE Y elt te)(I:Inv Y pins σ H s)(h:lL te D σ H Q):
  wpAny (model Y.prog Y.w) Y.A (eval elt Y.env) (λx a=>
    wpAny (model Y.prog Y.w) Y.A (call (.builtin "list.append") [.ref D,x]) (λ_ b=>∃c,Inv Y pins σ c b/\Q c) Y.xe a) Y.xe s:=by
 refine thn (n pins s σ H _ I h) λu i k=>?_;obtain⟨y,j,f,g,m,o,l,q⟩:=k;refine thn (g7 pins i σ j (.ref D) [y] (.ref D) [u] (λv c=>v=.non/\Q c) f rfl (.cons g .nil) ⟨D,m,y,rfl,rfl,o,l,rfl,q⟩) λv r ⟨z,d,e,_,_,p⟩=>⟨d,e,p⟩
theorem nH(b:PE Y elt te):jy Y D [] elt (lL te):=by intro a s c H Q I h;refine wpAny_tests_nil ?_;rw[if_pos rfl];exact lM b I h
theorem pE(i:PT Y c tt)(f:PE Y elt te):jy Y D [c] elt (zZ tt te):=by
 intro a s k H Q I h;refine wpAny_tests_one (thn (i a s k H _ I h) λb l g=>?_);obtain⟨j,e,d⟩:=g;cases b with
 |true=>rw[if_pos rfl]at d ⊢;exact lM f e d
 |false=>rw[if_neg aab]at d ⊢;exact⟨j,e,d⟩
theorem g8{a2:Option (Value->Sem Unit)}{Q0:Value->Shared->Prop}(hc:X.calm=true)(S:CompScope N nt fr X.N scope X.env.scope)(hi:PI X tg iter wi)
  (hg:∀c:CC,PG (cQ X N scope c) tg (g c)) (ha:∀(c:CC) D,jy (cQ X N scope c) D ifs elt (tc c))
  (I:Inv X pins σ H s) (h:jx wi nt fr g tc σ H Q) (c3:∀x∈scope.names,x.2=.free->X.env.kindOf x.1=some .cell)
  (c2:∀(D C:Addr) (s5:Shared) (H1:Hp),FpOk X pins H1 C->s5.heap.get? C≠none->C≠X.env.locals->(∃m,s5.heap.Ns C m)->(∀h',Heap.SameBut C s5.heap h'->Inv X pins σ H1 { s5 with heap:=h' })->Q (.ref D) H1 ->
   compPost (model X.prog X.w) X.A X.xe a2 Q0 (.ref D) C (.ok .next) s5)
  (hs:∀x,foldedSetIterable iter X.env x=pure x:=by intro _;rfl):
  wpAny (model X.prog X.w) X.A (comprehension (.ListComp elt [⟨tg,iter,ifs,0⟩] scope pos) scope X.env (firstIterPos [⟨tg,iter,ifs,0⟩] pos) (newList []) false (eval iter X.env) a2) Q0 X.xe s:=by
 have Z:∀x∈scope.names,x.2=.free->∃c,X.env.cells.lookup x.1=some c:=λx hx hf=>I.ok.has x.1 (.inl (c3 x hx hf));obtain⟨v,d0,h1,h2⟩:=fO Z;refine wpAny_comprehension_free rfl hs d0 S.kind S.names (thn (hi pins s σ H _ I h) λxv s1 hx=>thn hx λd4 a c4=>?_);obtain⟨it,j,tn,J,l,rfl,I2,T,b5,f2,hW⟩:=c4;have a4:∀b∈j,b<a.heap.objs.size:=λb f=>let ⟨o,e,_⟩:=T.obj 0 _ b5 b f;Heap.lt_size e
 refine wpAny_newObj_type (wpAny_newFunctionEnv S.nocell (by intro y hy;simp at hy) (λM q t=>?_) S.kind) (by show 0<=sizeLine;exact aaE _);have hD:l a.heap.objs.size=none:=I2.hok.fresh (aac _);have I3:Inv X pins σ (upd l a.heap.objs.size (.lst [])) { a with heap:=a.heap.push { cls:=.type "list",dict:=none,data:=.seq ([]:List Value).toArray } }:=I2.lnew .nil (aaE _);generalize hs3:({ a with heap:=a.heap.push { cls:=.type "list",dict:=none,data:=.seq ([]:List Value).toArray } }:Shared)=s3 at q t I3 ⊢;obtain⟨W,⟨m0,w0⟩,b8⟩:=hW ⟨v,s3,upd l a.heap.objs.size (.lst []),j,pins⟩ _ hD;have a6:∀b o,a.heap.get? b=some o->s3.heap.get? b=some o:=λb o e=>by rw[<-hs3];exact Heap.get?_push_of_some _ e
 have z3:s3.heap.objs.size=a.heap.objs.size+1:=by rw[<-hs3];exact Heap.size_push ..
 have c1:s3.os=a.os:=by rw[<-hs3]
 have f3:∀b∈j,FpOk X pins (upd l a.heap.objs.size (.lst [])) b:=λb f=>⟨by rw[upd_ne (aai (a4 b f))];exact(f2 b f).1,(f2 b f).2⟩
 have b7:∀b o,s3.heap.get? b=some o->M.get? b=some o:=λb o e=>t.extBut b o (aai (Heap.lt_size e)) (Heap.get?_push_of_some _ e);generalize hs4:({ s3 with heap:=M,toks:=s3.toks+([]:List (Str×Value)).length }:Shared)=s4;have a1:s4.heap=M:=by rw[<-hs4]
 have I4:Inv (aR X N scope v s3 (upd l a.heap.objs.size (.lst [])) j pins) [] (a9 nt fr σ) (upd l a.heap.objs.size (.lst [])) s4:=
  fP S I3 f3 (λb f=>by rw[z3];exact aaW (a4 b f)) h1 h2 (λb o e=>by rw[a1];exact b7 b o e) ⟨_,by rw[a1];exact q⟩ (by rw[<-hs4]) (by rw[<-hs4])
 have a8:tn 0 s4.heap:=T.keep 0 _ _ b5 λb f o e=>by rw[a1];exact b7 b o (a6 b o e)
 have a0:codeAny (model X.prog X.w) X.A (.compLoop (.ListComp elt [⟨tg,iter,ifs,0⟩] scope pos) 0 (.ref it) (.ref a.heap.objs.size) (compEnvC scope v s3.heap.objs.size X.env))
   (compPost (model X.prog X.w) X.A X.xe a2 Q0 (.ref a.heap.objs.size) s3.heap.objs.size) s4:=by
  have G:∀{k:Hp},(∀b∈j,k b=none)->∀b∈j,FpOk (aR X N scope v s3 (upd l a.heap.objs.size (.lst [])) j pins) [] k b:=λ{k} hn b f=>
   ⟨hn b f,aai (show b<s3.heap.objs.size by rw[z3];exact aaW (a4 b f)),λz=>I4.ok.exfs b f z,.inl f,λx c e=>(f2 b f).2.2.2.2.1 x c (h1 x c e),λp hp=>(f2 b f).2.2.2.2.2 p (by
    rcases aaj.mp hp with z|z
    ·exact z
    ·exact absurd z (by simp))⟩
  refine nG (λn s'=>∃i B k,Inv (aR X N scope v s3 (upd l a.heap.objs.size (.lst [])) j pins) [] B k s'/\tn i s'.heap/\(∀b∈j,k b=none)/\W i n B k) ?_ m0
   ⟨0,_,_,I4,a8,λb f=>(f3 b f).1,w0⟩
  rintro n s5 ⟨i,O,H5,I5,a5,a7,w5⟩;rcases b8 i n O H5 w5 with ⟨b0,qn⟩|⟨go,c0⟩
  ·refine thn (T.done (aR X N scope v s3 (upd l a.heap.objs.size (.lst [])) j pins) rfl rfl rfl hc i [] s5 O H5 (λ_ _=>False) I5 (G a7) a5 b0) λr s6 hZ=>?_;obtain⟨hr,I6⟩:=hZ;subst hr;obtain⟨m,hm,_⟩:=id I6.loc;refine c2 _ _ s6 H5 (I2.q7 (by rw[z3];exact abi _) I6.free) ?_ ?_ ⟨m,hm⟩ (λh' c8=>pD I2 f2 hD (aac _) (by rw[z3];exact aaP _) a6 c1 I6 c8) qn
   ·obtain⟨o,_,_,ho,_⟩:=hm;intro z;have b6:s6.heap.get? s3.heap.objs.size=some o:=ho;rw[z]at b6;cases b6
   ·exact aaI (aba I2.lt (by rw[z3];exact aaP _))
  ·refine thn (T.item (aR X N scope v s3 (upd l a.heap.objs.size (.lst [])) j pins) rfl rfl rfl hc i [] s5 O H5 (λ_ _=>False) I5 (G a7) a5 go) λr s6 hZ=>?_;obtain⟨u,hr,h6⟩:=hZ;subst hr;refine thn h6 λ_ s7 hZ=>?_;obtain⟨x,H7,I7,r7,y7,a3,c5⟩:=hZ;have c6:=I7.pinned (G c5) (T.obj _ _ a3);refine thn (hg ⟨v,s3,upd l a.heap.objs.size (.lst []),j,pins⟩ _ s7 O H7 x u _ c6 r7 (c0 x H7 y7)) λ_ s8 hZ=>?_;obtain⟨U,H8,I8,q8⟩:=hZ;refine thn (ha ⟨v,s3,upd l a.heap.objs.size (.lst []),j,pins⟩ _ _ s8 U H8 _ I8 q8) λok s9 h9=>?_;have L:∀{Y:Shared},(∃k,Inv (aR X N scope v s3 (upd l a.heap.objs.size (.lst [])) j pins) ([]++pinsAt j s7.heap) U k Y/\∃m',m'<n/\W (i+1) m' U k) ->
     ∃m,m<n/\∃i B k,Inv (aR X N scope v s3 (upd l a.heap.objs.size (.lst [])) j pins) [] B k Y/\tn i Y.heap/\(∀b∈j,k b=none)/\W i m B k:=λ{Y} ⟨k,I',m',hm,w'⟩=>by
    refine⟨m',hm,i+1,U,k,I'.et,T.keep _ _ _ a3 λb f o e=>(I'.pin (b,o) (aad _ (aad _ (bf f e)))).1,λb f=>?_,w'⟩;obtain⟨o,e,d⟩:=T.obj _ _ a3 b f;exact(I'.pin (b,o) (aad _ (aad _ (bf f e)))).2.1
   cases ok with
   |true=>rw[if_pos rfl]at h9 ⊢;exact thn h9 λy d3 d1=>thn d1 λ_ d2 c7=>L c7
   |false=>rw[if_neg aab]at h9 ⊢;exact L h9
 exact codeAny_compStart_list a0 (T.self X.A 0 s4 _ _ a8 a0)
theorem sV(p:X.calm=true)(S:CompScope N nt fr X.N scope X.env.scope)(hi:PI X tg iter wi)
  (k:∀c:CC,PG (cQ X N scope c) tg (g c)) (n:∀(c:CC) D,jy (cQ X N scope c) D ifs elt (tc c))
  (l:∀x,foldedSetIterable iter X.env x=pure x:=by intro _;rfl):
  PE X (.ListComp elt [⟨tg,iter,ifs,0⟩] scope pos) (jx wi nt fr g tc):=by
 intro d s t H Q I h;rw[eval_ListComp];refine g8 p S hi k n I h (λx i e=>S.cells x i e) (λD C r j _ _ _ b o q=>?_) l;obtain⟨m,b⟩:=b;exact⟨m,b,λf a=>⟨.ref D,j,o f a,rfl,q⟩⟩
theorem sW{k d:Pos}(Q:X.N.Nodup)(hy:X.N[i]?=some y)(J:X.env.scope.names.lookup y=some .local)(hc:X.calm=true)(S:CompScope N nt fr X.N scope X.env.scope)(hi:PI X tg iter wi)
  (Z:∀c:CC,PG (cQ X N scope c) tg (g c)) (ha:∀(c:CC) D,jy (cQ X N scope c) D ifs elt (tc c))
  (hs:∀x,foldedSetIterable iter X.env x=pure x:=by intro _;rfl)
  (n:swapsWith (.ListComp elt [⟨tg,iter,ifs,0⟩] scope pos) (some (.Name y k)) d.line X.env=pure true:=by rfl):
  PS X (.Assign [.Name y k] (.ListComp elt [⟨tg,iter,ifs,0⟩] scope pos) d) (oU (jx wi nt fr g tc) (jt i)):=by
 intro j s Y H D I h;rw[exec_Assign_Name_used _ _ _ _ n];refine wpAny_bind (wpAny_standAt (wpAny_bind ?_));show wpAny _ X.A (do let _ <-comprehension (.ListComp elt [⟨tg,iter,ifs,0⟩] scope pos) scope X.env _ (newList []) false (eval iter X.env) (some (assign (.Name y k) X.env))) _ _ s;refine wpAny_bind (wpAny_mono (g8 hc S hi Z ha I h (λx T M=>S.cells x T M) (λL C B G f hC _ r hI q=>?_) hs) (λ_ s' hq=>wpAny_pure (wpAny_pure hq)) λ_ _ e=>e);obtain⟨m,r⟩:=r;have O:Inv X j Y G B:=hI B.heap ⟨rfl,λ_ _=>rfl⟩;show wpAny _ X.A (assign (.Name y k) X.env (.ref L)) _ _ _;refine wpAny_assign_Name (ei O Q hy (.inl J) (v:=.ref L) rfl (λs6 U u=>?_) (.inr J));obtain⟨a,p,t⟩:=u;have w:C≠a:=by
  rcases t with e|e
  ·rw[e];exact f.2.1
  ·exact λz=>f.2.2.2.2.1 _ _ e z.symm
 exact⟨m,r.sameBut p w,λh' l=>⟨_,G,U.turned (λb o hb e=>(l.2 b hb).trans e) f.1 f.2.1 f.2.2.2.1 f.2.2.2.2.1 f.2.2.2.2.2,q⟩⟩
end
end
section
section
variable{prog:Program}{w:World}{A:Around}{E:Value->Shared->Prop}{s:Shared}
theorem dE{items}(a:s.heap.IsTupleIter it t i)
  (h:s.heap.IsTuple t items) (g:items[i]?=some x)
  (j:∀h',h'.IsTupleIter it t (i+1)->Heap.SameBut it s.heap h'->Q x { s with heap:=h' }):
  wpAny (model prog w) A (Builtin.SmallTypes.nextOf (.ref it)) Q E s:=by
 obtain⟨o,c,f,b⟩:=id a;obtain⟨k,e,_,l,d⟩:=h;unfold Builtin.SmallTypes.nextOf;refine wpAny_bind (wpAny_callSpecial?_slot a.typeIs F.slot_tuple_iterator_next
  (wpAny_call_entry F.slot_tuple_iterator_next a.typeIs F.entry_tuple_iterator_next ?_ (F.args_tuple_iterator_next_1 _)))
 show wpAny _ _ (field (.ref it) 0 >>= _) _ _ s;refine wpAny_bind (wpAny_field c b rfl ?_);show wpAny _ _ (if (Value.ref t==Value.none)=true then _ else _) _ _ s;rw[if_neg (show ¬ ((Value.ref t==Value.none)=true) from aab)];show wpAny _ _ (field (.ref it) 1 >>= _) _ _ s;refine wpAny_bind (wpAny_field c b rfl ?_);show wpAny _ _ (seqItems? (.ref t) >>= _) _ _ s;refine wpAny_bind (wpAny_seqItems e d ?_);simp only[aaX,g];refine wpAny_bind (wpAny_setField c b (by simp) (wpAny_pure ⟨x,rfl,wpAny_pure (j _ ?_ (Heap.SameBut.update ..))⟩));exact⟨_,Heap.get?_update_self _ c (Obj.isFreed_of_fields (Obj.data_mapFields b _)),(Obj.cls_mapFields ..).trans f,by
  rw[Obj.data_mapFields b];simp[rawInt]⟩
theorem eD{items}{Q:Value->Shared->Prop}(g:A.handled=none)
  (a:s.heap.IsTupleIter it t i) (k:s.heap.IsTuple t items) (h:items[i]?=none)
  (j:∀h' e,Heap.ExtBut it s.heap h'->(∃o,h'.get? e=some o/\o.cls=.type "StopIteration")->E (.ref e) { s with heap:=h' }):
  wpAny (model prog w) A (Builtin.SmallTypes.nextOf (.ref it)) Q E s:=by
 obtain⟨o,f,m,d⟩:=id a;obtain⟨l,c,_,n,b⟩:=k;unfold Builtin.SmallTypes.nextOf;refine wpAny_bind (wpAny_callSpecial?_slot a.typeIs F.slot_tuple_iterator_next
  (wpAny_call_entry F.slot_tuple_iterator_next a.typeIs F.entry_tuple_iterator_next ?_ (F.args_tuple_iterator_next_1 _)))
 show wpAny _ _ (field (.ref it) 0 >>= _) _ _ s;refine wpAny_bind (wpAny_field f d rfl ?_);show wpAny _ _ (if (Value.ref t==Value.none)=true then _ else _) _ _ s;rw[if_neg (show ¬ ((Value.ref t==Value.none)=true) from aab)];show wpAny _ _ (field (.ref it) 1 >>= _) _ _ s;refine wpAny_bind (wpAny_field f d rfl ?_);show wpAny _ _ (seqItems? (.ref t) >>= _) _ _ s;refine wpAny_bind (wpAny_seqItems c b ?_);simp only[aaX,h];refine wpAny_bind (wpAny_rule (wpAny_bind (wpAny_setField f d (by simp) ?_)));show wpAny _ _ (newExc (.type "StopIteration") [] >>= _) _ _ _;refine wpAny_bind ?_;simp only[newExc,newTuple];refine wpAny_bind (wpAny_newObj_type ?_ (by size_fits));refine wpAny_bind (wpAny_of_eq (by first|rfl|(simp only[firstArgMember];rfl)) ?_);refine wpAny_newObj_type ?_ (by size_fits);simp only[raiseNew];refine wpAny_bind (wpAny_handled ?_)
 first|rw[show A.in1.handled=none from g]|rw[g]
 refine wpAny_bind (wpAny_pure (wpAny_throw ?_));exact j _ _ (((Heap.SameBut.update ..).extBut.push _).push _) ⟨_,Heap.get?_push_size _ rfl,rfl⟩
end
inductive ZS where
 |lst (a:Addr) (xs:List V)
 |tup (a:Addr) (xs:List V)
 |str (z:Str)
def ZS.items:ZS->List V
 |.lst _ xs=>xs
 |.tup _ xs=>xs
 |.str z=>z.cps.toList.map λc=>.str ⟨#[c]⟩
def ZS.val:ZS->V
 |.lst a _=>.ref a
 |.tup a _=>.ref a
 |.str z=>.str z
def ZS.ok(K:Waa)(H:Hp):ZS->Prop
 |.lst a xs=>SqL K H a xs
 |.tup a xs=>SqT K H a xs
 |.str _=>True
structure Sub (prog:Program)(w:World)(A:Around)(i:Addr)(sl:List Addr)(src:Heap->Prop)(st:Nat->Heap->Prop)(vs:List V):Prop where
 sfr:∀h h',src h->(∀b∈sl,∀o,h.get? b=some o->h'.get? b=some o)->src h'
 ifr:∀k h h',st k h->(∀o,h.get? i=some o->h'.get? i=some o)->st k h'
 item:∀(k:Nat) (s:Shared) (x:V) (Q:Value->Shared->Prop) (E:Value->Shared->Prop),vs[k]?=some x->src s.heap->st k s.heap ->
  (∀v h' tk,RelV x v->st (k+1) h'->Heap.SameBut i s.heap h'->Q v { s with heap:=h',toks:=tk })->wpAny (model prog w) A (Builtin.SmallTypes.nextOf (.ref i)) Q E s
 done:∀(k:Nat) (s:Shared) (Q:Value->Shared->Prop) (E:Value->Shared->Prop),vs.length<=k->src s.heap->st k s.heap ->
  (∀h' e,Heap.ExtBut i s.heap h'->(∃o,h'.get? e=some o/\o.cls=.type "StopIteration")->E (.ref e) { s with heap:=h' })->wpAny (model prog w) A (Builtin.SmallTypes.nextOf (.ref i)) Q E s
theorem Sub.list(j:A.handled=none)(i l:Addr)(r:Vals xs its):
  Sub prog w A i [l] (λh=>h.IsList l its.toArray) (λk h=>h.IsListIter i l k) xs where
 sfr:=λh a x k=>x.at λo e=>k l (by simp) o e
 ifr:=λk h a x f=>x.at λo e=>f o e
 item:=λk s x Q E g d b q=>by obtain⟨u,n,m⟩:=r.get g;exact wpAny_nextOf_list_item b d (by simpa using n) λa c t=>q u a s.toks m c t
 done:=λk s Q E v d b p=>by have y:=r.length;exact wpAny_nextOf_list_end j b d (by simp;omega) p
theorem Sub.tuple(m:A.handled=none)(i l:Addr)(r:Vals xs its):
  Sub prog w A i [l] (λh=>h.IsTuple l its.toArray) (λk h=>h.IsTupleIter i l k) xs where
 sfr:=λh a ⟨o,e,c⟩ k=>⟨o,k l (by simp) o e,c⟩
 ifr:=λk h a ⟨o,e,c⟩ f=>⟨o,f o e,c⟩
 item:=λk s x Q E j g b t=>by obtain⟨u,p,n⟩:=r.get j;exact dE b g (by simpa using p) λa d v=>t u a s.toks n d v
 done:=λk s Q E y g b q=>by have z:=r.length;exact eD m b g (by simp;omega) q
theorem Sub.strs(r:A.handled=none)(i:Addr)(z:Str)(t:Tok):
  Sub prog w A i [] (λ_=>True) (λk h=>h.IsStrIter i (strIterType z) z t k) (z.cps.toList.map λc=>V.str ⟨#[c]⟩) where
 sfr:=λh d x k=>trivial
 ifr:=λk h d ⟨o,e,c⟩ f=>⟨o,f o e,c⟩
 item:=λk s x Q E g v a l=>by
  rw[aaq]at g;cases e:z.cps.toList[k]? with
  |none=>rw[e]at g;cases g
  |some c=>
   rw[e]at g;have m:V.str ⟨#[c]⟩=x:=aaD g;subst m;have j:z.cps[k]?=some c:=by rw[<-aaR];exact e
   unfold strIterType at a l;split at a
   ·rename_i n;rw[if_pos n]at l;exact wpAny_nextOf_ascii_item a j λd b p=>l _ d _ ⟨_,rfl⟩ b p
   ·rename_i n;rw[if_neg n]at l;exact wpAny_nextOf_wide_item a j λd b p=>l _ d _ ⟨_,rfl⟩ b p
 done:=λk s Q E q v a u=>by
  have j:z.cps[k]?=none:=by rw[aag,aaH]at q;exact abJ q
  unfold strIterType at a;split at a
  ·exact wpAny_nextOf_ascii_end r a j u
  ·exact wpAny_nextOf_wide_end r a j u
structure ZApart (z TI TO i1 i2:Addr)(sl1 sl2:List Addr):Prop where
 TIz:TI≠z
 TOz:TO≠z
 i1z:i1≠z
 i2z:i2≠z
 TITO:TI≠TO
 TIi1:TI≠i1
 TIi2:TI≠i2
 TOi1:TO≠i1
 TOi2:TO≠i2
 i12:i1≠i2
 s1:∀b∈sl1,b≠z/\b≠TO/\b≠i1/\b≠i2
 s2:∀b∈sl2,b≠z/\b≠TO/\b≠i1/\b≠i2
section
variable{prog:Program}{w:World}{A:Around}{E:Value->Shared->Prop}{s:Shared}
theorem nI{z O p U S:Addr}{Q:Value->Shared->Prop}(D:ZApart z O p U S sl1 sl2)
  (S1:Sub prog w A U sl1 src1 st1 xs) (S2:Sub prog w A S sl2 src2 st2 ys)
  (hz:IsZip s.heap z O p .none) (b7:IsPair s.heap O (.ref U) (.ref S)) (a7:IsPair s.heap p a b)
  (h1:st1 k s.heap) (h2:st2 k s.heap) (b5:src1 s.heap) (b8:src2 s.heap) (hx:xs[k]?=some x) (hy:ys[k]?=some y)
  (hQ:∀u v h' tk,RelV x u->RelV y v->IsZip h' z O p (rawInt s.heap.objs.size)->IsPair h' p u v->st1 (k+1) h'->st2 (k+1) h'->IsPair h' s.heap.objs.size u v->h'.objs.size=s.heap.objs.size+1 ->
   (∀c o,c≠z->c≠p->c≠U->c≠S->s.heap.get? c=some o->h'.get? c=some o)->Q (.ref s.heap.objs.size) { s with heap:=h',toks:=tk })
  (c0:U<s.heap.objs.size) (c5:S<s.heap.objs.size):
  wpAny (model prog w) A (Builtin.«zip.__next__» ⟨[.ref z],[]⟩) (λa8 s'=>∃v,a8=.done (.ret v)/\Q v s') E s:=by
 show wpAny _ _ (field (.ref z) 2 >>= _) _ _ _;refine wpAny_bind (wpAny_field hz rfl rfl ?_);show wpAny _ _ (field (.ref z) 3 >>= _) _ _ _;refine wpAny_bind (wpAny_field hz rfl rfl ?_);refine wpAny_bind (wpAny_seqItems b7 rfl ?_);show wpAny _ _ (Builtin.SmallTypes.ownedTupleIsFree (.ref z) >>= _) _ _ _;refine wpAny_bind ?_;unfold Builtin.SmallTypes.ownedTupleIsFree;refine wpAny_bind (wpAny_field hz rfl rfl (wpAny_pure ?_));simp only[if_true];refine wpAny_bind (wpAny_rule ?_);refine wpAny_bind (wpAny_field hz rfl rfl ?_);refine wpAny_bind (wpAny_setField_rec hz (by simp) λT t j=>?_);replace t:IsZip T z O p .ellipsis:=t;refine wpAny_bind ?_;simp only[List.zipIdx_cons,List.zipIdx_nil,abH,List.forIn_nil];refine wpAny_bind (wpAny_bind (wpAny_onRaise ?_));show wpAny _ _ (Builtin.SmallTypes.nextOf (.ref U) >>= _) _ _ _;refine wpAny_bind (S1.item k _ x _ _ hx (S1.sfr _ _ b5 λb hb o e=>j.extBut b o (D.s1 b hb).1 e) (S1.ifr _ _ _ h1 λo e=>j.extBut _ o D.i1z e) λu M b0 ru Y g=>wpAny_pure ?_);have g:Heap.SameBut U T M:=g;have H:IsPair M p a b:=g.extBut _ _ D.TOi1 (j.extBut _ _ D.TOz a7);refine wpAny_bind (wpAny_seqItems H rfl ?_);refine wpAny_bind (wpAny_updateSeq_pair H λI m f=>?_);replace m:IsPair I p u b:=m;have f:Heap.SameBut p M I:=f;refine wpAny_bind (wpAny_letGo (wpAny_pure ?_));refine wpAny_bind (wpAny_bind (wpAny_onRaise ?_));show wpAny _ _ (Builtin.SmallTypes.nextOf (.ref S) >>= _) _ _ _;refine wpAny_bind (S2.item k _ y _ _ hy (S2.sfr _ _ b8 λb hb o e=>f.extBut b o (D.s2 b hb).2.1 (g.extBut b o (D.s2 b hb).2.2.1 (j.extBut b o (D.s2 b hb).1 e)))
  (S2.ifr _ _ _ h2 λo e=>f.extBut _ o D.TOi2.symm (g.extBut _ o D.i12.symm (j.extBut _ o D.i2z e))) λv J b6 rv a0 i=>wpAny_pure ?_)
 have i:Heap.SameBut S I J:=i;have G:IsPair J p u b:=i.extBut _ _ D.TOi2 m;refine wpAny_bind (wpAny_seqItems G rfl ?_);refine wpAny_bind (wpAny_updateSeq_pair G λd l h=>?_);replace l:IsPair d p u v:=l;have h:Heap.SameBut p J d:=h;refine wpAny_bind (wpAny_letGo (wpAny_pure (wpAny_pure ?_)));refine wpAny_bind (wpAny_seqItems l rfl ?_);refine wpAny_bind (wpAny_newTuple ?_);have a5:d.objs.size=s.heap.objs.size:=by rw[h.1,i.1,f.1,g.1,j.1]
 have N:IsZip d z O p .ellipsis:=h.extBut _ _ D.TOz.symm (i.extBut _ _ D.i2z.symm (f.extBut _ _ D.TOz.symm (g.extBut _ _ D.i1z.symm t)));have a1:∀c o,c≠z->c≠p->c≠U->c≠S->s.heap.get? c=some o->d.get? c=some o:=λc o c1 c2 c3 c4 e=>
  h.extBut _ _ c2 (i.extBut _ _ c4 (f.extBut _ _ c2 (g.extBut _ _ c3 (j.extBut _ _ c1 e))))
 have a3:st1 (k+1) d:=S1.ifr _ _ _ Y λo e=>h.extBut _ o D.TOi1.symm (i.extBut _ o D.i12 (f.extBut _ o D.TOi1.symm e));have Z:st2 (k+1) d:=S2.ifr _ _ _ a0 λo e=>h.extBut _ o D.TOi2.symm e;have X:z<d.objs.size:=Heap.lt_size N;show wpAny _ _ (Builtin.SmallTypes.ownedTupleHandOut (.ref z) (.ref d.objs.size) >>= _) _ _ _;refine wpAny_bind ?_;unfold Builtin.SmallTypes.ownedTupleHandOut;have a2:IsZip (d.push { cls:=.type "tuple",data:=.seq #[u,v] }) z O p .ellipsis:=Heap.get?_push_of_some _ N;refine wpAny_bind (wpAny_setField_rec a2 (by simp) λa6 C B=>?_);replace C:IsZip a6 z O p (rawInt d.objs.size):=C;refine wpAny_setField_rec C (by simp) λq n r=>?_;replace n:IsZip q z O p (rawInt d.objs.size):=n;have up:∀c o,c≠z->d.get? c=some o->q.get? c=some o:=λc o c1 e=>r.extBut _ _ c1 (B.extBut _ _ c1 (Heap.get?_push_of_some _ e));have L:IsPair q d.objs.size u v:=r.extBut _ _ (aaI X) (B.extBut _ _ (aaI X) (Heap.get?_push_size _ rfl));have a4:q.objs.size=d.objs.size+1:=by rw[r.1,B.1,Heap.size_push]
 rw[a5]at n L a4;refine wpAny_pure ⟨_,rfl,?_⟩;show Q (.ref d.objs.size) _;rw[a5];exact hQ u v q _ ru rv n (up _ _ D.TOz l) (S1.ifr _ _ _ a3 λo e=>up _ o D.i1z e) (S2.ifr _ _ _ Z λo e=>up _ o D.i2z e) L a4 λc o c1 c2 c3 c4 e=>up c o c1 (a1 c o c1 c2 c3 c4 e)
theorem pF{z J B G I:Addr}{Q:Fin->Shared->Prop}(D:ZApart z J B G I sl1 sl2)
  (T:Sub prog w A G sl1 src1 st1 xs) (U:Sub prog w A I sl2 src2 st2 ys)
  (hz:IsZip s.heap z J B .none) (a3:IsPair s.heap J (.ref G) (.ref I)) (X:IsPair s.heap B a b)
  (h1:st1 k s.heap) (h2:st2 k s.heap) (a1:src1 s.heap) (a4:src2 s.heap) (L:xs.length<=k\/ys.length<=k)
  (hE:∀h' tk e,(∀c o,c≠z->c≠B->c≠G->c≠I->s.heap.get? c=some o->h'.get? c=some o)->(∃o,h'.get? e=some o/\o.cls=.type "StopIteration")->E (.ref e) { s with heap:=h',toks:=tk }):
  wpAny (model prog w) A (Builtin.«zip.__next__» ⟨[.ref z],[]⟩) Q E s:=by
 show wpAny _ _ (field (.ref z) 2 >>= _) _ _ _;refine wpAny_bind (wpAny_field hz rfl rfl ?_);show wpAny _ _ (field (.ref z) 3 >>= _) _ _ _;refine wpAny_bind (wpAny_field hz rfl rfl ?_);refine wpAny_bind (wpAny_seqItems a3 rfl ?_);show wpAny _ _ (Builtin.SmallTypes.ownedTupleIsFree (.ref z) >>= _) _ _ _;refine wpAny_bind ?_;unfold Builtin.SmallTypes.ownedTupleIsFree;refine wpAny_bind (wpAny_field hz rfl rfl (wpAny_pure ?_));simp only[if_true];refine wpAny_bind (wpAny_rule ?_);refine wpAny_bind (wpAny_field hz rfl rfl ?_);refine wpAny_bind (wpAny_setField_rec hz (by simp) λm j g=>?_);replace j:IsZip m z J B .ellipsis:=j;refine wpAny_bind ?_;simp only[List.zipIdx_cons,List.zipIdx_nil,abH,List.forIn_nil];refine wpAny_bind (wpAny_bind (wpAny_onRaise ?_));show wpAny _ _ (Builtin.SmallTypes.nextOf (.ref G) >>= _) _ _ _;have l1:src1 m:=T.sfr _ _ a1 λb N o e=>g.extBut b o (D.s1 b N).1 e;have t1:st1 k m:=T.ifr _ _ _ h1 λo e=>g.extBut _ o D.i1z e;by_cases Y:xs.length<=k
 ·refine wpAny_bind (T.done k _ _ _ Y l1 t1 λi e d he=>?_);have d:Heap.ExtBut G m i:=d;obtain⟨oe,n,y⟩:=he;have t:IsZip i z J B .ellipsis:=d _ _ D.i1z.symm j;have H:e≠z:=λx=>by subst x;rw[t]at n;cases n;simp at y
  refine wpAny_setField_rec t (by simp) λp _ f=>hE p _ e (λc o M _ c3 _ x=>f.extBut _ _ M (d _ _ c3 (g.extBut _ _ M x))) ⟨oe,f.extBut _ _ H n,y⟩
 ·have hy:ys.length<=k:=by rcases L with h|h;exact absurd h Y;exact h
  obtain⟨x,a2⟩:∃x,xs[k]?=some x:=⟨_,aao (Nat.lt_of_not_le Y)⟩
  refine wpAny_bind (T.item k _ x _ _ a2 l1 t1 λu i a0 ru Z d=>wpAny_pure ?_);have d:Heap.SameBut G m i:=d;have q:IsPair i B a b:=d.extBut _ _ D.TOi1 (g.extBut _ _ D.TOz X);refine wpAny_bind (wpAny_seqItems q rfl ?_);refine wpAny_bind (wpAny_updateSeq_pair q λp S f=>?_);have f:Heap.SameBut B i p:=f;refine wpAny_bind (wpAny_letGo (wpAny_pure ?_));refine wpAny_bind (wpAny_bind (wpAny_onRaise ?_));show wpAny _ _ (Builtin.SmallTypes.nextOf (.ref I) >>= _) _ _ _;refine wpAny_bind (U.done k _ _ _ hy (U.sfr _ _ a4 λb N o e=>f.extBut b o (D.s2 b N).2.1 (d.extBut b o (D.s2 b N).2.2.1 (g.extBut b o (D.s2 b N).1 e)))
   (U.ifr _ _ _ h2 λo e=>f.extBut _ o D.TOi2.symm (d.extBut _ o D.i12.symm (g.extBut _ o D.i2z e))) λC e l he=>?_)
  have l:Heap.ExtBut I p C:=l;obtain⟨oe,n,y⟩:=he;have r:IsZip C z J B .ellipsis:=l _ _ D.i2z.symm (f.extBut _ _ D.TOz.symm (d.extBut _ _ D.i1z.symm j));have H:e≠z:=λx=>by subst x;rw[r]at n;cases n;simp at y
  refine wpAny_setField_rec r (by simp) λO _ v=>hE O _ e (λc o M c2 c3 c4 x=>v.extBut _ _ M (l _ _ c4 (f.extBut _ _ c2 (d.extBut _ _ c3 (g.extBut _ _ M x))))) ⟨oe,v.extBut _ _ H n,y⟩
theorem kE{z g d f e:Addr}(D:ZApart z g d f e sl1 sl2)
  (L:Sub prog w A.in1 f sl1 src1 st1 xs) (r:Sub prog w A.in1 e sl2 src2 st2 ys)
  (hz:IsZip s.heap z g d .none) (m:IsPair s.heap g (.ref f) (.ref e)) (h:IsPair s.heap d a b)
  (H:st1 k s.heap) (C:st2 k s.heap) (i:src1 s.heap) (p:src2 s.heap) (B:xs[k]?=some x) (T:ys[k]?=some y)
  (X:∀u v h' n,RelV x u->RelV y v->IsZip h' z g d (rawInt s.heap.objs.size)->IsPair h' d u v->st1 (k+1) h'->st2 (k+1) h'->IsPair h' s.heap.objs.size u v->h'.objs.size=s.heap.objs.size+1 ->
   (∀c o,c≠z->c≠d->c≠f->c≠e->s.heap.get? c=some o->h'.get? c=some o)->Q (some (.ref s.heap.objs.size)) { s with heap:=h',toks:=n })
  (j:f<s.heap.objs.size) (l:e<s.heap.objs.size):
  wpAny (model prog w) A (pyNext (.ref z)) Q E s:=by
 have q:s.TypeIs (.ref z) "zip":=⟨_,hz,rfl⟩
 unfold pyNext;exact wpAny_bind (wpAny_attempt (wpAny_callSpecial?_slot q F.slot_zip_next
  (wpAny_call_entry F.slot_zip_next q F.entry_zip_next
   (nI D L r hz m h H C i p B T (λu v h' n t I O N J M S U G=>wpAny_pure (X u v h' n t I O N J M S U G)) j l) (F.args_zip_next_1 _))))
theorem nJ{z l f h g:Addr}(D:ZApart z l f h g sl1 sl2)
  (y:Sub prog w A.in1 h sl1 src1 st1 xs) (r:Sub prog w A.in1 g sl2 src2 st2 ys)
  (hz:IsZip s.heap z l f .none) (m:IsPair s.heap l (.ref h) (.ref g)) (i:IsPair s.heap f a b)
  (x:st1 k s.heap) (t:st2 k s.heap) (j:src1 s.heap) (n:src2 s.heap) (d:xs.length<=k\/ys.length<=k)
  (G:∀h' p,(∀c o,c≠z->c≠f->c≠h->c≠g->s.heap.get? c=some o->h'.get? c=some o)->Q none { s with heap:=h',toks:=p }):wpAny (model prog w) A (pyNext (.ref z)) Q E s:=by
 have q:s.TypeIs (.ref z) "zip":=⟨_,hz,rfl⟩
 unfold pyNext;refine wpAny_bind (wpAny_attempt (wpAny_callSpecial?_slot q F.slot_zip_next
  (wpAny_call_entry F.slot_zip_next q F.entry_zip_next (pF D y r hz m i x t j n d λh' p e v B=>?_) (F.args_zip_next_1 _))))
 obtain⟨o,u,C⟩:=B;refine wpAny_bind (wpAny_isInstance ⟨o,u,C⟩ isSubtype_stop ?_);exact wpAny_pure (G _ _ v)
end
end
section
def Dn(K:Waa)(a b:ZS):It:=
 ⟨λi H=>a.ok K H/\b.ok K H/\i<a.items.length/\i<b.items.length,
  λi H v c=>∃T x y,a.items[i]?=some x/\b.items[i]?=some y/\H T=none/\v=.ref T/\c=upd H T (.tup [x,y]),
  λi H=>a.ok K H/\b.ok K H/\(a.items.length<=i\/b.items.length<=i)⟩
def ZS.x2:ZS->Value->Obj
 |.lst _ _,v=>{ cls:=.type "list_iterator",data:=.fields #[v,.int 0 0] }
 |.tup _ _,v=>{ cls:=.type "tuple_iterator",data:=.fields #[v,.int 0 0] }
 |.str z,v=>{ cls:=.type (strIterType z),data:=.fields #[v,.int 0 0] }
def ZS.st(a:ZS)(v:Value)(i:Addr)(k:Nat)(h:Heap):Prop:=match a,v with
 |.lst l _,_=>h.IsListIter i l k
 |.tup l _,_=>h.IsTupleIter i l k
 |.str z,.str _ t=>h.IsStrIter i (strIterType z) z t k
 |.str _,_=>False
def ZS.sl:ZS->List Addr
 |.lst l _=>[l]
 |.tup l _=>[l]
 |.str _=>[]
theorem ZS.mv{a:ZS}(x:a.st v i k h):∃o,h.get? i=some o/\∀c,o.data≠.cell c:=by
 cases a with
 |lst l b=>obtain⟨o,e,c,d⟩:=(show h.IsListIter i l k from x);exact⟨o,e,λv z=>by rw[d]at z;cases z⟩
 |tup l b=>obtain⟨o,e,c,d⟩:=(show h.IsTupleIter i l k from x);exact⟨o,e,λv z=>by rw[d]at z;cases z⟩
 |str z=>
  cases v with
  |str y t=>obtain⟨o,e,c,d⟩:=(show h.IsStrIter i (strIterType z) z t k from x);exact⟨o,e,λv z=>by rw[d]at z;cases z⟩
  |_=>exact False.elim x
theorem ZS.h7{a:ZS}(x:a.st v i k h)(f:∀o,h.get? i=some o->h'.get? i=some o):a.st v i k h':=by
 cases a with
 |lst l b=>obtain⟨o,e,c⟩:=(show h.IsListIter i l k from x);exact⟨o,f o e,c⟩
 |tup l b=>obtain⟨o,e,c⟩:=(show h.IsTupleIter i l k from x);exact⟨o,f o e,c⟩
 |str z=>
  cases v with
  |str y t=>obtain⟨o,e,c⟩:=(show h.IsStrIter i (strIterType z) z t k from x);exact⟨o,f o e,c⟩
  |_=>exact False.elim x
section
variable{X:Cx}{pins:List (Addr×Obj)}{σ:St}{H:Hp}{s:Shared}
theorem ZS.sub(a:ZS)(I:Inv X pins σ H s)(c:a.ok X.K H)(x:RelV a.val v)(A:Around)(q:A.handled=none)(i:Addr):
  ∃j:Heap->Prop,j s.heap/\Sub X.prog X.w A i a.sl j (a.st v i) a.items/\(∀b∈a.sl,∃o,s.heap.get? b=some o/\(H b≠none\/X.base.get? b=some o)):=by
 cases a with
 |lst l m=>
  have c:SqL X.K H l m:=c;obtain⟨k,r,p,u⟩:=I.list c;refine⟨_,p.isList,Sub.list q i l r,λb f=>?_⟩;have e:b=l:=by simpa[ZS.sl] using f
  subst e;rcases c with (h|⟨o,h⟩)|⟨o,g,n,d,_⟩
  ·obtain⟨_,_,_,_,e⟩:=I.hok _ _ h;exact⟨_,e,.inl (by rw[h];simp)⟩
  ·obtain⟨e,_⟩:=I.hok _ _ h;exact⟨_,e,.inl (by rw[h];simp)⟩
  ·exact⟨o,I.xc _ _ d,.inr (I.ok.mod.kin _ _ d)⟩
 |tup l m=>
  have c:SqT X.K H l m:=c;obtain⟨k,r,p,u⟩:=I.tuple c;refine⟨_,p,Sub.tuple q i l r,λb f=>?_⟩;have e:b=l:=by simpa[ZS.sl] using f
  subst e;rcases c with (h|⟨o,h⟩)|⟨o,g,n,d,_⟩
  ·obtain⟨_,_,_,o,e,_⟩:=I.hok _ _ h;exact⟨_,e,.inl (by rw[h];simp)⟩
  ·obtain⟨e,_⟩:=I.hok _ _ h;exact⟨_,e,.inl (by rw[h];simp)⟩
  ·exact⟨o,I.xc _ _ d,.inr (I.ok.mod.kin _ _ d)⟩
 |str z=>obtain⟨t,rfl⟩:=x;exact⟨_,trivial,Sub.strs q i z t,λb f=>by simp[ZS.sl]at f⟩
end
theorem aG{a:ZS}(I:Inv X pins σ H s)(f:FpOk X pins H b)(h:∀c∈a.sl,∃o,s.heap.get? c=some o/\(H c≠none\/X.base.get? c=some o)):∀c∈a.sl,c≠b:=by
 intro c d e;subst e;obtain⟨o,_,q⟩:=h c d;rcases q with q|q
 ·exact q f.1
 ·rcases f.2.2.2.1 with z|z
  ·exact I.ok.noex c o q z
  ·exact absurd (aar (Heap.lt_size q) (aat I.ok.bsz z)) (aaM _)
structure ZRec (z TI TO i1 i2:Addr):Prop where
 TIz:TI≠z
 TOz:TO≠z
 i1z:i1≠z
 i2z:i2≠z
 TITO:TI≠TO
 TIi1:TI≠i1
 TIi2:TI≠i2
 TOi1:TO≠i1
 TOi2:TO≠i2
 i12:i1≠i2
theorem Inv.h8{t':Nat}{g:List Addr}(I:Inv X pins σ H s)(k:∀b o,b ∉ g->s.heap.get? b=some o->h'.get? b=some o)(f:∀b∈g,FpOk X pins H b)
  : Inv X pins σ H { s with heap:=h',toks:=t' }:=by
 have d:∀b u,H b=some u->b ∉ g:=λb u e z=>by rw[(f b z).1]at e;cases e
 refine I.step (λb t=>?_) (λb o _ _ a e _=>k b o a e) (λb o _ _ a e _=>⟨o.slots,k b o a e⟩) (λ_ _ _ _ n=>n)
  (λb o a e=>⟨o,k b o a e⟩) (λ_ _ e=>e) (λ_ _ _ e=>e) (λb A e=>⟨#[],by rw[e];simp⟩) (λm w=>?_) (λb u e=>?_) I.bare
 ·obtain⟨C,i,B,x,l,p⟩:=f b t;exact⟨x,i,l,p⟩
 ·obtain⟨o,j,y,h,r⟩:=w;exact⟨o,j,y,k _ o (λz=>(f _ z).2.1 rfl) h,r⟩
 ·refine(I.hok b u e).kv (λc v a q=>k c v ?_ q) (λ_ q=>q) λ_ _ q=>q;rcases a with z|z
  ·rw[z];exact d b u e
  ·exact d c _ z
theorem pG{P:Program}{w:World}{K:Waa}{es:List Expr}{x1}{a7:Pos}(a b:ZS)(va vb:Value)(ra:RelV a.val va)(rb:RelV b.val vb)(z TI TO i1 i2:Addr)(R:ZRec z TI TO i1 i2):
  Turn P w K (.Tuple es x1 a7) (Dn K a b) [z,TI,TO,i1,i2] z
   (λi h=>IsZip h z TI TO .none/\IsPair h TI (.ref i1) (.ref i2)/\(∃p q,IsPair h TO p q)/\a.st va i1 i h/\b.st vb i2 i h) where
 mem:=by simp
 obj:=λi h ⟨C,G,⟨p,q,J⟩,M,L⟩ c d=>by
  simp only[aaa,aau,or_false]at d;rcases d with rfl|rfl|rfl|rfl|rfl
  ·exact⟨_,C,λv z=>by cases z⟩
  ·exact⟨_,G,λv z=>by cases z⟩
  ·exact⟨_,J,λv z=>by cases z⟩
  ·exact ZS.mv M
  ·exact ZS.mv L
 keep:=λi h h' ⟨C,G,⟨p,q,J⟩,M,L⟩ k=>
  ⟨k z (by simp) _ C,k TI (by simp) _ G,⟨p,q,k TO (by simp) _ J⟩,ZS.h7 M (λo e=>k i1 (by simp) o e),ZS.h7 L (λo e=>k i2 (by simp) o e)⟩
 item:=by
  intro X hP hw hK d i t s σ H E I g ⟨C,G,⟨p,q,J⟩,M,L⟩ hg;subst hP hw hK;obtain⟨N,S,la,lb⟩:=hg;have hh:X.A.in1.handled=none:=I.ok.hd d;obtain⟨a2,Q,S1,l⟩:=a.sub I N ra X.A.in1 hh i1;obtain⟨Z,O,S2,j⟩:=b.sub I S rb X.A.in1 hh i2;obtain⟨x,hx⟩:∃x,a.items[i]?=some x:=⟨_,aao la⟩
  obtain⟨y,hy⟩:∃y,b.items[i]?=some y:=⟨_,aao lb⟩
  have D:ZApart z TI TO i1 i2 a.sl b.sl:=⟨R.TIz,R.TOz,R.i1z,R.i2z,R.TITO,R.TIi1,R.TIi2,R.TOi1,R.TOi2,R.i12,
   λc d=>⟨aG I (g z (by simp)) l c d,aG I (g TO (by simp)) l c d,aG I (g i1 (by simp)) l c d,aG I (g i2 (by simp)) l c d⟩,
   λc d=>⟨aG I (g z (by simp)) j c d,aG I (g TO (by simp)) j c d,aG I (g i1 (by simp)) j c d,aG I (g i2 (by simp)) j c d⟩⟩
  have fl:∀c∈([z,TI,TO,i1,i2]:List Addr),c<s.heap.objs.size:=λc d=>by
   simp only[aaa,aau,or_false]at d;rcases d with rfl|rfl|rfl|rfl|rfl
   ·exact Heap.lt_size C
   ·exact Heap.lt_size G
   ·exact Heap.lt_size J
   ·obtain⟨o,e,_⟩:=ZS.mv M;exact Heap.lt_size e
   ·obtain⟨o,e,_⟩:=ZS.mv L;exact Heap.lt_size e
  refine kE D S1 S2 C G J M L Q O hx hy (λu v h' tk ru rv a5 U a1 a3 hT b0 hk=>?_) (fl i1 (by simp)) (fl i2 (by simp));refine⟨.ref s.heap.objs.size,rfl,?_⟩;refine wpAny_letOwnedTupleGo_zip a5 λB a0 f=>?_;have f:Heap.SameBut z h' B:=f;have k1:∀c o,c ∉ ([z,TI,TO,i1,i2]:List Addr)->s.heap.get? c=some o->B.get? c=some o:=λc o d e=>by simp only[aaa,aau,or_false,not_or]at d;exact f.extBut _ _ d.1 (hk c o d.1 d.2.2.1 d.2.2.2.1 d.2.2.2.2 e)
  have T:H s.heap.objs.size=none:=I.hok.fresh (aac _);have I1:Inv X t σ H { s with heap:=B,toks:=tk }:=I.h8 k1 g;have a6:s.heap.objs.size≠z:=aaI (fl z (by simp));have a4:IsPair B s.heap.objs.size u v:=f.extBut _ _ a6 hT;have I2:Inv X t σ (upd H s.heap.objs.size (.tup [x,y])) { s with heap:=B,toks:=tk }:=by
   refine I.step (g':=s.gens) (d':=s.drawn) (ch:=[z,TI,TO,i1,i2]) (λb hb=>?_) (λb o _ _ d e _=>k1 b o d e) (λb o _ _ d e _=>⟨o.slots,k1 b o d e⟩) (λb o d e n=>?_)
    (λb o d e=>⟨o,k1 b o d e⟩) (λb ys e=>?_) (λb o u e=>?_) (λb ps e=>⟨#[],?_⟩) (λm hm=>?_) (λb o e=>?_) I.bare
   ·obtain⟨f0,f1,f2,f3,f4,f5⟩:=g b hb;exact⟨f3,f1,f4,f5⟩
   ·rw[upd_ne (aai (Heap.lt_size e))];exact n
   ·rw[upd_ne (ah e T)];exact e
   ·rw[upd_ne (ah e T)];exact e
   ·rw[upd_ne (ah e T),e];simp
   ·obtain⟨o,a8,ep,ho,r⟩:=hm;exact⟨o,a8,ep,k1 _ o (λz=>(g _ z).2.1 rfl) ho,r⟩
   ·by_cases hb:b=s.heap.objs.size
    ·subst hb;rw[av]at e;cases e;exact⟨(by show 2<=sizeLine;decide),[u,v],.cons ru (.cons rv .nil),⟨_,a4,rfl,_,rfl,rfl⟩⟩
    ·rw[upd_ne hb]at e;refine(I1.hok b o e).kv (λc v d q=>q) (λc q=>by rw[upd_ne (ah q T)];exact q) λc ys q=>by rw[upd_ne (ah q T)];exact q
  refine⟨.ref s.heap.objs.size,_,I2,rfl,⟨_,x,y,hx,hy,T,rfl,rfl⟩,⟨a0,?_,⟨u,v,f.extBut _ _ R.TOz U⟩,ZS.h7 a1 (λo e=>f.extBut _ _ R.i1z e),ZS.h7 a3 (λo e=>f.extBut _ _ R.i2z e)⟩,λc d=>?_⟩
  ·exact f.extBut _ _ R.TIz (hk _ _ R.TIz R.TITO R.TIi1 R.TIi2 G)
  ·rw[upd_ne (aai (fl c d))];exact(g c d).1
 done:=by
  intro X hP hw hK d i t s σ H E I g ⟨C,G,⟨p,q,J⟩,M,L⟩ hg;subst hP hw hK;obtain⟨N,S,Y⟩:=hg;have hh:X.A.in1.handled=none:=I.ok.hd d;obtain⟨a2,Q,S1,l⟩:=a.sub I N ra X.A.in1 hh i1;obtain⟨Z,O,S2,j⟩:=b.sub I S rb X.A.in1 hh i2;have D:ZApart z TI TO i1 i2 a.sl b.sl:=⟨R.TIz,R.TOz,R.i1z,R.i2z,R.TITO,R.TIi1,R.TIi2,R.TOi1,R.TOi2,R.i12,
   λc d=>⟨aG I (g z (by simp)) l c d,aG I (g TO (by simp)) l c d,aG I (g i1 (by simp)) l c d,aG I (g i2 (by simp)) l c d⟩,
   λc d=>⟨aG I (g z (by simp)) j c d,aG I (g TO (by simp)) j c d,aG I (g i1 (by simp)) j c d,aG I (g i2 (by simp)) j c d⟩⟩
  refine nJ D S1 S2 C G J M L Q O Y λh' tk hk=>⟨rfl,I.h8 (λc o d e=>?_) g⟩
  simp only[aaa,aau,or_false,not_or]at d;exact hk c o d.1 d.2.2.1 d.2.2.2.1 d.2.2.2.2 e
 self:=λ_ _ _ _ _ ⟨C,_⟩ h=>wpAny_pyIter_zip C h
theorem fQ(n j:Value)(o1 f:Obj)(b a:Heap->Prop)(l:∀h o,a h->a (h.push o))
  (r:∀(prog:Program) (w:World) (A:Around) (E:Value->Shared->Prop) (s:Shared) (Q:Value->Shared->Prop),b s.heap->Q (.ref s.heap.objs.size) { s with heap:=s.heap.push o1 }->wpAny (model prog w) A (pyIter n) Q E s)
  (v:∀(prog:Program) (w:World) (A:Around) (E:Value->Shared->Prop) (s:Shared) (Q:Value->Shared->Prop),a s.heap->Q (.ref s.heap.objs.size) { s with heap:=s.heap.push f }->wpAny (model prog w) A (pyIter j) Q E s):
  Meets (Builtin.«zip.__new__» ⟨[.type "zip",n,j],[]⟩) (λ_ R s=>b s.heap/\a s.heap /\
   R (.ok (.ret (.ref ((((s.heap.push o1).push f).push { cls:=.type "tuple",data:=.seq #[.ref s.heap.objs.size,.ref (s.heap.push o1).objs.size] }).push { cls:=.type "tuple",data:=.seq #[.none,.none] }).objs.size)))
    { s with heap:=((((s.heap.push o1).push f).push { cls:=.type "tuple",data:=.seq #[.ref s.heap.objs.size,.ref (s.heap.push o1).objs.size] }).push { cls:=.type "tuple",data:=.seq #[.none,.none] }).push { cls:=.type "zip",data:=.fields #[.none,.bool false,.bool false,.ref ((s.heap.push o1).push f).objs.size,.ref (((s.heap.push o1).push f).push { cls:=.type "tuple",data:=.seq #[.ref s.heap.objs.size,.ref (s.heap.push o1).objs.size] }).objs.size] } }):=
 .of_wp λprog w A R s h=>by
  obtain⟨c,g,d,i,e⟩:=s;obtain⟨k,m,h⟩:=h;have q:=sub_zip;have t:∀{A:Around}{E:Value->Shared->Prop}{Q:Value->Shared->Prop},Q (.ref c.objs.size) ⟨c.push o1,g,d,i,e⟩->wpAny (model prog w) A (pyIter n) Q E ⟨c,g,d,i,e⟩:=λp=>r _ _ _ _ ⟨c,g,d,i,e⟩ _ k p;have u:∀{A:Around}{E:Value->Shared->Prop}{Q:Value->Shared->Prop},Q (.ref (c.push o1).objs.size) ⟨(c.push o1).push f,g,d,i,e⟩->wpAny (model prog w) A (pyIter j) Q E ⟨c.push o1,g,d,i,e⟩:=λp=>v _ _ _ _ ⟨c.push o1,g,d,i,e⟩ _ (l _ _ m) p
  wp_walk using t,u
  exact⟨_,rfl,h⟩
end
section
theorem boot_zip:bootBuiltins "zip"=some (.type "zip"):=by decide +kernel
section
variable{X:Cx}
theorem ZS.iter(a:ZS)(I:Inv X pins σ H s)(f:a.ok X.K H)(e:RelV a.val v):
  ∃b:Heap->Prop,b s.heap/\(∀h o,b h->b (h.push o)) /\
   ∀(prog:Program) (w:World) (A:Around) (E:Value->Shared->Prop) (s:Shared) (Q:Value->Shared->Prop),b s.heap->Q (.ref s.heap.objs.size) { s with heap:=s.heap.push (a.x2 v) }->wpAny (model prog w) A (pyIter v) Q E s:=by
 cases a with
 |lst l d=>obtain⟨c,r,p,g⟩:=I.list (show SqL X.K H l d from f);cases e;exact⟨λh=>h.IsList l c.toArray,p.isList,λh o x=>x.push o,λprog w A E s Q h q=>wpAny_pyIter_list h q⟩
 |tup l d=>obtain⟨c,r,p,g⟩:=I.tuple (show SqT X.K H l d from f);cases e;exact⟨λh=>h.IsTuple l c.toArray,p,λh o x=>x.push o,λprog w A E s Q h q=>wpAny_pyIter_tuple h q⟩
 |str z=>obtain⟨t,rfl⟩:=e;exact⟨λ_=>True,trivial,λ_ _ _=>trivial,λprog w A E s Q _ q=>wpAny_pyIter_strU q⟩
theorem ZS.st0(a:ZS)(b:RelV a.val v)(e:h.get? i=some (a.x2 v)):a.st v i 0 h:=by
 cases a with
 |lst l c=>cases b;exact⟨_,e,rfl,rfl⟩
 |tup l c=>cases b;exact⟨_,e,rfl,rfl⟩
 |str z=>obtain⟨t,rfl⟩:=b;exact⟨_,e,rfl,rfl⟩
theorem jz(a:ZS)(v:Value):(a.x2 v).isFreed=false:=by cases a<;>rfl
def Do(K:Waa)(e:TA):TI:=λd H R=>e d H λf c=>∃a b:ZS,f=[a.val,b.val]/\a.ok K c/\b.ok K c/\R (Dn K a b) c
theorem addNe(h:i≠j):(n+i:Addr)≠n+j:=λe=>h (ab8 e)
theorem addNe0(h:i≠0):(n+i:Addr)≠n:=λe=>h (ab8 e)
theorem xi{es:List Expr}{x1}{t:Pos}{a b:Expr}{p n:Pos} (hg:Gl X "zip") (hm:X.mg "zip"=none) (ha:PA X [a,b] ta) (hs:starEach [a,b] X.env=[(false,eval a X.env),(false,eval b X.env)]:=by rfl) (v:starEach [b] X.env=[(false,eval b X.env)]:=by rfl):
  PI X (.Tuple es x1 t) (.Call (.Name "zip" p) [a,b] [] n) (Do X.K ta):=by
 intro f s O H R I h;refine Call_ (cy I hg hm boot_zip (aa7 (thn (ha n f s O H _ I h) λus d hZ=>?_) (by rw[hs,v]) (by rw[v];rfl)));obtain⟨vs,M,k,r1,q1⟩:=hZ;obtain⟨i,g,e,y,G,q⟩:=q1;subst e;obtain⟨u,m,rfl,C,x⟩:=r1.two;obtain⟨j,h1,_,p1⟩:=i.iter k y C;obtain⟨l,h2,D,p2⟩:=g.iter k G x;refine callType_new F.called_zip (by decide) (F.typeCall_zip_2 _ _) (F.newCall_zip_2 _ _) (λz=>F.args_object_init_3 z _ _) F.entry_zip_new
  (fQ u m (i.x2 u) (g.x2 m) j l D p1 p2) ⟨h1,h2,?_⟩
 generalize hA:d.heap.push (i.x2 u)=A1;generalize hB:A1.push (g.x2 m)=A2;generalize hC:A2.push { cls:=.type "tuple",data:=.seq #[.ref d.heap.objs.size,.ref A1.objs.size] }=A3;generalize hD:A3.push { cls:=.type "tuple",data:=.seq #[.none,.none] }=A4;generalize hE:A4.push { cls:=.type "zip",data:=.fields #[.none,.bool false,.bool false,.ref A2.objs.size,.ref A3.objs.size] }=A5;have A:A1.objs.size=d.heap.objs.size+1:=by rw[<-hA];exact Heap.size_push ..
 have w:A2.objs.size=d.heap.objs.size+2:=by rw[<-hB,Heap.size_push,A]
 have B:A3.objs.size=d.heap.objs.size+3:=by rw[<-hC,Heap.size_push,w]
 have T:A4.objs.size=d.heap.objs.size+4:=by rw[<-hD,Heap.size_push,B]
 have J:A5.get? A4.objs.size=some { cls:=.type "zip",data:=.fields #[.none,.bool false,.bool false,.ref A2.objs.size,.ref A3.objs.size] }:=by rw[<-hE];exact Heap.get?_push_size _ rfl
 have S:∀c o,A4.get? c=some o->A5.get? c=some o:=λc o e=>by rw[<-hE];exact Heap.get?_push_of_some _ e
 have Q:∀c o,A3.get? c=some o->A5.get? c=some o:=λc o e=>S c o (by rw[<-hD];exact Heap.get?_push_of_some _ e);have N:∀c o,A2.get? c=some o->A5.get? c=some o:=λc o e=>Q c o (by rw[<-hC];exact Heap.get?_push_of_some _ e);have L:∀c o,A1.get? c=some o->A5.get? c=some o:=λc o e=>N c o (by rw[<-hB];exact Heap.get?_push_of_some _ e);have Z:∀c o,d.heap.get? c=some o->A5.get? c=some o:=λc o e=>L c o (by rw[<-hA];exact Heap.get?_push_of_some _ e);have g4:A5.get? A3.objs.size=some { cls:=.type "tuple",data:=.seq #[.none,.none] }:=S _ _ (by rw[<-hD];exact Heap.get?_push_size _ rfl);have g3:A5.get? A2.objs.size=some { cls:=.type "tuple",data:=.seq #[.ref d.heap.objs.size,.ref A1.objs.size] }:=Q _ _ (by rw[<-hC];exact Heap.get?_push_size _ rfl);have g2:A5.get? A1.objs.size=some (g.x2 m):=N _ _ (by rw[<-hB];exact Heap.get?_push_size _ (jz _ _));have g1:A5.get? d.heap.objs.size=some (i.x2 u):=L _ _ (by rw[<-hA];exact Heap.get?_push_size _ (jz _ _));refine⟨⟨_,J,rfl⟩,?_⟩;have U:IsZip A5 A4.objs.size A2.objs.size A3.objs.size .none:=J;refine wpAny_pyIter_zip U ?_;have R:ZRec A4.objs.size A2.objs.size A3.objs.size d.heap.objs.size A1.objs.size:=by rw[A,w,B,T];refine⟨?_,?_,?_,?_,?_,?_,?_,?_,?_,?_⟩<;>first|exact addNe (by decide)|exact addNe0 (by decide)|exact(addNe0 (by decide)).symm
 have I5:Inv X f O M { d with heap:=A5 }:=k.kept Z;refine⟨A4.objs.size,[A4.objs.size,A2.objs.size,A3.objs.size,d.heap.objs.size,A1.objs.size],_,_,M,rfl,I5,pG i g u m C x _ _ _ _ _ R,
  ⟨U,g3,⟨_,_,g4⟩,i.st0 C g1,g.st0 x g2⟩,λb Y=>?_,q⟩
 have r:d.heap.objs.size<=b:=by simp only[aaa,aau,or_false]at Y;rcases Y with rfl|rfl|rfl|rfl|rfl<;>first|exact aac _|(rw[T];exact abb _ _)|(rw[B];exact abb _ _)|(rw[w];exact abb _ _)|(rw[A];exact abb _ _)
 exact k.q7 r (k.hok.fresh r)
end
section
variable{X:Cx}
theorem sX:∀{us:List Value},Vals (a.map V.bl) us->LSm.BoolsAre us a:=by
 induction a with
 |nil=>intro us r;rw[aaQ]at r;cases r;exact .nil
 |cons b a e=>
  intro us r;rw[aan]at r;cases r with
  |cons d c=>cases d;exact .cons b (e c)
theorem pH(w:X.calm=true):CallR X (.builtin "all") (λxs H Q=>∃(p:Addr) (a:List Bool),xs=[.ref p]/\SqL X.K H p (a.map V.bl)/\Q (.bl (a.all id)) H):=by
 intro g s B H xs G Q I r h;obtain⟨p,a,rfl,t,q⟩:=h;obtain⟨u,rfl,l⟩:=vals1 r;cases l;obtain⟨c,o,f,C⟩:=I.list t;obtain⟨m,F⟩:=I.fr;have d:p<s.heap.objs.size:=by obtain⟨_,_,e,_⟩:=f;exact Heap.lt_size e
 have j:=sX o;refine call_all_walk (wpAny_pyIter_list f.isList ?_);refine⟨s.heap.objs.size,[s.heap.objs.size,p],[s.heap.objs.size],c.toArray.size,_,_,λi=>(a[i]?).getD true,rfl,Walks.list (A:=X.A.in1) (I.ok.hd w) _ p (aai d) c.toArray,
  ⟨⟨_,Heap.get?_push_size _ rfl,rfl,rfl⟩,f.isList.push _⟩,λi v z L D x k=>?_,λy J n=>?_⟩
 ·obtain⟨b,e,rfl⟩:=j.get i v (by simpa using x);simp only[e,Option.getD_some]at k;exact wpAny_truthy_bool k
 ·have e:((List.range c.toArray.size).all λi=>(a[i]?).getD true)=a.all id:=by rw[aam,j.length];exact LSm.range_all a
  rw[e];exact⟨.bl (a.all id),H,I.kept (LSm.kept_iter n),rfl,q⟩
def Gw(K:Waa)(H:Hp)(x:V)(n:String):Prop:=TyOf K H x (.type n)
end
end
section
mutual
inductive Dt (K:Waa)(H:Hp):V->PyData->Prop
 |non:Dt K H .non .none
 |bl (b:Bool):Dt K H (.bl b) (.bool b)
 |int (i:Int):Dt K H (.int i) (.int i)
 |str (x:Str):Dt K H (.str x) (.str x)
 |lst {a xs ds}:SqL K H a xs->DtAll K H xs ds->Dt K H (.ref a) (.list ds)
 |tup {a xs ds}:SqT K H a xs->DtAll K H xs ds->Dt K H (.ref a) (.tuple ds)
inductive DtAll (K:Waa)(H:Hp):List V->List PyData->Prop
 |nil:DtAll K H [] []
 |cons {x d xs ds}:Dt K H x d->DtAll K H xs ds->DtAll K H (x::xs) (d::ds)
end
theorem DtAll.length{K:Waa}(h:DtAll K H xs ds):xs.length=ds.length:=by
 induction xs generalizing ds with
 |nil=>cases h;rfl
 |cons v b a=>cases h with|cons _ t=>rw[aav,aav,a t]
theorem DtAll.get{K:Waa}{i:Nat}(h:DtAll K H xs ds)(e:ds[i]?=some d):∃x,xs[i]?=some x/\Dt K H x d:=by
 induction xs generalizing ds i with
 |nil=>cases h;cases i<;>cases e
 |cons v b a=>
  cases h with
  |cons r t=>
   cases i with
   |zero=>cases e;exact⟨_,rfl,r⟩
   |succ i=>exact a t e
theorem DtAll.append{K:Waa}(h:DtAll K H xs ds)(h':DtAll K H ys es):DtAll K H (xs++ys) (ds++es):=by
 induction xs generalizing ds with
 |nil=>cases h;exact h'
 |cons v b a=>cases h with|cons r t=>exact .cons r (a t)
theorem DtAll.ints{K:Waa}:∀(ns:List Int),DtAll K H (ns.map V.int) (ns.map PyData.int)
 |[]=>.nil
 |n::ns=>.cons (.int n) (DtAll.ints ns)
theorem Same.tupS{K:Waa}{H b:Hp}(e:Same H b)(h:SqT K H a xs):SqT K b a xs:=by
 rcases h with (h|⟨o,h⟩)|h
 ·exact .inl (.inl (e _ _ h))
 ·exact .inl (.inr ⟨o,e _ _ h⟩)
 ·exact .inr h
theorem Dt.ind{K:Waa}{P:V->PyData->Prop}{Q:List V->List PyData->Prop}(e:P .non .none)(l:∀b,P (.bl b) (.bool b))(c:∀i,P (.int i) (.int i))(g:∀x,P (.str x) (.str x))
  (f:∀{a xs ds},SqL K H a xs->Q xs ds->P (.ref a) (.list ds)) (k:∀{a xs ds},SqT K H a xs->Q xs ds->P (.ref a) (.tuple ds)) (nil:Q [] []) (cons:∀{x d xs ds},P x d->Q xs ds->Q (x::xs) (d::ds)):
  (∀{v d},Dt K H v d->P v d)/\∀{vs ds},DtAll K H vs ds->Q vs ds:=
 ⟨λh=>Dt.rec e l c g (λh _ i=>f h i) (λh _ i=>k h i) nil (λ_ _ i j=>cons i j) h,
  λh=>DtAll.rec e l c g (λh _ i=>f h i) (λh _ i=>k h i) nil (λ_ _ i j=>cons i j) h⟩
theorem Dt.z0{K:Waa}{H a:Hp}(s:Same H a):(∀{x:V}{d:PyData},Dt K H x d->Dt K a x d)/\∀{xs:List V}{ds:List PyData},DtAll K H xs ds->DtAll K a xs ds:=
 Dt.ind .non .bl .int .str (λh t=>.lst (s.seq h) t) (λh t=>.tup (s.tupS h) t) .nil (λr t=>.cons r t)
theorem Dt.mono{K:Waa}(s:Same H H')(h:Dt K H x d):Dt K H' x d:=(Dt.z0 s).1 h
theorem DtAll.mono{K:Waa}(s:Same H H')(h:DtAll K H xs ds):DtAll K H' xs ds:=(Dt.z0 s).2 h
section
variable{X:Cx}{pins:List (Addr×Obj)}{σ:St}{H:Hp}{s:Shared}
theorem Dt.ub(I:Inv X pins σ H s):(∀{x:V}{d:PyData},Dt X.K H x d->∀{u:Value},RelV x u->∃c,Reads s.heap u d c)/\∀{xs:List V}{ds:List PyData},DtAll X.K H xs ds->∀{us:List Value},Vals xs us->∃c,ReadsAll s.heap us ds c:=by
 refine Dt.ind (P:=λx d=>∀{u:Value},RelV x u->∃c,Reads s.heap u d c) ?_ ?_ ?_ ?_ ?_ ?_ ?_ ?_
 ·intro u r;cases r;exact⟨_,.none⟩
 ·intro b u r;cases r;exact⟨_,.bool b⟩
 ·intro i u r;obtain⟨t,rfl⟩:=r;exact⟨_,.int i t⟩
 ·intro x u r;obtain⟨t,rfl⟩:=r;exact⟨_,.str x t⟩
 ·intro a xs ds h i u r;cases r;obtain⟨f,g,⟨o,n,e,l,_,k⟩,_⟩:=I.list h;obtain⟨c,q⟩:=i g;exact⟨_,.list e l k (by simpa using q)⟩
 ·intro a xs ds h i u r;cases r;obtain⟨f,g,⟨o,e,l,n,k⟩,_⟩:=I.tuple h;obtain⟨c,q⟩:=i g;exact⟨_,.tuple e l k (by simpa using q)⟩
 ·intro us r;cases r;exact⟨_,.nil⟩
 ·intro x d xs ds i j us r;cases r with
  |cons m v=>obtain⟨c,q⟩:=i m;obtain⟨w,p⟩:=j v;exact⟨_,.cons q p⟩
theorem Dt.reads(I:Inv X pins σ H s)(h:Dt X.K H x d)(r:RelV x u):∃a,Reads s.heap u d a:=(Dt.ub I).1 h r
theorem DtAll.reads(I:Inv X pins σ H s)(h:DtAll X.K H xs ds)(r:Vals xs us):∃a,ReadsAll s.heap us ds a:=(Dt.ub I).2 h r
end
section
variable{X:Cx}
def z5(K:Waa):R2:=λx y H Q=>∃a b,Dt K H x a/\Dt K H y b/\SeqAt.shaped a=true/\SeqAt.shaped b=true/\Q (.bl (PyData.eqv a b)) H
def z6(K:Waa):R2:=λx y H Q=>∃a b,Dt K H x a/\Dt K H y b/\SeqAt.shaped a=true/\SeqAt.shaped b=true/\Q (.bl (!PyData.eqv a b)) H
theorem xj(i:X.A.units+64<cLine):OpR X (compareOp .Eq) (z5 X.K):=by intro a s m H x y v u Q I b f h;obtain⟨n,l,g,d,j,k,q⟩:=h;obtain⟨p,c⟩:=g.reads I b;obtain⟨o,e⟩:=d.reads I f;exact eq_dataH c e j k i ⟨.bl _,H,I,rfl,q⟩
theorem xk(i:X.A.units+64<cLine):OpR X (compareOp .NotEq) (z6 X.K):=by intro a s m H x y v u Q I b f h;obtain⟨n,l,g,d,j,k,q⟩:=h;obtain⟨p,c⟩:=g.reads I b;obtain⟨o,e⟩:=d.reads I f;exact ne_dataH c e j k i ⟨.bl _,H,I,rfl,q⟩
theorem kit_same(K:Waa)(T:String):PySem.W.kitOne K (.type T) (.type T)=some true:=by unfold PySem.W.kitOne;rw[if_pos (by simp)]
theorem kit_lt(K:Waa):PySem.W.kitOne K (.type "list") (.type "tuple")=some false:=by kernel_rfl
theorem kit_tl(K:Waa):PySem.W.kitOne K (.type "tuple") (.type "list")=some false:=by kernel_rfl
theorem kit_bi(K:Waa):PySem.W.kitOne K (.type "bool") (.type "int")=some true:=by kernel_rfl
theorem kit_ib(K:Waa):PySem.W.kitOne K (.type "int") (.type "bool")=some false:=by kernel_rfl
theorem kit_il(K:Waa):PySem.W.kitOne K (.type "int") (.type "list")=some false:=by kernel_rfl
theorem kit_it(K:Waa):PySem.W.kitOne K (.type "int") (.type "tuple")=some false:=by kernel_rfl
theorem kit_is(K:Waa):PySem.W.kitOne K (.type "int") (.type "str")=some false:=by kernel_rfl
theorem kit_sl(K:Waa):PySem.W.kitOne K (.type "str") (.type "list")=some false:=by kernel_rfl
theorem kit_st(K:Waa):PySem.W.kitOne K (.type "str") (.type "tuple")=some false:=by kernel_rfl
theorem kit_si(K:Waa):PySem.W.kitOne K (.type "str") (.type "int")=some false:=by kernel_rfl
theorem kit_sb(K:Waa):PySem.W.kitOne K (.type "str") (.type "bool")=some false:=by kernel_rfl
theorem kit_bl(K:Waa):PySem.W.kitOne K (.type "bool") (.type "list")=some false:=by kernel_rfl
theorem kit_bt(K:Waa):PySem.W.kitOne K (.type "bool") (.type "tuple")=some false:=by kernel_rfl
theorem kit_bs(K:Waa):PySem.W.kitOne K (.type "bool") (.type "str")=some false:=by kernel_rfl
theorem kit_nl(K:Waa):PySem.W.kitOne K (.type "NoneType") (.type "list")=some false:=by kernel_rfl
theorem kit_nt(K:Waa):PySem.W.kitOne K (.type "NoneType") (.type "tuple")=some false:=by kernel_rfl
theorem kit_ns(K:Waa):PySem.W.kitOne K (.type "NoneType") (.type "str")=some false:=by kernel_rfl
theorem kit_ni(K:Waa):PySem.W.kitOne K (.type "NoneType") (.type "int")=some false:=by kernel_rfl
theorem kit_nb(K:Waa):PySem.W.kitOne K (.type "NoneType") (.type "bool")=some false:=by kernel_rfl
theorem kit_li(K:Waa):PySem.W.kitOne K (.type "list") (.type "int")=some false:=by kernel_rfl
theorem kit_ti(K:Waa):PySem.W.kitOne K (.type "tuple") (.type "int")=some false:=by kernel_rfl
theorem kit_ls(K:Waa):PySem.W.kitOne K (.type "list") (.type "str")=some false:=by kernel_rfl
theorem kit_ts(K:Waa):PySem.W.kitOne K (.type "tuple") (.type "str")=some false:=by kernel_rfl
theorem kit_lb(K:Waa):PySem.W.kitOne K (.type "list") (.type "bool")=some false:=by kernel_rfl
theorem kit_tb(K:Waa):PySem.W.kitOne K (.type "tuple") (.type "bool")=some false:=by kernel_rfl
inductive Ty (K:Waa)(H:Hp):V->String->Prop
 |non:Ty K H .non "NoneType"
 |bl (b:Bool):Ty K H (.bl b) "bool"
 |int (i:Int):Ty K H (.int i) "int"
 |str (x:Str):Ty K H (.str x) "str"
 |lst {a xs}:SqL K H a xs->Ty K H (.ref a) "list"
 |tup {a xs}:SqT K H a xs->Ty K H (.ref a) "tuple"
theorem Ty.kitx(I:Inv X pins σ H s)(f:Ty X.K H x n)(a:RelV x u):
  ∃Z:Heap->Prop,PySem.W.KitX X.K u (.type n) Z/\Z s.heap/\u≠.builtin "__main__.__loader__#opaque":=by
 cases f with
 |non=>cases a;exact⟨_,PySem.W.kitx_none,trivial,λz=>nomatch z⟩
 |bl b=>cases a;exact⟨_,PySem.W.kitx_bool,trivial,λz=>nomatch z⟩
 |int i=>obtain⟨t,rfl⟩:=a;exact⟨_,PySem.W.kitx_int,trivial,λz=>nomatch z⟩
 |str x=>obtain⟨t,rfl⟩:=a;exact⟨_,PySem.W.kitx_str,trivial,λz=>nomatch z⟩
 |lst h=>cases a;obtain⟨c,_,⟨o,n,e,d,_⟩,_⟩:=I.list h;exact⟨_,PySem.W.kitx_list,⟨o,e,d⟩,λz=>nomatch z⟩
 |tup h=>cases a;obtain⟨c,_,⟨o,e,d,_⟩,_⟩:=I.tuple h;exact⟨_,PySem.W.kitx_tuple,⟨o,e,d⟩,λz=>nomatch z⟩
theorem pI(T:String):CallR X (.builtin "isinstance") (λxs H Q=>∃x n b,xs=[x,.ty T]/\Ty X.K H x n/\PySem.W.kitOne X.K (.type n) (.type T)=some b/\Q (.bl b) H):=by
 intro a s j H xs k Q I r h;obtain⟨x,n,b,rfl,f,e,q⟩:=h;obtain⟨u,v,rfl,c,g⟩:=r.two;cases g;obtain⟨Z,i,z,d⟩:=f.kitx I c;exact PySem.W.kia_one i I.xc z e d λl=>⟨.bl b,H,I.tok _,rfl,q⟩
theorem nK(S T:String):CallR X (.builtin "isinstance") (λxs H Q=>∃x n b p,xs=[x,.ref p]/\H p=some (.tup [.ty S,.ty T])/\Ty X.K H x n/\PySem.W.kitAny X.K (.type n) [.type S,.type T]=some b/\Q (.bl b) H):=by
 intro f s J H xs M Q I r h;obtain⟨x,n,b,p,rfl,k,l,e,q⟩:=h;obtain⟨u,v,rfl,g,y⟩:=r.two;cases y;obtain⟨Z,A,z,j⟩:=l.kitx I g;obtain⟨_,m,B,⟨⟨c,L,w,N⟩,o,d,C,a⟩⟩:=I.hok p _ k;obtain⟨D,G,rfl,i,t⟩:=B.two;cases i;cases t;replace d:c=.type "tuple":=d;replace a:w=.seq [Value.type S,Value.type T].toArray C:=a.1;subst d a;exact PySem.W.kia_tup A I.xc z o e j λO=>⟨.bl b,H,I.tok _,rfl,q⟩
theorem fR(K:Waa)(a:PySem.W.kitOne K (.type n) (.type S)=some true\/(PySem.W.kitOne K (.type n) (.type S)=some false/\PySem.W.kitOne K (.type n) (.type T)=some true)):
  PySem.W.kitAny K (.type n) [.type S,.type T]=some true:=by
 rcases a with h|⟨h,b⟩
 ·simp[PySem.W.kitAny,h]
 ·simp[PySem.W.kitAny,h,b]
theorem cR(K:Waa)(h:PySem.W.kitOne K (.type n) (.type S)=some false)(h':PySem.W.kitOne K (.type n) (.type T)=some false):
  PySem.W.kitAny K (.type n) [.type S,.type T]=some false:=by
 simp[PySem.W.kitAny,h,h']
end
end
section
section
variable{X:Cx}{pos:Pos}
def z7(i j k:Nat)(b:TA):TS:=λD a H=>b a H λd c=>∃v w u,d=[v,w,u]/\D.nx (((a.set i (some v)).set j (some w)).set k (some u)) c
theorem sY{G O f}(hc:X.calm=true)(B:X.N.Nodup)(hi:X.N[i]?=some x)(hj:X.N[j]?=some y)(hk:X.N[k]?=some z)(L:i≠j)(J:i≠k)(M:j≠k)
  (U:X.env.scope.names.lookup x=some .local) (hy:X.env.scope.names.lookup y=some .local) (hz:X.env.scope.names.lookup z=some .local) (ha:PA X [a,b,c] ta)
  (hw:swappedStores [.Tuple [.Name x px,.Name y py,.Name z pz] G pt] (.Tuple [a,b,c] O f) X.env=pure (some [x,y,z]))
  (hs:swapsWithSole [.Tuple [.Name x px,.Name y py,.Name z pz] G pt] (.Tuple [a,b,c] O f) pos.line X.env=pure false:=by rfl):
  PS X (.Assign [.Tuple [.Name x px,.Name y py,.Name z pz] G pt] (.Tuple [a,b,c] O f) pos) (z7 i j k ta):=by
 intro d s r H D I h;rw[exec_Assign_arm];refine wpAny_bind (wpAny_standAt ?_);rw[hs];refine wpAny_bind (wpAny_pure ?_);rw[if_neg (by decide)];refine wpAny_bind (Tuple_ (thn (ha _ d s r H _ I h) λus n ⟨vs,Z,I1,r1,C⟩=>?_));obtain⟨v,w,u,e1,C⟩:=C;subst e1;obtain⟨g,l,m,rfl,rv,Q,ru⟩:∃g l m,us=[g,l,m]/\RelV v g/\RelV w l/\RelV u m:=by
  cases r1 with
  |cons p q=>
   cases q with
   |cons p' q'=>
    cases q' with
    |cons T t=>cases t;exact⟨_,_,_,rfl,p,p',T⟩
 refine wpAny_newObj_type ?_ (by show 3<=sizeLine;decide);have I2:Inv X d r Z { n with heap:=n.heap.push { cls:=.type "tuple",data:=.seq [g,l,m].toArray } }:=I1.kept λb o e=>Heap.get?_push_of_some _ e;rw[hw];refine wpAny_bind (wpAny_pure ?_);show wpAny (model X.prog X.w) X.A (do rule "assign.swapped-stores";let items <-unpackItems (.ref n.heap.objs.size) 3 none;assignInOrder [λv=>bindName X.env z v,λv=>bindName X.env y v,λv=>bindName X.env x v] items.reverse;pure Flow.next) _ _ _;refine wpAny_bind (wpAny_rule (wpAny_bind (unpackItems_tuple (items:=#[g,l,m]) (I.ok.hd hc) (IsTup.new n.heap _) λh' S=>?_)));have I3:=I2.kept (t':=n.toks) λb o e=>S b o (aai (Heap.lt_size e)) e;show wpAny _ _ (assignInOrder [λv=>bindName X.env z v,λv=>bindName X.env y v,λv=>bindName X.env x v] [m,l,g] >>= λ_=>pure Flow.next) _ _ _;refine wpAny_bind (assignInOrder_cons (wpAny_bindName (br I3 B hk (.inl hz) ru (λs2 I4=>?_) (.inr hz))));refine assignInOrder_cons (wpAny_bindName (br I4 B hj (.inl hy) Q (λs3 I5=>?_) (.inr hy)));refine assignInOrder_cons (wpAny_bindName (br I5 B hi (.inl U) rv (λs4 Y=>assignInOrder_nil (wpAny_pure ?_)) (.inr U)));have e:((r.set k (some u)).set j (some w)).set i (some v)=((r.set i (some v)).set j (some w)).set k (some u):=by rw[abn _ _ (aaz L),abn _ _ (aaz J),abn _ _ (aaz M)]
 rw[e]at Y;exact⟨_,Z,Y,C⟩
end
def Keep(S:List Addr)(H a:Hp):Prop:=∀b o,H b=some o->b ∉ S->a b=some o
theorem Keep.refl(S:List Addr)(H:Hp):Keep S H H:=λ_ _ h _=>h
theorem Keep.trans(a:Keep S H H1)(b:Keep S H1 H2):Keep S H H2:=λc o h n=>b c o (a c o h n) n
theorem Keep.new(a:Keep S H H1)(n:H1 p=none):Keep S H (upd H1 p o):=λc u h m=>by have q:=a c u h m;rw[upd_ne (ah q n)];exact q
theorem Keep.put(a:Keep S H H1)(n:p∈S\/H p=none):Keep S H (upd H1 p o):=λc u h m=>by
 have b:c≠p:=λe=>by
  subst e;rcases n with n|n
  ·exact m n
  ·rw[n]at h;cases h
 rw[upd_ne b];exact a c u h m
theorem Keep.at(a:Keep S H H')(h:H b=some o)(n:b ∉ S):H' b=some o:=a b o h n
theorem Keep.same(a:Keep [] H H'):Same H H':=λb o h=>a b o h (by simp)
theorem Keep.sub(a:Keep S H H')(h:∀b∈S,b∈T):Keep T H H':=λb o e n=>a b o e λz=>n (h b z)
theorem Keep.free(e:Keep S H H')(h:H' l=none)(n:l ∉ S):H l=none:=by
 cases q:H l with
 |none=>rfl
 |some o=>rw[e l o q n]at h;cases h
end
section
theorem xl:bootBuiltins "len"=some (.builtin "len"):=by decide +kernel
theorem xm:bootBuiltins "abs"=some (.builtin "abs"):=by decide +kernel
theorem xn:bootBuiltins "max"=some (.builtin "max"):=by decide +kernel
theorem xo:bootBuiltins "min"=some (.builtin "min"):=by decide +kernel
theorem xp:bootBuiltins "all"=some (.builtin "all"):=by decide +kernel
theorem cY:bootBuiltins "isinstance"=some (.builtin "isinstance"):=by decide +kernel
theorem pJ:bootBuiltins "int"=some (.type "int"):=by decide +kernel
theorem sZ:bootBuiltins "bool"=some (.type "bool"):=by decide +kernel
theorem xq:bootBuiltins "str"=some (.type "str"):=by decide +kernel
theorem lN:bootBuiltins "list"=some (.type "list"):=by decide +kernel
theorem fS:bootBuiltins "tuple"=some (.type "tuple"):=by decide +kernel
def Cn:Scope:={ kind:=.function,names:=[],isGenerator:=false,isCoroutine:=false }
def az:Nat->Expr->List Scope
 |0,_=>[]
 |n+1,e=>match e with
  |.ListComp elt gs sc _=>sc::(match gs with|g::_=>az n g.iter|[]=>[])++az n elt
  |.DictComp k v gs sc _=>sc::(match gs with|g::_=>az n g.iter|[]=>[])++az n k++az n v
  |.SetComp elt gs sc _=>sc::(match gs with|g::_=>az n g.iter|[]=>[])++az n elt
  |.Call f as _ _=>az n f++as.flatMap (az n)
  |.BoolOp _ as _=>as.flatMap (az n)
  |.BinOp a _ b _=>az n a++az n b
  |.UnaryOp _ a _=>az n a
  |.Compare a _ bs _=>az n a++bs.flatMap (az n)
  |.IfExp a b c _=>az n a++az n b++az n c
  |.Attribute a _ _=>az n a
  |.Subscript a b _=>az n a++az n b
  |.List as _=>as.flatMap (az n)
  |.Tuple as _ _=>as.flatMap (az n)
  |_=>[]
def fU:Nat->Stmt->List Scope
 |0,_=>[]
 |n+1,s=>match s with
  |.FunctionDef _ _ b _ _ _ _ _ _ _=>b.flatMap (fU n)
  |.Return (some e) _=>az n e
  |.Expr e _=>az n e
  |.Assign _ e _=>az n e
  |.If c a b _=>az n c++a.flatMap (fU n)++b.flatMap (fU n)
  |.While c a _ _=>az n c++a.flatMap (fU n)
  |.For _ i a _ _=>az n i++a.flatMap (fU n)
  |_=>[]
structure CompOk (N:List Str)(nt:Nat)(fr:List Nat)(ON:List Str)(sc osc:Scope):Prop where
 sc:CompScope N nt fr ON sc osc
 nd:N.Nodup
def EV(N:List Str)(nt:Nat)(fr:List Nat)(b:List Str)(sc a:Scope):Bool:=(List.range fr.length).all λi=>match N[nt+i]?,(fr[i]?).bind (b[·]?) with
 |some x,some y=>x==y&&a.names.lookup x==some .cell&&sc.names.lookup x==some .free
 |_,_=>false
section
variable{H:Hp}{Q:VK}{K:Waa}{x y v:V}{i j:Int}{p l:Addr}{xs:List V}
theorem iF(h:n<=1000000):n<=sizeLine:=aat h (by decide)
end
end
section
section
variable{X:Cx}
def EW(c:TA):TE:=λd H Q=>c d H λb a=>∃j:Int,b=[.int j]/\0<=j/\j<=100000/\∀l,a l=none->Q (.ref l) (upd a l (.lst ((rangeInts 0 1 j.toNat).map V.int)))
end
end
section
section
variable{κ:Type}[DecidableEq κ]
def valV(a:List (κ×V))(k:κ):Option V:=(a.find? λb=>decide (b.1=k)).map (·.2)
def putK(a:List (κ×V))(k:κ)(v:V):List (κ×V):=
 if (a.any λb=>decide (b.1=k))=true then a.map (λb=>if b.1=k then (b.1,v) else b) else a++[(k,v)]
def jA(a:List (κ×V))(k:κ):List (κ×V):=a.filter λb=>decide (b.1≠k)
theorem cB{k:κ}(e:p.1=k):valV (p::r) k=some p.2:=by simp[valV,aaY,e]
theorem fV{k:κ}(e:¬ p.1=k):valV (p::r) k=valV r k:=by simp[valV,aaY,e]
theorem jB(k:κ):∀a:List (κ×V),(a.any λb=>decide (b.1=k))=(valV a k).isSome
 |[]=>rfl
 |p::r=>by
  rw[aaU];by_cases e:p.1=k
  ·simp only[cB e,Dac e,Bool.true_or,Option.isSome_some]
  ·rw[fV e,Dab e,Bool.false_or];exact jB k r
theorem cC(a:List (κ×V))(k:κ)(v:V):(putK a k v).length<=a.length+1:=by
 unfold putK;split
 ·rw[aag];omega
 ·rw[aaw,aav,List.length_nil];omega
theorem RelO.dw(r:RelO o u):o.isSome=u.isSome:=by
 cases o with
 |none=>cases u with
  |none=>rfl
  |some _=>exact(show False from r).elim
 |some _=>cases u with
  |none=>exact(show False from r).elim
  |some _=>rfl
theorem RelO.getD(r:RelO o u)(a:RelV d d'):RelV (o.getD d) (u.getD d'):=by
 cases o with
 |none=>cases u with
  |none=>exact a
  |some _=>exact(show False from r).elim
 |some _=>cases u with
  |none=>exact(show False from r).elim
  |some _=>exact r
theorem KV.val(r:KV kvs vs)(k:κ):RelO (valV kvs k) (valueAt vs k):=by
 unfold KV at r;induction r with
 |nil=>exact True.intro
 |@cons p q ps qs h t ih=>
  obtain⟨c,d⟩:=h;by_cases e:p.1=k
  ·have a:q.1=k:=c.symm.trans e;have b:valueAt (q::qs) k=some q.2:=by simp[valueAt,aaY,a]
   rw[cB e,b];exact d
  ·have a:¬ q.1=k:=λz=>e (c.trans z);have b:valueAt (q::qs) k=valueAt qs k:=by simp[valueAt,aaY,a]
   rw[fV e,b];exact ih
theorem KV.any{vs:List (κ×Value)}(r:KV kvs vs)(k:κ):(kvs.any λa=>decide (a.1=k))=vs.any λa=>decide (a.1=k):=by
 unfold KV at r;induction r with
 |nil=>rfl
 |cons h t b=>rw[aaU,aaU,b,h.1]
theorem KV.repl(r:KV kvs vs)(k:κ)(d:RelV y u):
  KV (kvs.map λa=>if a.1=k then (a.1,y) else a) (vs.map λa=>if a.1=k then (a.1,u) else a):=by
 unfold KV at r ⊢;induction r with
 |nil=>exact .nil
 |@cons p q ps qs h t ih=>
  rw[aan,aan];refine .cons ?_ ih;obtain⟨b,c⟩:=h;by_cases e:p.1=k
  ·rw[if_pos e,if_pos (b.symm.trans e)];exact⟨b,d⟩
  ·rw[if_neg e,if_neg (λz=>e (b.trans z))];exact⟨b,c⟩
theorem KV.put(r:KV kvs vs)(k:κ)(a:RelV y u):KV (putK kvs k y) (stored vs k u):=by
 unfold putK stored;rw[r.any k];by_cases e:(vs.any λb=>decide (b.1=k))=true
 ·rw[if_pos e,if_pos e];exact r.repl k a
 ·rw[if_neg e,if_neg e];exact Paired.snoc r ⟨rfl,a⟩
theorem KV.drop(r:KV kvs vs)(k:κ):KV (jA kvs k) (without vs k):=by
 unfold KV at r ⊢;unfold jA without;induction r with
 |nil=>exact .nil
 |@cons p q ps qs h t ih=>
  obtain⟨c,f⟩:=h;rw[List.filter_cons,List.filter_cons];by_cases e:p.1=k
  ·have a:¬ decide (p.1≠k)=true:=by simp[e]
   have b:¬ decide (q.1≠k)=true:=by simp[c.symm.trans e]
   rw[if_neg a,if_neg b];exact ih
  ·have d:¬ q.1=k:=λz=>e (c.trans z);have a:decide (p.1≠k)=true:=by simp[e]
   have b:decide (q.1≠k)=true:=by simp[d]
   rw[if_pos a,if_pos b];exact .cons ⟨c,f⟩ ih
theorem KV.keys{vs:List (κ×Value)}(r:KV kvs vs):kvs.map (·.1)=vs.map (·.1):=by
 unfold KV at r;induction r with
 |nil=>rfl
 |cons h t a=>rw[aan,aan,a,h.1]
theorem KV.length{vs:List (κ×Value)}(r:KV kvs vs):kvs.length=vs.length:=Paired.length r
end
theorem fW(r:RelV (kV k) u):(aB P w).is k u=true:=by
 cases k with
 |inl i=>obtain⟨t,e⟩:=(show ∃t,u=Value.int i t from r);subst e;exact jo P w i t
 |inr x=>obtain⟨t,e⟩:=(show ∃t,u=Value.str x t from r);subst e;exact mixKind_str P w x t
theorem g9:∀{ks:List Key}{us:List Value},Vals (ks.map kV) us->ItemsAre (aB P w) ks us
 |[],_,r=>by rw[aaQ]at r;cases r;exact .nil
 |k::ks,_,r=>by
  rw[aan]at r;cases r with
  |cons h t=>exact .cons (fW h) (g9 t)
abbrev KT(H:Hp):List (List Key×V)->List (List Key×Addr×Value)->Prop:=Paired λp q=>p.1=q.1/\H q.2.1=some (.tup (p.1.map kV))/\RelV p.2 q.2.2
theorem KT.val(r:KT H kvs xs)(k:List Key):RelO (valV kvs k) ((atKey xs k).map (·.2)):=by
 induction r with
 |nil=>exact True.intro
 |@cons p q ps qs h t ih=>
  obtain⟨c,_,d⟩:=h;by_cases e:p.1=k
  ·have a:q.1=k:=c.symm.trans e;have b:atKey (q::qs) k=some q.2:=by simp[atKey,aaY,a]
   rw[cB e,b];exact d
  ·have a:¬ q.1=k:=λz=>e (c.trans z);have b:atKey (q::qs) k=atKey qs k:=by simp[atKey,aaY,a]
   rw[fV e,b];exact ih
theorem KT.repl(r:KT H kvs xs)(k:List Key)(f:RelV y u):
  KT H (kvs.map λb=>if b.1=k then (b.1,y) else b) (xs.map (putAt k u)):=by
 induction r with
 |nil=>exact .nil
 |@cons p q ps qs h t ih=>
  rw[aan,aan];refine .cons ?_ ih;obtain⟨a,c,d⟩:=h;unfold putAt;by_cases e:p.1=k
  ·rw[if_pos e,if_pos (a.symm.trans e)];exact⟨a,c,f⟩
  ·rw[if_neg e,if_neg (λz=>e (a.trans z))];exact⟨a,c,d⟩
theorem KT.put(r:KT H kvs xs)(k:List Key)(c:H b=some (.tup (k.map kV)))(a:RelV y u):
  KT H (putK kvs k y) (storedH xs k b u):=by
 have e:(kvs.any λd=>decide (d.1=k))=(atKey xs k).isSome:=by rw[jB,(r.val k).dw,abK]
 unfold putK storedH;rw[e];by_cases q:(atKey xs k).isSome=true
 ·rw[if_pos q,if_pos q];exact r.repl k a
 ·rw[if_neg q,if_neg q];exact Paired.snoc r ⟨rfl,c,a⟩
theorem KT.keeps(r:KT H kvs xs)(a:∀b ys,H b=some (.tup ys)->H' b=some (.tup ys)):KT H' kvs xs:=
 Paired.mapP r λ_ _ z=>⟨z.1,a _ _ z.2.1,z.2.2⟩
section
variable{P:Program}{w:World}{H:Hp}{h:Heap}{a:Addr}
theorem vo(b:HOk P w H h)(e:Rd H a u):ObjOk P w H h a u:=e.ok b
theorem fX(b:HOk P w H h)(e:Rd H a (.dK kvs)):kvs.length<=sizeLine/\(a==sysModules)=false/\∃vs,KV kvs vs/\h.DictOf (aB P w) a vs:=
 show ObjOk P w H h a (.dK kvs) from vo b e
theorem vp(b:HOk P w H h)(e:H a=some (.dK kvs)):kvs.length<=sizeLine/\(a==sysModules)=false/\∃vs,KV kvs vs/\h.DictOf (aB P w) a vs:=fX b (.inl e)
theorem eE(g:HOk P w H h)(e:H a=some (.tup (ks.map kV))):(tupleKind (aB P w)).is h ks a:=by
 obtain⟨_,b,r,o,d,f,n,c⟩:=(show ObjOk P w H h a (.tup (ks.map kV)) from g a _ e)
 exact⟨o,b.toArray,n,d,f,c.1,by simpa using g9 r⟩
theorem fY(d:HOk P w H h)(e:Rd H a (.dT kvs)):kvs.length<=sizeLine/\(a==sysModules)=false /\
  ∃xs,KT H kvs xs/\h.DictOfH (tupleKind (aB P w)) a xs:=by
 obtain⟨z,y,xs,r,o,i,g,k,f,j,s,n⟩:=(show ObjOk P w H h a (.dT kvs) from vo d e)
 refine⟨z,y,xs,r,o,i,g,k,f,j,s,λx b=>?_,n⟩;have c:∀{l:List (List Key×V)}{m:List (List Key×Addr×Value)},KT H l m->∀x∈m,(tupleKind (aB P w)).is h x.1 x.2.1:=by
  intro l m q;induction q with
  |nil=>intro x b;exact nomatch b
  |@cons p q ps qs hq t ih=>
   intro x b;rcases aaa.mp b with e|b
   ·subst e;exact eE d (by rw[<-hq.1];exact hq.2.1)
   ·exact ih x b
 exact c r x b
theorem z8(b:HOk P w H h)(e:H a=some (.dT kvs)):kvs.length<=sizeLine/\(a==sysModules)=false /\
  ∃xs,KT H kvs xs/\h.DictOfH (tupleKind (aB P w)) a xs:=fY b (.inl e)
end
def DGet(H:Hp)(a:Addr)(y:V)(r:Option V):Prop:=
 (∃c k,Rd H a (.dK c)/\y=kV k/\r=valV c k)\/∃c k b,Rd H a (.dT c)/\y=.ref b/\H b=some (.tup (k.map kV))/\r=valV c k
def DPut(H:Hp)(a:Addr)(y v:V)(d:Hp):Prop:=
 (∃c k,H a=some (.dK c)/\y=kV k/\c.length<sizeLine/\d=upd H a (.dK (putK c k v))) \/
 ∃c k b,H a=some (.dT c)/\y=.ref b/\H b=some (.tup (k.map kV))/\c.length<sizeLine/\d=upd H a (.dT (putK c k v))
theorem DGet.k{H:Hp}{a:Addr}{b:List (Key×V)}{k:Key}(e:H a=some (.dK b)):DGet H a (kV k) (valV b k):=.inl ⟨b,k,.inl e,rfl,rfl⟩
theorem DGet.t{H:Hp}{a b:Addr}{c:List (List Key×V)}{k:List Key}(e:H a=some (.dT c))(d:H b=some (.tup (k.map kV))):DGet H a (.ref b) (valV c k):=.inr ⟨c,k,b,.inl e,rfl,d,rfl⟩
theorem DPut.k{H:Hp}{a:Addr}{b:List (Key×V)}{k:Key}{v:V}(e:H a=some (.dK b))(c:b.length<sizeLine):DPut H a (kV k) v (upd H a (.dK (putK b k v))):=.inl ⟨b,k,e,rfl,c,rfl⟩
theorem DPut.t{H:Hp}{a b:Addr}{c:List (List Key×V)}{k:List Key}{v:V}(e:H a=some (.dT c))(f:H b=some (.tup (k.map kV)))(d:c.length<sizeLine):
  DPut H a (.ref b) v (upd H a (.dT (putK c k v))):=.inr ⟨c,k,b,e,rfl,f,d,rfl⟩
section
variable{X:Cx}{pins:List (Addr×Obj)}{σ:St}{H:Hp}{s:Shared}{a:Addr}{y v:V}{u r:Value}{o:Option V}{A:Around}{E:Value->Shared->Prop}
theorem Inv.big(I:Inv X pins σ H s):sysModules<s.heap.objs.size:=by have h:mainGlobals<s.heap.objs.size:=(I.mod.glob.keeps I.bk).lt;exact aba (by decide) h
theorem nL(D:A.units+1<cLine)(I:Inv X pins σ H s)(g:DGet H a y (some v))(x:RelV y u)(h:∀f t,Inv X pins σ H t->RelV v f->Q f t):
  wpAny (model X.prog X.w) A (getItem (.ref a) u) Q E s:=by
 rcases g with ⟨j,k,e,q,l⟩|⟨j,k,b,e,q,B,l⟩
 ·subst q;obtain⟨z,G,L,c,m⟩:=fX I.hok e;obtain⟨f,n,d⟩:=RelO.some_of (by rw[l];exact c.val k);exact wpAny_getItem_of (fW x) m.mapOf n (h f _ (I.tok _) d)
 ·subst q;cases (show u=Value.ref b from x);obtain⟨z,G,J,c,m⟩:=fY I.hok e;obtain⟨f,n,d⟩:=RelO.some_of (by rw[l];exact c.val k);obtain⟨p,C,i⟩:=aaJ.mp n;refine wpAny_getItem_heap (tupleKind_room_in1 D) (eE I.hok B) m C ?_;rw[i];exact h f _ (I.tok _) d
theorem Dp(t:A.units+1<cLine)(I:Inv X pins σ H s)(g:DGet H a y o)(n:RelV y u)(h:∀m,Inv X pins σ H m->Q (.bool o.isSome) m):
  wpAny (model X.prog X.w) A (compareOp .In u (.ref a)) Q E s:=by
 rcases g with ⟨d,k,e,j,l⟩|⟨d,k,b,e,j,p,l⟩
 ·subst j;obtain⟨z,i,B,c,f⟩:=fX I.hok e;refine wpAny_in_of (fW n) i f.mapOf ?_;rw[<-(c.val k).dw,<-l];exact h _ (I.tok _)
 ·subst j;cases (show u=Value.ref b from n);obtain⟨z,i,x,c,f⟩:=fY I.hok e;refine wpAny_in_heap (tupleKind_room_in1 t) (eE I.hok p) i f ?_;have q:=(c.val k).dw;rw[abK]at q;rw[<-q,<-l];exact h _ (I.tok _)
theorem tf(t:A.units+1<cLine)(I:Inv X pins σ H s)(g:DGet H a y o)(n:RelV y u)(h:∀m,Inv X pins σ H m->Q (.bool (!o.isSome)) m):
  wpAny (model X.prog X.w) A (compareOp .NotIn u (.ref a)) Q E s:=by
 rcases g with ⟨d,k,e,j,l⟩|⟨d,k,b,e,j,p,l⟩
 ·subst j;obtain⟨z,i,B,c,f⟩:=fX I.hok e;refine wpAny_notIn_of (fW n) i f.mapOf ?_;rw[<-(c.val k).dw,<-l];exact h _ (I.tok _)
 ·subst j;cases (show u=Value.ref b from n);obtain⟨z,i,x,c,f⟩:=fY I.hok e;refine wpAny_notIn_heap (tupleKind_room_in1 t) (eE I.hok p) i f ?_;have q:=(c.val k).dw;rw[abK]at q;rw[<-q,<-l];exact h _ (I.tok _)
theorem iG{t':Nat}(I:Inv X pins σ H s)(d:zl (H a))(f:Heap.SameBut a s.heap h')(e:∃q,h'.get? a=some q)(c:ObjOk X.prog X.w (upd H a ob) h' a ob):
  Inv X pins σ (upd H a ob) { s with heap:=h',toks:=t' }:=
 I.write d (.inl rfl) (λb q g z=>(f.2 b g).trans z) e c
theorem pK(z:kvs.length<=sizeLine)(c:(a==sysModules)=false)(b:KV kvs vs)(dd:h'.DictOf (aB P w) a vs):
  ObjOk P w H' h' a (.dK kvs):=⟨z,c,vs,b,dd⟩
theorem nM(hu:A.units+1<cLine)(I:Inv X pins σ H s)(g:DPut H a y v H')(L:RelV y u)(M:RelV v r)(h:∀J,Inv X pins σ H' J->Q () J):
  wpAny (model X.prog X.w) A (setItem (.ref a) u r) Q E s:=by
 rcases g with ⟨d,k,e,B,l,n⟩|⟨d,k,b,e,B,G,l,n⟩
 ·subst B n;obtain⟨z,t,vs,f,p⟩:=vp I.hok e;have Y:vs.length<=sizeLine:=by rw[<-f.length];exact z
  have m:(putK d k v).length<=sizeLine:=by have:=cC d k v;omega
  refine wpAny_setItem_pairs (fW L) p λC i x=>h _ ?_;have he:∃q,C.get? a=some q:=let ⟨q,_,_,j,_⟩:=i;⟨q,j⟩
  exact iG I (by rw[e];exact True.intro) x he (pK m t (f.put k M) i)
 ·subst B n;cases (show u=Value.ref b from L);obtain⟨z,t,U,f,p⟩:=z8 I.hok e;have Y:U.length<=sizeLine:=by rw[<-Paired.length f];exact z
  have m:(putK d k v).length<=sizeLine:=by have:=cC d k v;omega
  refine wpAny_setItem_heap (tupleKind_room_in1 hu) (eE I.hok G) p λC i x=>h _ ?_;obtain⟨q,S,O,j,N,T,h4,_,Z⟩:=i;refine iG I (by rw[e];exact True.intro) x ⟨q,j⟩ ⟨m,t,_,(f.put k G M).keeps λc ys D=>?_,q,S,O,j,N,T,h4,Z⟩;rw[upd_ne (zj D e (λz=>nomatch z))];exact D
end
def NoSl(i:Expr):Prop:=∀a b,subscripted i false a b=operate [a,b] (getItem a b)
theorem subD_of{T l:String}
  (k:typeLookup (.type T) "__getitem__"=pure (some (.builtin l))) (m:NoSl slice)
  (h:wpAny (model prog w) A (eval value env) (λo c=>wpAny (model prog w) A (eval slice env) (λi a=>a.TypeIs o T/\wpAny (model prog w) A (getItem o i) Q E a) E c) E s):
  wpAny (model prog w) A (eval (.Subscript value slice pos) env) Q E s:=by
 refine Subscript_ (wpAny_mono h (λo c g=>wpAny_mono g (λi a b=>?_) λ_ _ x=>x) λ_ _ x=>x);obtain⟨j,b⟩:=b;unfold subscriptTail;refine wpAny_bind ?_;rw[getitemInPython_of_ne j.not_modules];refine wpAny_bind (wpAny_specialOf j k ?_);have e:wpAny (model prog w) A (subscripted slice false o i) (λr d=>wpAny (model prog w) A (letTemporaryGo value o r >>= λ_=>pure r) Q E d) E a:=by rw[m o i];exact wpAny_operating (wpAny_mono b (λr d f=>wpAny_bind (wpAny_letTemporaryGo (wpAny_pure f))) λ_ _ x=>x)
 first
  |exact wpAny_pure (wpAny_bind e)
  |exact wpAny_bind (wpAny_pure (wpAny_bind e))
  |exact wpAny_bind e
theorem jC(I:Inv X pins σ H s)(g:DGet H a y o):s.TypeIs (.ref a) "dict":=by
 rcases g with ⟨d,k,e,_,_⟩|⟨d,k,b,e,_,_,_⟩
 ·obtain⟨_,_,h,_,c⟩:=fX I.hok e;exact c.typeIs
 ·obtain⟨_,_,f,_,c⟩:=fY I.hok e;exact c.typeIs
def z9(e d:TE):TE:=λc H Q=>e c H λx f=>d c f λy b=>∃a v,x=.ref a/\DGet b a y (some v)/\Q v b
def Aa(d e:TE):TE:=λc H Q=>d c H λy f=>e c f λx b=>∃a o,x=.ref a/\DGet b a y o/\Q (.bl o.isSome) b
def lO(d e:TE):TE:=λc H Q=>d c H λy f=>e c f λx b=>∃a o,x=.ref a/\DGet b a y o/\Q (.bl (!o.isSome)) b
def Ab(g f e:TE):TS:=λD b H=>e b H λv i=>g b i λx d=>f b d λy h=>∃a c,x=.ref a/\DPut h a y v c/\D.nx b c
def EX(i f e:TE)(l:V->V->Hp->VK->Prop):TS:=λD b H=>i b H λx k=>f b k λy c=>∃a v,x=.ref a/\DGet c a y (some v) /\
 e b c λg j=>l v g j λz h=>∃d,DPut h a y z d/\D.nx b d
def EY(f e:TE):TS:=λD c H=>f c H λx g=>e c g λy d=>∃a b k,x=.ref a/\d a=some (.dK b)/\y=kV k/\(valV b k).isSome=true/\D.nx c (upd d a (.dK (jA b k)))
section
variable{X:Cx}{o i e value:Expr}{pos pos' tpos:Pos}{td ty tv:TE}
theorem tj(z:X.A.units+1<cLine)(q:PE X o td)(hi:PE X i ty)(C:NoSl i):PE X (.Subscript o i pos) (z9 td ty):=by intro b s f H Q I h;refine subD_of PySem.F.slot_dict_getitem.lookup C (thn (q b s f H _ I h) λu n ⟨x,p,l,k,m⟩=>thn (hi b n f p _ l m) λL M r=>?_);obtain⟨y,j,d,w,a,v,B,g,D⟩:=r;subst B;obtain rfl:u=Value.ref a:=k;exact⟨jC d g,nL z d g w λG J t c=>⟨v,j,t,c,D⟩⟩
theorem pL(v:X.A.units+1<cLine)(hi:PE X i ty)(p:PE X o td):PC X .In i o (Aa ty td):=by
 intro b s c H Q I h;refine thn (hi b s c H _ I h) λD m ⟨y,n,k,t,l⟩=>thn (p b m c n _ k l) λu G q=>?_;obtain⟨x,d,f,j,a,z,w,g,B⟩:=q;subst w;obtain rfl:u=Value.ref a:=j;exact Dp v f g t λC r=>⟨.bl z.isSome,d,r,rfl,B⟩
theorem hG(v:X.A.units+1<cLine)(hi:PE X i ty)(p:PE X o td):PC X .NotIn i o (lO ty td):=by
 intro b s c H Q I h;refine thn (hi b s c H _ I h) λD m ⟨y,n,k,t,l⟩=>thn (p b m c n _ k l) λu G q=>?_;obtain⟨x,d,f,j,a,z,w,g,B⟩:=q;subst w;obtain rfl:u=Value.ref a:=j;exact tf v f g t λC r=>⟨.bl (!z.isSome),d,r,rfl,B⟩
theorem tm(C:X.A.units+1<cLine)(p:PE X o td)(hi:PE X i ty)(Q:PE X value tv)(J:swapsWith value (some (.Subscript o i pos')) pos.line X.env=pure false):
  PS X (.Assign [.Subscript o i pos'] value pos) (Ab td ty tv):=by
 intro b s c H D I h;refine wpAny_Assign_Subscript (thn (Q b s c H _ I h) λr m ⟨v,n,k,B,l⟩=>thn (p b m c n _ k l) λu M ⟨x,d,f,j,O⟩=>thn (hi b M c d _ f O) λT S q=>?_) J;obtain⟨y,Y,t,z,a,N,G,g,w⟩:=q;subst G;obtain rfl:u=Value.ref a:=j;exact nM C t g z B λU L=>⟨c,N,L,w⟩
end
theorem pM(h:Heap)(a:sysModules<h.objs.size):ObjOk P w H (h.push { cls:=.type "dict",data:=.dict #[] }) h.objs.size (.dK []):=
 ⟨aaE _,beq_eq_false_iff_ne.mpr (aaz (aai a)),[],.nil,Heap.DictOf.new h⟩
def Dq:TE:=λ_ H Q=>∀p,H p=none->Q (.ref p) (upd H p (.dK []))
def Dr:TE:=λ_ H Q=>∀p,H p=none->Q (.ref p) (upd H p (.dT []))
def kF:List (TE×TE)->St->Hp->(List (V×V)->Hp->Prop)->Prop
 |[],_,H,Q=>Q [] H
 | (tk,tv)::r,σ,H,Q=>tk σ H λx d=>tv σ d λy a=>kF r σ a λb c=>Q ((x,y)::b) c
abbrev VV:List (V×V)->List (Value×Value)->Prop:=Paired λp q=>RelV p.1 q.1/\RelV p.2 q.2
def Gx(X:Cx)(e:Pos)(c:List (Option Expr))(a:List Expr)(d:List (TE×TE)):Prop:=
 ∀(b:List (Addr×Obj)) (s:Shared) (f:St) (H:Hp) (Q:List (V×V)->Hp->Prop),Inv X b f H s->kF d f H Q ->
  wpAny (model X.prog X.w) X.A (evalPairs (pairTrees c a X.env e)) (λj i=>∃g h,Inv X b f h i/\VV g j/\Q g h) X.xe s
def xr(c a:List (Key×V)):List (Key×V):=a.foldl (λb d=>putK b d.1 d.2) c
def EZ(b:List (TE×TE)):TE:=λf H Q=>∀p,H p=none->kF b f (upd H p (.dK [])) λe c=>c p=some (.dK [])/\∃a:List (Key×V),e=a.map (λd=>(kV d.1,d.2))/\a.length<=15/\Q (.ref p) (upd c p (.dK (xr [] a)))
structure M1 (X:Cx)(o:Expr)(m:Str)(apos:Pos)(e:Expr)(cpos:Pos):Prop where
 base:attributeBase o m X.env (eval o X.env)=eval o X.env
 few:((backTo cpos (starEach [e] X.env)).all (λx=>!x.1)&&(backToKw cpos (keywordEach [] X.env)).all (λx=>x.1.isSome)
  && decide (([e]:List Expr).length+([]:List Keyword).length+(if ([]:List Keyword).isEmpty then 0 else 1)<30))=true
 line:(apos.endLine==cpos.line)=true
 trees:backTo cpos (starEach [e] X.env)=[(false,eval e X.env)]
structure M2 (X:Cx)(o:Expr)(m:Str)(apos:Pos)(e f:Expr)(cpos:Pos):Prop where
 base:attributeBase o m X.env (eval o X.env)=eval o X.env
 few:((backTo cpos (starEach [e,f] X.env)).all (λx=>!x.1)&&(backToKw cpos (keywordEach [] X.env)).all (λx=>x.1.isSome)
  && decide (([e,f]:List Expr).length+([]:List Keyword).length+(if ([]:List Keyword).isEmpty then 0 else 1)<30))=true
 line:(apos.endLine==cpos.line)=true
 trees:backTo cpos (starEach [e,f] X.env)=[(false,eval e X.env),(false,eval f X.env)]
def Ac(H:Hp)(a:Addr):Prop:=(∃b,Rd H a (.dK b))\/∃b,Rd H a (.dT b)
theorem xu(I:Inv X pins σ H s)(d:Ac H a):
  s.TypeIs (.ref a) "dict"/\(∀b,Value.ref a=.ref b->∃c,s.heap.get? b=some c/\c.dict=none)/\(a==sysModules)=false:=by
 rcases d with ⟨g,e⟩|⟨g,e⟩
 ·obtain⟨_,j,l,_,f⟩:=fX I.hok e;refine⟨f.typeIs,λb q=>?_,j⟩;cases q;obtain⟨c,_,_,h,i,_⟩:=f;exact⟨c,h,i.2.1⟩
 ·obtain⟨_,j,k,_,f⟩:=fY I.hok e;refine⟨f.typeIs,λb q=>?_,j⟩;cases q;obtain⟨c,_,_,h,i,_⟩:=f;exact⟨c,h,i.2.1⟩
section
variable{X:Cx}{pins:List (Addr×Obj)}{σ:St}{H:Hp}{s:Shared}{a:Addr}{y d:V}{u r:Value}{o:Option V}{A:Around}{E:Value->Shared->Prop}
theorem xw(x:A.units+1<cLine)(I:Inv X pins σ H s)(g:DGet H a y o)(q:RelV y u)(h:∀n p,Inv X pins σ H p->RelV (o.getD .non) n->Q n p):
  wpAny (model X.prog X.w) A (call (.builtin "dict.get") [.ref a,u]) Q E s:=by
 rcases g with ⟨i,k,e,m,l⟩|⟨i,k,b,e,m,t,l⟩
 ·subst m;obtain⟨z,j,B,c,f⟩:=fX I.hok e;refine call_meetsIn abL f.typeIs ab9 (aca _ _) (meets_dict_get (aB X.prog X.w) a (fW q) j) ⟨_,f.mapOf,h _ _ (I.tok _) ?_⟩;rw[l];exact(c.val k).getD rfl
 ·subst m;cases (show u=Value.ref b from q);obtain⟨z,j,v,c,f⟩:=fY I.hok e;refine call_meetsIn abL f.typeIs ab9 (aca _ _) (meetsH_dict_get (tupleKind (aB X.prog X.w)) a b j) ⟨tupleKind_room_in1 x,k,v,eE I.hok t,f,h _ _ (I.tok _) ?_⟩;rw[l];exact(c.val k).getD rfl
end
def xx(f e:TE):TE:=λd H Q=>f d H λx c=>∃a,x=.ref a/\Ac c a/\e d c λy b=>∃o,DGet b a y o/\Q (o.getD .non) b
def Ds(g f h:TE):TE:=λb H Q=>g b H λx d=>∃a,x=.ref a/\Ac d a/\f b d λy e=>h b e λz c=>∃o,DGet c a y o/\Q (o.getD z) c
def Du(g f:TE):TE:=λe H Q=>g e H λx d=>∃a,x=.ref a/\Ac d a/\f e d λy c=>∃b k v,c a=some (.dK b)/\y=kV k/\valV b k=some v/\Q v (upd c a (.dK (jA b k)))
def Dv(i g h:TE):TE:=λd H Q=>i d H λx e=>∃a,x=.ref a/\Ac e a/\g d e λy f=>h d f λz c=>∃b k,c a=some (.dK b)/\y=kV k /\
 (∀v,valV b k=some v->Q v (upd c a (.dK (jA b k))))/\(valV b k=none->Q z c)
section
variable{X:Cx}{o e f:Expr}{apos cpos:Pos}{td ty tx:TE}
theorem pN(D:X.A.units+1<cLine) (t:PE X o td) (J:PE X e ty) (m:M1 X o "get" apos e cpos):PE X (.Call (.Attribute o "get" apos) [e] [] cpos) (xx td ty):=by
 intro b s j H Q I h;refine wpAny_Call_method m.base m.few m.line PySem.F.plainAttrs_dict abL PySem.F.type_dict_get (thn (t b s j H _ I h) λu q v=>?_);obtain⟨x,r,i,n,a,G,d,p⟩:=v;subst G;obtain rfl:u=Value.ref a:=n;obtain⟨B,C,_⟩:=xu i d;refine⟨B,C,?_⟩;rw[m.trees];refine Calls.callWith_builtin rfl (Calls.evalArgs_plain (Calls.spliced_cons (thn (J b q j r _ i p) λO T ⟨y,k,l,z,S,g,L⟩=>Calls.spliced_nil ?_)));exact xw D l g z λM N w c=>⟨_,k,w,c,L⟩
end
end
end L2
namespace L2
open PySem PySem.Spec PyProof.Rows
section
def Cp(K:Waa)(l:Addr):It:=
 ⟨λi H=>∃a x,SqL K H l a/\a[i]?=some x,
  λi H v b=>∃T x,(∀a,SqL K H l a->a[i]?=some x)/\H T=none/\v=.ref T/\b=upd H T (.tup [.int i,x]),
  λi H=>∃a,SqL K H l a/\a.length<=i⟩
theorem nN{P:Program}{w:World}{K:Waa}{es:List Expr}{x1}{a0:Pos}(l e it:Addr)(D:e≠it):
  Turn P w K (.Tuple es x1 a0) (Cp K l) [e,it] e (λi h=>(∃g,IsEnum h e it (i:Int) g)/\h.IsListIter it l i) where
 mem:=by simp
 obj:=λi h ⟨⟨g,y⟩,A⟩ c a=>by
  simp only[aaa,aau,or_false]at a;rcases a with rfl|rfl
  ·exact⟨_,y,λv z=>by cases z⟩
  ·obtain⟨o,e,c,d⟩:=A;exact⟨o,e,λv z=>by rw[d]at z;cases z⟩
 keep:=λi h Q ⟨⟨g,y⟩,A⟩ k=>⟨⟨g,k e (by simp) _ y⟩,A.at λo e=>k it (by simp) o e⟩
 item:=by
  intro X hP Z hK a i j s σ H E I B ⟨⟨g,y⟩,A⟩ U;subst hP Z hK;obtain⟨xs,x,N,S⟩:=U;obtain⟨T,rv,p,hz⟩:=I.list N;obtain⟨u,hu,ru⟩:=rv.get S;have le:e<s.heap.objs.size:=Heap.lt_size y;have li:it<s.heap.objs.size:=by obtain⟨o,e',_⟩:=id A;exact Heap.lt_size e'
  refine wpAny_pyNext_enum_item y A p.isList (x:=u) (by simpa using hu) D λQ Y L hT a2 hk=>?_;refine⟨.ref s.heap.objs.size,rfl,?_⟩;refine wpAny_letOwnedTupleGo_enum Y λt G f=>?_;have f:Heap.SameBut e Q t:=f;have J:∀c o,c ∉ ([e,it]:List Addr)->s.heap.get? c=some o->t.get? c=some o:=λc o a q=>by simp only[aaa,aau,or_false,not_or]at a;exact f.extBut _ _ a.1 (hk c o a.1 a.2 q)
  have C:H s.heap.objs.size=none:=I.hok.fresh (aac _);have I1:Inv X j σ H { s with heap:=t,toks:=s.toks+1 }:=I.h8 J B;have M:IsPair t s.heap.objs.size (.int i s.toks) u:=f.extBut _ _ (aaI le) hT;have I2:Inv X j σ (upd H s.heap.objs.size (.tup [.int i,x])) { s with heap:=t,toks:=s.toks+1 }:=by
   refine I.step (g':=s.gens) (d':=s.drawn) (ch:=[e,it]) (λb O=>?_) (λb o _ _ a e _=>J b o a e) (λb o _ _ a e _=>⟨o.slots,J b o a e⟩) (λb o a e n=>?_)
    (λb o a e=>⟨o,J b o a e⟩) (λb ys e=>?_) (λb o u e=>?_) (λb ps e=>⟨#[],?_⟩) (λm hm=>?_) (λb o e=>?_) I.bare
   ·obtain⟨f0,f1,f2,f3,f4,f5⟩:=B b O;exact⟨f3,f1,f4,f5⟩
   ·rw[upd_ne (aai (Heap.lt_size e))];exact n
   ·rw[upd_ne (ah e C)];exact e
   ·rw[upd_ne (ah e C)];exact e
   ·rw[upd_ne (ah e C),e];simp
   ·obtain⟨o,a1,ep,ho,r⟩:=hm;exact⟨o,a1,ep,J _ o (λz=>(B _ z).2.1 rfl) ho,r⟩
   ·by_cases O:b=s.heap.objs.size
    ·subst O;rw[av]at e;cases e;exact⟨(by show 2<=sizeLine;decide),[.int i s.toks,u],.cons ⟨_,rfl⟩ (.cons ru .nil),⟨_,M,rfl,_,rfl,rfl⟩⟩
    ·rw[upd_ne O]at e;refine(I1.hok b o e).kv (λc v a q=>q) (λc q=>by rw[upd_ne (ah q C)];exact q) λc ys q=>by rw[upd_ne (ah q C)];exact q
  refine⟨.ref s.heap.objs.size,_,I2,rfl,⟨_,x,λys hy=>by rw[I.pa hy N];exact S,C,rfl,rfl⟩,⟨⟨u,by simpa using G⟩,L.at λo q=>f.extBut _ _ (aaz D) q⟩,λc a=>?_⟩;simp only[aaa,aau,or_false]at a;rcases a with rfl|rfl
  ·rw[upd_ne (aai le)];exact(B _ (by simp)).1
  ·rw[upd_ne (aai li)];exact(B _ (by simp)).1
 done:=by
  intro X hP Z hK a i j s σ H E I B ⟨⟨g,y⟩,A⟩ U;subst hP Z hK;obtain⟨xs,N,S⟩:=U;obtain⟨T,rv,p,hz⟩:=I.list N;have hl:=rv.length;refine wpAny_pyNext_enum_end (I.ok.hd a) y A p.isList (by simp;omega) λQ eb=>⟨rfl,I.h8 (t':=s.toks) (λc o a q=>?_) B⟩
  simp only[aaa,aau,or_false,not_or]at a;exact eb c o a.2 q
 self:=λ_ _ _ _ _ ⟨⟨g,y⟩,_⟩ h=>wpAny_pyIter_enum y h
theorem nO:bootBuiltins "enumerate"=some (.type "enumerate"):=by decide +kernel
section
variable{X:Cx}
def Ad(K:Waa)(d:TA):TI:=λc H R=>d c H λe a=>∃l b,e=[.ref l]/\SqL K a l b/\R (Cp K l) a
theorem tq{es:List Expr}{z}{i:Pos}{a:Expr}{p f:Pos} (J:Gl X "enumerate") (N:X.mg "enumerate"=none) (M:PA X [a] ta) (L:starEach [a] X.env=[(false,eval a X.env)]:=by rfl):
  PI X (.Tuple es z i) (.Call (.Name "enumerate" p) [a] [] f) (Ad X.K ta):=by
 intro c s n H R I h;refine Call_ (cy I J N nO (aa7 (thn (M f c s n H _ I h) λY d B=>?_) L rfl));obtain⟨U,m,j,x,y⟩:=B;obtain⟨l,Q,e,O,q⟩:=y;subst e;cases x with
 |cons r G=>
  cases G;cases r;obtain⟨A,T,D,S⟩:=j.list O;refine call_enumerate_list D.isList λu t k w C=>?_;refine wpAny_pyIter_enum t ?_;have v:Inv X c n m { d with heap:=u }:=j.kept C;refine⟨d.heap.objs.size+1,[d.heap.objs.size+1,d.heap.objs.size],_,_,m,rfl,v,nN l _ _ (by show (_:Nat)≠_;omega),⟨⟨_,t⟩,k⟩,λb o=>?_,q⟩;have g:d.heap.objs.size<=b:=by
   simp only[aaa,aau,or_false]at o;rcases o with rfl|rfl
   ·show d.heap.objs.size<=d.heap.objs.size+1;omega
   ·exact aac _
  exact j.q7 g (j.hok.fresh g)
end
end
section
section
variable{X:Cx}
def rInsert:V->List V->Hp->VK->Prop:=λx b H Q=>∃l a k y,x=.ref l/\b=[.int k,y]/\H l=some (.lst a)/\0<=k/\k<=a.length/\a.length<100000/\Q .non (upd H l (.lst (a.take k.toNat++y::a.drop k.toNat)))
theorem nP:Di X "list.insert" rInsert:=by
 intro c s p H x D v G Q I f j h;obtain⟨l,t,k,y,rfl,rfl,d,o,A,B,q⟩:=h;cases f;obtain⟨C,u,rfl,⟨m,rfl⟩,i⟩:=j.two;obtain⟨z,a,n,r,w,e⟩:=I.ri d;have b:=r.length;have g:100000<=sizeLine:=by decide
 refine call_meets F.slot_list_insert ⟨_,e,rfl⟩ F.entry_list_insert (F.args_list_insert_3 _ _ _) (AutoListH.list_insert_list_int_val_1 l a.toArray n k m u (by unfold Builtin.List.listFitsIndex;simp;omega) (by rw[aam];omega)) ⟨e,?_⟩;refine⟨.non,_,I.wj d e ?_ ((r.take _).append (.cons i (r.drop _))) ?_,rfl,q⟩
 ·show (a.toArray.extract 0 (if k<0 then (k+(a.toArray.size:Int)).toNat else min k.toNat a.toArray.size)).push u++a.toArray.extract (if k<0 then (k+(a.toArray.size:Int)).toNat else min k.toNat a.toArray.size)=_;rw[if_neg (by omega),aam,Nat.min_eq_left (by omega)];apply Array.ext';simp[List.extract_eq_drop_take];exact List.take_of_length_le (by rw[aa8];exact aac _)
 ·rw[aaw,aav,aa0,aa8];omega
end
end
section
def Dw(lo c:Int)(n:Nat):It:=⟨λi _=>i<n,λi H x a=>a=H/\x=.int (lo+i*c),λi _=>n<=i⟩
theorem nQ{K:Waa}(it:Addr)(lo c:Int)(n:Nat):Turn P w K tg (Dw lo c n) [it] it (λi h=>IsRangeIter h it (lo+(i:Nat)*c) ((n:Int)-(i:Nat)) c) where
 mem:=by simp
 obj:=λi h a b f=>by
  have e:b=it:=by simpa using f
  subst e;exact⟨_,a,λv z=>by
   have L:Data.fields _=Data.cell v:=z;cases L⟩
 keep:=λi h l a k=>k it (by simp) _ a
 item:=by intro X C B r y i d s D H E I j a x;subst C B r;obtain⟨u,m,N,A,p,q⟩:=j it (by simp);have W:=Walks.range (prog:=X.prog) (w:=X.w) (I.ok.hd y) it lo c n;refine W.item i s _ _ x a λv l O Q g M=>?_;obtain⟨t,rfl⟩:=Q;have G:Inv X d D H { s with heap:=l,toks:=O }:=I.turned (λb o f e=>M b o (by simpa using f) e) u m A p q;exact⟨_,rfl,lE g rfl rfl (by decide) ⟨.int (lo+i*c),H,G,⟨t,rfl⟩,⟨rfl,rfl⟩,g,λb f=>(j b f).1⟩⟩
 done:=by
  intro X C B r y i d s D H E I j a x;subst C B r;obtain⟨u,m,N,A,p,q⟩:=j it (by simp);exact wpAny_pyNext_range_end (I.ok.hd y) a (by have:n<=i:=x;omega) λl J=>⟨rfl,I.turned (λb o f e=>J b o f e) u m A p q⟩
 self:=λ_ _ _ _ _ a h=>wpAny_pyIter_rangeiter a h
section
variable{X:Cx}{tg:Expr}
def Ae(d:TA):TI:=λb H R=>d b H λa e=>∃(i j c:Int) (n:Nat),a=[.int i,.int j,.int c]/\(-1000000<=i/\i<=1000000/\-1000000<=j/\j<=1000000/\0<c/\c<=1000)/\Builtin.Range.rangeSize i j c=(n:Int)/\R (Dw i c n) e
theorem kG(k:-1000000<=a)(l:a<=1000000)(g:-1000000<=b)(i:b<=1000000)(e:0<c)(f:c<=1000):Builtin.Range.small a b c=true:=by
 have d:0<=(if a<b then (b-a-1)/c+1 else 0)/\(if a<b then (b-a-1)/c+1 else 0)<=3000000:=by
  split
  ·have h:0<=(b-a-1)/c:=Int.ediv_nonneg (by omega) (by omega);have j:(b-a-1)/c<=b-a-1:=Int.ediv_le_self _ (by omega);omega
  ·omega
 have m:(if a<b then (b-a-1)/c+1 else 0)*c<=3000000000/\0<=(if a<b then (b-a-1)/c+1 else 0)*c:=by generalize (if a<b then (b-a-1)/c+1 else 0)=n at *;exact⟨abM (Int.mul_le_mul d.2 f (by omega) (by omega)) (by decide),Int.mul_nonneg d.1 (by omega)⟩
 unfold Builtin.Range.small;unfold Builtin.Range.rangeSize;rw[if_pos e];generalize (if a<b then (b-a-1)/c+1 else 0)=n at *;simp only[Builtin.Range.rangeFitsLong,aax,abc,decide_eq_true_eq,beq_iff_eq,if_pos e];omega
theorem nR{p m:Pos} (M:Gl X "range") (U:X.mg "range"=none) (Q:PA X [a,b,c] ta) (O:starEach [a,b,c] X.env=[(false,eval a X.env),(false,eval b X.env),(false,eval c X.env)]:=by rfl)
  (v:starEach [b,c] X.env=[(false,eval b X.env),(false,eval c X.env)]:=by rfl):
  PI X tg (.Call (.Name "range" p) [a,b,c] [] m) (Ae ta):=by
 intro f s z H R I h;refine Call_ (cy I M U boot_range (aa7 (thn (Q m f s z H _ I h) λus l ⟨vs,y,A,C,G⟩=>?_) (by rw[O,v]) (by rw[v];rfl)));obtain⟨i,j,k,n,e,⟨S,J,Z,Y,b5,L⟩,D,q⟩:=G;subst e;cases C with
 |cons r u=>
  cases u with
  |cons r' u=>
   cases u with
   |cons x u=>
    cases u;obtain⟨t,rfl⟩:=r;obtain⟨w,rfl⟩:=r';obtain⟨d,rfl⟩:=x;refine call_range_3 (by omega) ?_ (Or.inl (ab1 (by omega)));refine wpAny_pyIter_range (IsRange.new ..) (kG S J Z Y b5 L) ?_;have g:Inv X f z y { l with heap:=l.heap.push { cls:=.type "range",data:=.fields #[.int i t,.int j w,.int k d] },toks:=l.toks }:=A.kept λb o e=>Heap.get?_push_of_some _ e;refine⟨(l.heap.push { cls:=.type "range",data:=.fields #[.int i t,.int j w,.int k d] }).objs.size,[(l.heap.push { cls:=.type "range",data:=.fields #[.int i t,.int j w,.int k d] }).objs.size],_,_,y,rfl,
     g.kept λb o e=>Heap.get?_push_of_some _ e,nQ _ i k n,?_,λb T=>?_,q⟩
    ·have N:i+((0:Nat):Int)*k=i:=by simp
     have B:(n:Int)-((0:Nat):Int)=Builtin.Range.rangeSize i j k:=by rw[D];simp
     show IsRangeIter _ _ (i+((0:Nat):Int)*k) ((n:Int)-((0:Nat):Int)) k;rw[N,B];exact Heap.get?_push_size _ rfl
    ·have e:b=(l.heap.push { cls:=.type "range",data:=.fields #[.int i t,.int j w,.int k d] }).objs.size:=by simpa using T
     subst e;exact g.q7 (aac _) (g.hok.fresh (aac _))
end
end
section
def vq(w:World)(e:DictEntry)(a:Str×Str):Prop:=e.hash=hashStr w a.1/\(∃t,e.key=.str a.1 t)/\∃t,e.val=.str a.2 t
def KDict(K:Waa)(w:World)(c:Addr)(a:List (Str×Str)):Prop:=
 ∃o b d,K.lookup c=some o/\o.ExactDict/\o.data=.dict b d/\Paired (vq w) b.toList a/\(a.map (·.1)).Nodup/\(c==sysModules)=false
def keysOf(a:List (Str×Str)):List (Key×V):=a.map λb=>(.inr b.1,.str b.2)
theorem nS{c:List (Str×Str)}(h:(c.map (·.1)).Nodup):(c.map λd=>(.inr d.1:Key)).Nodup:=by unfold List.Nodup at *;rw[List.pairwise_map]at *;exact h.imp λ{a b} q z=>q (Sum.inr.inj z)
theorem KDict.dict{K:Waa}(D:KDict K w c kvs)(X:K.In h):∃vs,KV (keysOf kvs) vs/\h.DictOf (aB P w) c vs:=by
 obtain⟨o,v,H,z,s,G,x,q,_⟩:=D;have d:∀{l:List DictEntry}{m:List (Str×Str)},Paired (vq w) l m->∃vs:List (Key×Value),KV (keysOf m) vs/\Pairs (aB P w) l vs/\vs.map (·.1)=m.map (λb=>(.inr b.1:Key))/\∀e∈l,∃k,(aB P w).is k e.key=true/\e.hash=(aB P w).hash k:=by
  intro l m r;induction r with
  |nil=>exact⟨[],.nil,.nil,rfl,λe a=>by cases a⟩
  |@cons e b l m h t ih=>
   obtain⟨vs,f,j,i,g⟩:=ih;obtain⟨A,⟨C,u⟩,⟨p,y⟩⟩:=h;have n:(aB P w).is (.inr b.1) e.key=true:=by rw[u];exact mixKind_str P w b.1 C
   refine⟨(.inr b.1,.str b.2 p)::vs,.cons ⟨rfl,⟨p,rfl⟩⟩ f,.cons n y j,by rw[aan,aan,i],λB a=>?_⟩;rcases aaa.mp a with rfl|a
   ·exact⟨_,n,A⟩
   ·exact g B a
 obtain⟨vs,f,j,i,g⟩:=d x;refine⟨vs,f,o,v,H,X _ _ z,s,G,λe a=>g e (by simpa using a),j,?_⟩;rw[i];exact nS q
section
variable{X:Cx}{o i e:Expr}{pos:Pos}{ti:TE}{c:Addr}{kvs:List (Str×Str)}
def E1(kvs:List (Str×Str))(ti:TE):TE:=λb H Q=>ti b H λy a=>∃k v,y=.str k/\kvs.lookup k=some v/\Q (.str v) a
def FS(kvs:List (Str×Str))(ti:TE):TE:=λb H Q=>ti b H λy a=>∃k,y=.str k/\Q (.bl (kvs.lookup k).isSome) a
def E2(kvs:List (Str×Str))(ti:TE):TE:=λb H Q=>ti b H λy a=>∃k,y=.str k/\Q (.bl (!(kvs.lookup k).isSome)) a
def Fit(d:PyData)(n:Nat):Prop:=d.showable=true/\d.hasDict=false/\d.shown.length<=n
def E3(K:Waa):List V->Hp->VK->Prop:=λb H Q=>∃a d n,b=[.ref a]/\Dt K H (.ref a) d/\Fit d n/\n<=sizeLine/\d.depth<=40/\Q (.str d.shown) H
set_option exponentiation.threshold 2000 in
theorem Fit.le(h:Fit d n)(a:n<=m):Fit d m:=⟨h.1,h.2.1,aat h.2.2 a⟩
def Dx(K:Waa)(n:Nat)(t:TGs):TG:=λv d H Q=>∃a b,v=.ref a/\SqL K H a b/\b.length=n/\t b d H Q
theorem xy{k:Nat}(M:X.calm=true)(h:zd X es t)
  (w:(assignEach es X.env).length=n:=by rfl) (g:(assignEach es X.env).findIdx? (·.1)=none:=by rfl):PG X (.Tuple es k pos) (Dx X.K n t):=by
 intro d s l H v u Q I r j;obtain⟨a,A,D,J,B,j⟩:=j;subst D;cases r;obtain⟨f,m,⟨G,L,C,y,_,z⟩,O⟩:=I.list J;have N:s.heap.IsList a f.toArray:=⟨G,C,y,L,z⟩
 rw[assign_Tuple];refine wpAny_bind (wpAny_standAt ?_);unfold unpack;rw[show (assignEach es X.env).length=f.toArray.size by simp[w,<-B,m.length],g];refine wpAny_bind (wpAny_holding (PySem.W.kun_itemsOf (I.ok.hd M) N λp x=>?_));have q:Inv X d l H { s with heap:=p }:=I.kept λb o e=>x b o (aai (Heap.lt_size e)) e;exact h d _ l H A _ Q q (by simpa using m) j
end
end
section
theorem kH(I:Nat->Shared->Prop)
  (o:∀n s,I n s->wpAny (model prog w) A (pyNext it) (λr e=>match r with
   |none=>R (.ok .next) e
   |some v=>wpAny (model prog w) A (letOwnedTupleGo target it v) (λ_ a=>wpAny (model prog w) A (assign target env v) (λ_ a=>
     wpAny (model prog w) A (forIn ifs true λc r=>if r=true then do let u <-isTrue c env (eval c env);pure (ForInStep.yield u) else pure (ForInStep.yield r)) (λu f=>
      if u=true then wpAny (model prog w) A (eval kx env) (λy i=>wpAny (model prog w) A (eval vx env) (λz g=>
       wpAny (model prog w) A (dictSet D y z) (λ_ j=>∃m,m<n/\I m j) (λ_ _=>False) g) (λ_ _=>False) i) (λ_ _=>False) f
      else ∃m,m<n/\I m f) (λ_ _=>False) a) (λ_ _=>False) a) (λ_ _=>False) e) (λ_ _=>False) s)
  (n:Nat) (h:I n s):
  codeAny (model prog w) A (.compLoop (.DictComp kx vx [⟨target,iter,ifs,0⟩] scope pos) 0 it (.ref D) env) R s:=by
 refine codeAny_loop rfl I (λn s B=>?_) n h;show wpAny _ A ((compTurn (.DictComp kx vx [⟨target,iter,ifs,0⟩] scope pos) 0 it (.ref D) env).onRaise (λx=>do noteFrame x env;theTreesLotGoes x)) _ _ s;refine wpAny_noted ?_;rw[compTurn_dict];refine wpAny_bind (wpAny_standAt (wpAny_bind (wpAny_mono (o n s B) (λr e b=>?_) λ_ _ d=>d.elim)));cases r with
 |none=>exact wpAny_pure b
 |some v=>
  refine wpAny_bind (wpAny_mono b (λ_ a b=>?_) λ_ _ d=>d.elim);refine wpAny_bind (wpAny_mono b (λ_ a q=>wpAny_bind (wpAny_mono q (λu f k=>?_) λ_ _ d=>d.elim)) λ_ _ d=>d.elim);cases u with
  |false=>exact wpAny_pure ⟨rfl,k⟩
  |true=>exact wpAny_bind (wpAny_bind (wpAny_mono k (λy i p=>wpAny_bind (wpAny_holding (wpAny_mono p (λz g t=>wpAny_bind (wpAny_standAt (wpAny_holding (wpAny_mono t (λ_ j l=>wpAny_pure ⟨rfl,l⟩) λ_ _ d=>d.elim)))) λ_ _ d=>d.elim))) λ_ _ d=>d.elim))
section
variable{X:Cx}{tg kx vx iter:Expr}{ifs:List Expr}{scope:Scope}{pos:Pos}{N:List Str}{nt:Nat}{fr:List Nat}
theorem nT(I:Inv X pins σ H s)(w:∀b∈fp,FpOk X pins H b)
  (t:H D=none) (k:s.heap.objs.size<=D) (p:D<s3.heap.objs.size) (hk:∀b o,s.heap.get? b=some o->s3.heap.get? b=some o) (r:s3.os=s.os)
  (J:Inv (aR X N scope cl s3 (upd H D (.dK [])) fp pins) pins' σ' H1 s5) (l:Heap.SameBut s3.heap.objs.size s5.heap h'):
  Inv X pins σ H1 { s5 with heap:=h' }:=by
 have m:s.heap.objs.size<=s3.heap.objs.size:=aaO (abh k p);have f:∀b,b<s.heap.objs.size->b≠D/\b≠s3.heap.objs.size:=λb d=>⟨aai (aar d k),aai (aar d m)⟩
 have j:∀b,b≠D->(upd H D (.dK [])) b=H b:=λb d=>upd_ne d;refine I.za (ch:=fp) (J.os.trans r) ⟨λb o e n d g=>?_,λb o e n d g=>?_,λb o e n g=>?_,λb o e g=>?_,λb y e=>?_,λb o u e=>?_,λb A e=>?_⟩ ?_ J.bare λb d=>?_
 ·obtain⟨i,h⟩:=f b (Heap.lt_size e);exact(l.2 b h).trans (J.base.keep b o (hk b o e) ((j b i).trans n) d g)
 ·obtain⟨i,h⟩:=f b (Heap.lt_size e);obtain⟨L,q⟩:=J.base.slot b o (hk b o e) ((j b i).trans n) d g;exact⟨L,(l.2 b h).trans q⟩
 ·obtain⟨i,h⟩:=f b (Heap.lt_size e);exact J.base.free b o (hk b o e) ((j b i).trans n) g
 ·obtain⟨i,h⟩:=f b (Heap.lt_size e);obtain⟨G,q⟩:=J.base.there b o (hk b o e) g;exact⟨G,(l.2 b h).trans q⟩
 ·exact J.base.tups b y ((j b (ah e t)).trans e)
 ·exact J.base.frzs b o u ((j b (ah e t)).trans e)
 ·exact J.base.tbls b A ((j b (ah e t)).trans e)
 ·intro b u e;refine(J.hok b u e).kv (λc v M q=>(l.2 c ?_).trans q) (λ_ q=>q) λ_ _ q=>q;have a:H1 s3.heap.objs.size=none:=J.free;rintro rfl;rcases M with z|z
  ·rw[z]at a;rw[a]at e;cases e
  ·rw[a]at z;cases z
 ·obtain⟨S,x,Q,O,B,C⟩:=w b d;exact⟨O,x,B,C⟩
def vw(H:Hp)(a:Addr)(y v:V)(c:Hp):Prop:=∃b k,H a=some (.dK b)/\y=kV k/\b.length<sizeLine/\c=upd H a (.dK (putK b k v))
def tu(e d:TE):TC:=λD b H Q=>e b H λk f=>d b f λv c=>∃a,vw c D k v a/\Q a
def Dy(e:TT)(f d:TE):TC:=λD c H Q=>e c H λb a=>if b=true then tu f d D c a Q else Q a
def pO(k:TI)(nt:Nat)(fr:List Nat)(g:CC->TG)(l:CC->TC):TE:=λh H Q=>k h H λJ f=>∀(c:CC) D,f D=none->∃W:Nat->Nat->St->Hp->Prop,(∃m,W 0 m (a9 nt fr h) (upd f D (.dK []))) /\
 ∀i m b a,W i m b a->(J.stop i a/\Q (.ref D) a)\/(J.go i a/\∀x e,J.yld i a x e->g c x b e λd o=>l c D d o λn=>∃j,j<m/\W (i+1) j d n)
def pP(Y:Cx)(D:Addr)(ifs:List Expr)(kx vx:Expr)(j:TC):Prop:=
 ∀(a:List (Addr×Obj)) (s:Shared) (h:St) (H:Hp) (Q:Hp->Prop),Inv Y a h H s->j D h H Q ->
  wpAny (model Y.prog Y.w) Y.A (forIn ifs true λc r=>if r=true then do let i <-isTrue c Y.env (eval c Y.env);pure (ForInStep.yield i) else pure (ForInStep.yield r)) (λi b=>
   if i=true then wpAny (model Y.prog Y.w) Y.A (eval kx Y.env) (λk g=>wpAny (model Y.prog Y.w) Y.A (eval vx Y.env) (λl e=>
    wpAny (model Y.prog Y.w) Y.A (dictSet D k l) (λ_ f=>∃d,Inv Y a h d f/\Q d) Y.xe e) Y.xe g) Y.xe b
   else ∃d,Inv Y a h d b/\Q d) Y.xe s
theorem nU(L:A.units+1<cLine)(I:Inv X pins σ H s)(g:vw H a y v H')(n:RelV y u)(o:RelV v r)(h:∀f,Inv X pins σ H' f->Q () f):
  wpAny (model X.prog X.w) A (dictSet a u r) Q E s:=by
 obtain⟨b,k,e,G,l,m⟩:=g;subst G m;obtain⟨z,t,B,d,p⟩:=vp I.hok e;have J:B.length<=sizeLine:=by rw[<-d.length];exact z
 have j:(putK b k v).length<=sizeLine:=by have:=cC b k v;omega
 refine wpAny_dictSet_pairs (fW n) p λi c x=>h _ ?_;have C:∃q,i.get? a=some q:=let ⟨q,_,_,D,_⟩:=c;⟨q,D⟩
 exact iG I (by rw[e];exact True.intro) x C (pK j t (d.put k o) c)
theorem xA(o:Y.A.units+1<cLine)(hk:PE Y kx tk)(x:PE Y vx tv)(I:Inv Y pins σ H s)(h:tu tk tv D σ H Q):
  wpAny (model Y.prog Y.w) Y.A (eval kx Y.env) (λp a=>wpAny (model Y.prog Y.w) Y.A (eval vx Y.env) (λz c=>
    wpAny (model Y.prog Y.w) Y.A (dictSet D p z) (λ_ b=>∃d,Inv Y pins σ d b/\Q d) Y.xe c) Y.xe a) Y.xe s:=by
 refine thn (hk pins s σ H _ I h) λu j ⟨y,k,f,i,l⟩=>thn (x pins j σ k _ f l) λr G ⟨v,B,e,m,t,g,q⟩=>?_;exact nU o e g i m λC n=>⟨t,n,q⟩
theorem kI(b:Y.A.units+1<cLine)(hk:PE Y kx tk)(c:PE Y vx tv):pP Y D [] kx vx (tu tk tv):=by intro a s d H Q I h;refine wpAny_tests_nil ?_;rw[if_pos rfl];exact xA b hk c I h
theorem kJ{a3:Option (Value->Sem Unit)}{Q0:Value->Shared->Prop}(hc:X.calm=true)(S:CompScope N nt fr X.N scope X.env.scope)(hi:PI X tg iter wi)
  (hg:∀c:CC,PG (cQ X N scope c) tg (g c)) (ha:∀(c:CC) D,pP (cQ X N scope c) D ifs kx vx (tc c))
  (I:Inv X pins σ H s) (h:pO wi nt fr g tc σ H Q) (c4:∀x∈scope.names,x.2=.free->X.env.kindOf x.1=some .cell)
  (c3:∀(D C:Addr) (s5:Shared) (H1:Hp),FpOk X pins H1 C->s5.heap.get? C≠none->C≠X.env.locals->(∃m,s5.heap.Ns C m)->(∀h',Heap.SameBut C s5.heap h'->Inv X pins σ H1 { s5 with heap:=h' })->Q (.ref D) H1 ->
   compPost (model X.prog X.w) X.A X.xe a3 Q0 (.ref D) C (.ok .next) s5)
  (hs:∀x,foldedSetIterable iter X.env x=pure x:=by intro _;rfl):
  wpAny (model X.prog X.w) X.A (comprehension (.DictComp kx vx [⟨tg,iter,ifs,0⟩] scope pos) scope X.env (firstIterPos [⟨tg,iter,ifs,0⟩] pos) newDict false (eval iter X.env) a3) Q0 X.xe s:=by
 have a0:∀x∈scope.names,x.2=.free->∃c,X.env.cells.lookup x.1=some c:=λx hx hf=>I.ok.has x.1 (.inl (c4 x hx hf));obtain⟨B,d2,h1,h2⟩:=fO a0;refine wpAny_comprehension_free rfl hs d2 S.kind S.names (thn (hi pins s σ H _ I h) λxv s1 hx=>thn hx λd7 a c5=>?_);obtain⟨it,j,tn,J,l,rfl,I2,T,b6,f2,hW⟩:=c5;have a5:∀b∈j,b<a.heap.objs.size:=λb f=>let ⟨o,e,_⟩:=T.obj 0 _ b6 b f;Heap.lt_size e
 refine wpAny_newObj_type (wpAny_newFunctionEnv S.nocell (by intro y hy;simp at hy) (λO t v=>?_) S.kind) (by first|trivial|exact aaE _|decide);have hD:l a.heap.objs.size=none:=I2.hok.fresh (aac _);have I3:Inv X pins σ (upd l a.heap.objs.size (.dK [])) { a with heap:=a.heap.push { cls:=.type "dict",data:=.dict #[] } }:=I2.laid (λ_ _ q=>Heap.get?_push_of_some _ q) (aac _) (pM a.heap I2.big);generalize hs3:({ a with heap:=a.heap.push { cls:=.type "dict",data:=.dict #[] } }:Shared)=s3 at t v I3 ⊢;obtain⟨W,⟨m0,w0⟩,c0⟩:=hW ⟨B,s3,upd l a.heap.objs.size (.dK []),j,pins⟩ _ hD;have a7:∀b o,a.heap.get? b=some o->s3.heap.get? b=some o:=λb o e=>by rw[<-hs3];exact Heap.get?_push_of_some _ e
 have z3:s3.heap.objs.size=a.heap.objs.size+1:=by rw[<-hs3];exact Heap.size_push ..
 have c2:s3.os=a.os:=by rw[<-hs3]
 have f3:∀b∈j,FpOk X pins (upd l a.heap.objs.size (.dK [])) b:=λb f=>⟨by rw[upd_ne (aai (a5 b f))];exact(f2 b f).1,(f2 b f).2⟩
 have b8:∀b o,s3.heap.get? b=some o->O.get? b=some o:=λb o e=>v.extBut b o (aai (Heap.lt_size e)) (Heap.get?_push_of_some _ e);generalize hs4:({ s3 with heap:=O,toks:=s3.toks+([]:List (Str×Value)).length }:Shared)=s4;have a2:s4.heap=O:=by rw[<-hs4]
 have I4:Inv (aR X N scope B s3 (upd l a.heap.objs.size (.dK [])) j pins) [] (a9 nt fr σ) (upd l a.heap.objs.size (.dK [])) s4:=
  fP S I3 f3 (λb f=>by rw[z3];exact aaW (a5 b f)) h1 h2 (λb o e=>by rw[a2];exact b8 b o e) ⟨_,by rw[a2];exact t⟩ (by rw[<-hs4]) (by rw[<-hs4])
 have b0:tn 0 s4.heap:=T.keep 0 _ _ b6 λb f o e=>by rw[a2];exact b8 b o (a7 b o e)
 have a1:codeAny (model X.prog X.w) X.A (.compLoop (.DictComp kx vx [⟨tg,iter,ifs,0⟩] scope pos) 0 (.ref it) (.ref a.heap.objs.size) (compEnvC scope B s3.heap.objs.size X.env))
   (compPost (model X.prog X.w) X.A X.xe a3 Q0 (.ref a.heap.objs.size) s3.heap.objs.size) s4:=by
  have L:∀{k:Hp},(∀b∈j,k b=none)->∀b∈j,FpOk (aR X N scope B s3 (upd l a.heap.objs.size (.dK [])) j pins) [] k b:=λ{k} hn b f=>
   ⟨hn b f,aai (show b<s3.heap.objs.size by rw[z3];exact aaW (a5 b f)),λz=>I4.ok.exfs b f z,.inl f,λx c e=>(f2 b f).2.2.2.2.1 x c (h1 x c e),λp hp=>(f2 b f).2.2.2.2.2 p (by
    rcases aaj.mp hp with z|z
    ·exact z
    ·exact absurd z (by simp))⟩
  refine kH (λn s'=>∃i G k,Inv (aR X N scope B s3 (upd l a.heap.objs.size (.dK [])) j pins) [] G k s'/\tn i s'.heap/\(∀b∈j,k b=none)/\W i n G k) ?_ m0
   ⟨0,_,_,I4,b0,λb f=>(f3 b f).1,w0⟩
  rintro n s5 ⟨i,U,H5,I5,a6,a8,w5⟩;rcases c0 i n U H5 w5 with ⟨b5,qn⟩|⟨go,c1⟩
  ·refine thn (T.done (aR X N scope B s3 (upd l a.heap.objs.size (.dK [])) j pins) rfl rfl rfl hc i [] s5 U H5 (λ_ _=>False) I5 (L a8) a6 b5) λr s6 ⟨hr,I6⟩=>?_;subst hr;obtain⟨m,hm,_⟩:=id I6.loc;refine c3 _ _ s6 H5 (I2.q7 (by rw[z3];exact abi _) I6.free) ?_ ?_ ⟨m,hm⟩ (λh' d1=>nT I2 f2 hD (aac _) (by rw[z3];exact aaP _) a7 c2 I6 d1) qn
   ·obtain⟨o,_,_,ho,_⟩:=hm;intro z;have b7:s6.heap.get? s3.heap.objs.size=some o:=ho;rw[z]at b7;cases b7
   ·exact aaI (aba I2.lt (by rw[z3];exact aaP _))
  ·refine thn (T.item (aR X N scope B s3 (upd l a.heap.objs.size (.dK [])) j pins) rfl rfl rfl hc i [] s5 U H5 (λ_ _=>False) I5 (L a8) a6 go) λr s6 ⟨u,hr,h6⟩=>?_;subst hr;refine thn h6 λ_ s7 ⟨x,H7,I7,r7,y7,a4,c6⟩=>?_;have c8:=I7.pinned (L c6) (T.obj _ _ a4);refine thn (hg ⟨B,s3,upd l a.heap.objs.size (.dK []),j,pins⟩ _ s7 U H7 x u _ c8 r7 (c1 x H7 y7)) λ_ s8 ⟨Y,H8,I8,q8⟩=>?_;refine thn (ha ⟨B,s3,upd l a.heap.objs.size (.dK []),j,pins⟩ _ _ s8 Y H8 _ I8 q8) λok s9 h9=>?_;have M:∀{Z:Shared},(∃k,Inv (aR X N scope B s3 (upd l a.heap.objs.size (.dK [])) j pins) ([]++pinsAt j s7.heap) Y k Z/\∃m',m'<n/\W (i+1) m' Y k) ->
     ∃m,m<n/\∃i G k,Inv (aR X N scope B s3 (upd l a.heap.objs.size (.dK [])) j pins) [] G k Z/\tn i Z.heap/\(∀b∈j,k b=none)/\W i m G k:=λ{Z} ⟨k,I',m',hm,w'⟩=>by
    refine⟨m',hm,i+1,Y,k,I'.et,T.keep _ _ _ a4 λb f o e=>(I'.pin (b,o) (aad _ (aad _ (bf f e)))).1,λb f=>?_,w'⟩;obtain⟨o,e,d⟩:=T.obj _ _ a4 b f;exact(I'.pin (b,o) (aad _ (aad _ (bf f e)))).2.1
   cases ok with
   |true=>rw[if_pos rfl]at h9 ⊢;exact thn h9 λy d5 d3=>thn d3 λz d4 d0=>thn d0 λ_ d6 c7=>M c7
   |false=>rw[if_neg aab]at h9 ⊢;exact M h9
 exact codeAny_compStart_dict a1 (T.self X.A 0 s4 _ _ b0 a1)
theorem pQ{k d:Pos}(Q:X.N.Nodup)(hy:X.N[i]?=some y)(J:X.env.scope.names.lookup y=some .local)(hc:X.calm=true)(S:CompScope N nt fr X.N scope X.env.scope)(hi:PI X tg iter wi)
  (Z:∀c:CC,PG (cQ X N scope c) tg (g c)) (ha:∀(c:CC) D,pP (cQ X N scope c) D ifs kx vx (tc c))
  (hs:∀x,foldedSetIterable iter X.env x=pure x:=by intro _;rfl)
  (n:swapsWith (.DictComp kx vx [⟨tg,iter,ifs,0⟩] scope pos) (some (.Name y k)) d.line X.env=pure true:=by rfl):
  PS X (.Assign [.Name y k] (.DictComp kx vx [⟨tg,iter,ifs,0⟩] scope pos) d) (oU (pO wi nt fr g tc) (jt i)):=by
 intro j s Y H D I h;rw[exec_Assign_Name_used _ _ _ _ n];refine wpAny_bind (wpAny_standAt (wpAny_bind ?_));show wpAny _ X.A (do let _ <-comprehension (.DictComp kx vx [⟨tg,iter,ifs,0⟩] scope pos) scope X.env _ newDict false (eval iter X.env) (some (assign (.Name y k) X.env))) _ _ s;refine wpAny_bind (wpAny_mono (kJ hc S hi Z ha I h (λx T M=>S.cells x T M) (λL C B G f hC _ r hI q=>?_) hs) (λ_ s' hq=>wpAny_pure (wpAny_pure hq)) λ_ _ e=>e);obtain⟨m,r⟩:=r;have O:Inv X j Y G B:=hI B.heap ⟨rfl,λ_ _=>rfl⟩;show wpAny _ X.A (assign (.Name y k) X.env (.ref L)) _ _ _;refine wpAny_assign_Name (ei O Q hy (.inl J) (v:=.ref L) rfl (λs6 U u=>?_) (.inr J));obtain⟨a,p,t⟩:=u;have w:C≠a:=by
  rcases t with e|e
  ·rw[e];exact f.2.1
  ·exact λz=>f.2.2.2.2.1 _ _ e z.symm
 exact⟨m,r.sameBut p w,λh' l=>⟨_,G,U.turned (λb o hb e=>(l.2 b hb).trans e) f.1 f.2.1 f.2.2.2.1 f.2.2.2.2.1 f.2.2.2.2.2,q⟩⟩
end
end
end L2
set_option genInjectivity false
namespace L2
open PySem PySem.Spec PyProof.Rows
section
structure Kp (S:Addr->Prop)(H H':Hp):Prop where
 k:∀b o,H b=some o->¬ S b->H' b=some o
 n:∀b,H' b=none->H b=none
section
variable{S T S':Addr->Prop}{H H1 H' H2:Hp}{p:Addr}{o:HO}
theorem Kp.refl(S:Addr->Prop)(H:Hp):Kp S H H:=⟨λ_ _ h _=>h,λ_ h=>h⟩
theorem Kp.trans(a:Kp S H H1)(b:Kp S H1 H2):Kp S H H2:=⟨λc o h n=>b.k c o (a.k c o h n) n,λc h=>a.n c (b.n c h)⟩
theorem Kp.weak(a:Kp S H H')(h:∀b,S b->T b\/H b=none):Kp T H H':=⟨λb o e n=>a.k b o e λz=>(h b z).elim n λq=>(by rw[q]at e;cases e),a.n⟩
theorem Kp.put(a:S p\/H p=none):Kp S H (upd H p o):=by
 refine⟨λb u h n=>?_,λb h=>?_⟩
 ·have c:b≠p:=λe=>by
   subst e;rcases a with a|a
   ·exact n a
   ·rw[a]at h;cases h
  rw[upd_ne c];exact h
 ·by_cases e:b=p
  ·subst e;rw[av]at h;cases h
  ·rw[upd_ne e]at h;exact h
theorem Kp.ne(a:Kp S H H')(h:H b≠none):H' b≠none:=λe=>h (a.n b e)
theorem Kp.keep(a:Kp (λ_=>False) H H'):Keep [] H H':=λb o h _=>a.k b o h (λz=>z)
def Bx(S:Addr->Prop)(F:Hp->Prop)(H:Hp):Prop:=∀H',Kp S H H'->F H'
theorem Bx.now{F:Hp->Prop}(h:Bx S F H):F H:=h H (Kp.refl _ _)
theorem Bx.step{F:Hp->Prop}(h:Bx S F H)(k:Kp S H H')(n:∀b,S' b->S b\/H b=none):Bx S' F H':=λH2 a=>
 h H2 ⟨λb o e c=>a.k b o (k.k b o e c) λz=>(n b z).elim c λq=>(by rw[q]at e;cases e),λb e=>k.n b (a.n b e)⟩
end
mutual
inductive Fz (K:Waa)(S:Addr->Prop)(H:Hp):V->PyData->Prop
 |non:Fz K S H .non .none
 |bl (b:Bool):Fz K S H (.bl b) (.bool b)
 |int (i:Int):Fz K S H (.int i) (.int i)
 |str (x:Str):Fz K S H (.str x) (.str x)
 |lst {a xs ds}:Bx S (λH=>SqL K H a xs) H->FzA K S H xs ds->Fz K S H (.ref a) (.list ds)
 |tup {a xs ds}:Bx S (λH=>SqT K H a xs) H->FzA K S H xs ds->Fz K S H (.ref a) (.tuple ds)
inductive FzA (K:Waa)(S:Addr->Prop)(H:Hp):List V->List PyData->Prop
 |nil:FzA K S H [] []
 |cons {x d xs ds}:Fz K S H x d->FzA K S H xs ds->FzA K S H (x::xs) (d::ds)
end
section
variable{K:Waa}{S T S':Addr->Prop}{H H1 H' H2:Hp}
theorem Fz.ind{P:V->PyData->Prop}{Q:List V->List PyData->Prop}(e:P .non .none)(l:∀b,P (.bl b) (.bool b))(c:∀i,P (.int i) (.int i))(g:∀x,P (.str x) (.str x))
  (f:∀{a xs ds},Bx S (λH=>SqL K H a xs) H->Q xs ds->P (.ref a) (.list ds)) (k:∀{a xs ds},Bx S (λH=>SqT K H a xs) H->Q xs ds->P (.ref a) (.tuple ds)) (nil:Q [] []) (cons:∀{x d xs ds},P x d->Q xs ds->Q (x::xs) (d::ds)):
  (∀{v d},Fz K S H v d->P v d)/\∀{vs ds},FzA K S H vs ds->Q vs ds:=
 ⟨λh=>Fz.rec e l c g (λh _ i=>f h i) (λh _ i=>k h i) nil (λ_ _ i j=>cons i j) h,
  λh=>FzA.rec e l c g (λh _ i=>f h i) (λh _ i=>k h i) nil (λ_ _ i j=>cons i j) h⟩
theorem Fz.l2(k:Kp S H H')(n:∀b,S' b->S b\/H b=none):(∀{v:V}{d:PyData},Fz K S H v d->Fz K S' H' v d)/\∀{vs:List V}{ds:List PyData},FzA K S H vs ds->FzA K S' H' vs ds:=
 Fz.ind .non .bl .int .str (λh t=>.lst (h.step k n) t) (λh t=>.tup (h.step k n) t) .nil (λr t=>.cons r t)
theorem Fz.step(k:Kp S H H')(n:∀b,S' b->S b\/H b=none){v:V}{d:PyData}(h:Fz K S H v d):Fz K S' H' v d:=(Fz.l2 k n).1 h
theorem FzA.step(k:Kp S H H')(n:∀b,S' b->S b\/H b=none){vs:List V}{ds:List PyData}(h:FzA K S H vs ds):FzA K S' H' vs ds:=(Fz.l2 k n).2 h
theorem Fz.dt_:(∀{v:V}{d:PyData},Fz K S H v d->Dt K H v d)/\∀{vs:List V}{ds:List PyData},FzA K S H vs ds->DtAll K H vs ds:=
 Fz.ind .non .bl .int .str (λh t=>.lst h.now t) (λh t=>.tup h.now t) .nil (λr t=>.cons r t)
theorem Fz.dt(h:Fz K S H v d):Dt K H v d:=Fz.dt_.1 h
theorem FzA.dt(h:FzA K S H vs ds):DtAll K H vs ds:=Fz.dt_.2 h
theorem Fz.of0(h:Dt K H v d):Fz K (λ_=>False) H v d:=
 Dt.rec .non .bl .int .str (λh _ t=>.lst (λH' k=>k.keep.same.seq h) t) (λh _ t=>.tup (λH' k=>k.keep.same.tupS h) t) .nil (λ_ _ r t=>.cons r t) h
theorem FzA.of0:∀{vs:List V}{ds:List PyData},DtAll K H vs ds->FzA K (λ_=>False) H vs ds:=by
 intro vs;induction vs with
 |nil=>intro ds h;cases h;exact .nil
 |cons v vs a=>intro ds h;cases h with|cons r t=>exact .cons (Fz.of0 r) (a t)
theorem Fz.sub(h:∀b,S' b->S b)(f:Fz K S H v d):Fz K S' H v d:=f.step (Kp.refl _ _) λb z=>.inl (h b z)
theorem FzA.sub(h:∀b,S' b->S b)(f:FzA K S H v d):FzA K S' H v d:=f.step (Kp.refl _ _) λb z=>.inl (h b z)
theorem FzA.length(h:FzA K S H vs ds):vs.length=ds.length:=by
 induction vs generalizing ds with
 |nil=>cases h;rfl
 |cons v vs a=>cases h with|cons _ t=>rw[aav,aav,a t]
theorem FzA.get{i:Nat}(h:FzA K S H vs ds)(e:ds[i]?=some d):∃v,vs[i]?=some v/\Fz K S H v d:=by
 induction vs generalizing ds i with
 |nil=>cases h;cases i<;>cases e
 |cons v vs a=>
  cases h with
  |cons r t=>
   cases i with
   |zero=>cases e;exact⟨_,rfl,r⟩
   |succ i=>exact a t e
theorem FzA.append(h:FzA K S H vs ds)(h':FzA K S H ws es):FzA K S H (vs++ws) (ds++es):=by
 induction vs generalizing ds with
 |nil=>cases h;exact h'
 |cons v vs a=>cases h with|cons r t=>exact .cons r (a t)
theorem FzA.take:∀(n:Nat) {vs:List V}{ds:List PyData},FzA K S H vs ds->FzA K S H (vs.take n) (ds.take n)
 |0,_,_,_=>.nil
 |_+1,_,_,.nil=>.nil
 |n+1,_,_,.cons r t=>.cons r (FzA.take n t)
theorem FzA.drop:∀(n:Nat) {vs:List V}{ds:List PyData},FzA K S H vs ds->FzA K S H (vs.drop n) (ds.drop n)
 |0,_,_,h=>h
 |_+1,_,_,.nil=>.nil
 |n+1,_,_,.cons _ t=>FzA.drop n t
theorem FzA.set(h:Fz K S H u d):∀(n:Nat) {vs:List V}{ds:List PyData},FzA K S H vs ds->FzA K S H (vs.set n u) (ds.set n d)
 |_,_,_,.nil=>.nil
 |0,_,_,.cons _ t=>.cons h t
 |n+1,_,_,.cons r t=>.cons r (FzA.set h n t)
theorem FzA.ints:∀(ns:List Int),FzA K S H (ns.map V.int) (ns.map PyData.int)
 |[]=>.nil
 |n::ns=>.cons (.int n) (FzA.ints ns)
theorem Fz.n8(h:Fz K S H v (.list ds)):∃a xs,v=.ref a/\Bx S (λH=>SqL K H a xs) H/\FzA K S H xs ds:=by
 cases h with|lst h t=>exact⟨_,_,rfl,h,t⟩
theorem Fz.rx(h:Fz K S H v (.tuple ds)):∃a xs,v=.ref a/\Bx S (λH=>SqT K H a xs) H/\FzA K S H xs ds:=by
 cases h with|tup h t=>exact⟨_,_,rfl,h,t⟩
theorem xB(h:H a=some (.lst xs))(n:¬ S a):Bx S (λH=>SqL K H a xs) H:=λ_ k=>SqL.of (k.k _ _ h n)
theorem pR(h:H a=some (.tup xs))(n:¬ S a):Bx S (λH=>SqT K H a xs) H:=λ_ k=>SqT.of (k.k _ _ h n)
end
inductive OD where
 |fz (d:PyData)|lst (xs:List OD)|tup (xs:List OD)|dic (ks:List Key) (xs:List OD)|obj (c:Str) (ns:List Str) (xs:List OD)|pin (l:Bool) (xs:List V) (ds:List PyData)|hole (v:V)
mutual
def OD.dat:OD->Option PyData
 |.fz d=>some d
 |.lst xs=>match OD.eo xs with|some ds=>some (.list ds)|none=>none
 |.tup xs=>match OD.eo xs with|some ds=>some (.tuple ds)|none=>none
 |.dic _ _=>none
 |.obj _ _ _=>none
 |.pin l _ ds=>some (if l then .list ds else .tuple ds)
 |.hole _=>none
def OD.eo:List OD->Option (List PyData)
 |[]=>some []
 |x::xs=>match x.dat with
  |some d=>match OD.eo xs with|some ds=>some (d::ds)|none=>none
  |none=>none
end
def aI(K:Waa)(c:Str):Addr:=match PySem.W.nsIn K mainGlobals c with|some (some (.ref C))=>C|_=>0
structure Bs where
 K:Waa
 H0:Hp
 S0:Addr->Prop
 C:Addr->Prop
mutual
inductive Ow (b:Bs)(S:Addr->Prop)(H:Hp):V->OD->List Addr->Prop
 |fz {v d}:Fz b.K S H v d->Ow b S H v (.fz d) []
 |lst {a vs xs A}:H a=some (.lst vs)->Ows b S H vs xs A->Ow b S H (.ref a) (.lst xs) (a::A)
 |tup {a vs xs A}:H a=some (.tup vs)->Ows b S H vs xs A->Ow b S H (.ref a) (.tup xs) A
 |dic {a ws ks vs xs A}:H a=some (.dK ws)->ws.map (·.1)=ks->ws.map (·.2)=vs->Ows b S H vs xs A->Ow b S H (.ref a) (.dic ks xs) (a::A)
 |obj {a dx c fs ns vs xs A}:H a=some (.ins (aI b.K c) dx fs)->H dx=some (.own a)->fs.map (·.1)=ns->fs.map (·.2)=vs->Ows b S H vs xs A->Ow b S H (.ref a) (.obj c ns xs) (a::dx::A)
 |pinL {a xs ds}:Bx S (λH=>SqL b.K H a xs) H->FzA b.K S H xs ds->Ow b S H (.ref a) (.pin true xs ds) []
 |pinT {a xs ds}:Bx S (λH=>SqT b.K H a xs) H->FzA b.K S H xs ds->Ow b S H (.ref a) (.pin false xs ds) []
 |hole {v u}:v=u->Ow b S H v (.hole u) []
inductive Ows (b:Bs)(S:Addr->Prop)(H:Hp):List V->List OD->List Addr->Prop
 |nil:Ows b S H [] [] []
 |cons {v x A vs xs B}:Ow b S H v x A->Ows b S H vs xs B->Ows b S H (v::vs) (x::xs) (A++B)
end
abbrev OwL(b:Bs)(S:Addr->Prop)(H:Hp)(L:List (V×OD))(A:List Addr):Prop:=Ows b S H (L.map (·.1)) (L.map (·.2)) A
def MutO:HO->Prop
 |.lst _=>True|.dK _=>True|.ins _ _ _=>True|.own _=>True
 |_=>False
section
variable{b:Bs}{S T S':Addr->Prop}{H H1 H' H2:Hp}
theorem Ows.len(h:Ows b S H vs xs A):vs.length=xs.length:=by
 induction vs generalizing xs A with
 |nil=>cases h;rfl
 |cons v vs a=>cases h with|cons _ t=>rw[aav,aav,a t]
theorem Ow.ind{P:V->OD->List Addr->Prop}{Q:List V->List OD->List Addr->Prop}(s:∀{v d},Fz b.K S H v d->P v (.fz d) [])(o:∀{a vs xs A},H a=some (.lst vs)->Q vs xs A->P (.ref a) (.lst xs) (a::A))(q:∀{a vs xs A},H a=some (.tup vs)->Q vs xs A->P (.ref a) (.tup xs) A)
  (p:∀{a ws ks vs xs A},H a=some (.dK ws)->ws.map (·.1)=ks->ws.map (·.2)=vs->Q vs xs A->P (.ref a) (.dic ks xs) (a::A)) (n:∀{a dx c fs ns vs xs A},H a=some (.ins (aI b.K c) dx fs)->H dx=some (.own a)->fs.map (·.1)=ns->fs.map (·.2)=vs->Q vs xs A->P (.ref a) (.obj c ns xs) (a::dx::A))
  (g:∀{a xs ds},Bx S (λH=>SqL b.K H a xs) H->FzA b.K S H xs ds->P (.ref a) (.pin true xs ds) []) (f:∀{a xs ds},Bx S (λH=>SqT b.K H a xs) H->FzA b.K S H xs ds->P (.ref a) (.pin false xs ds) []) (k:∀{v u},v=u->P v (.hole u) [])
  (nil:Q [] [] []) (cons:∀{v x A vs xs B},P v x A->Q vs xs B->Q (v::vs) (x::xs) (A++B)):(∀{v x A},Ow b S H v x A->P v x A)/\∀{vs xs A},Ows b S H vs xs A->Q vs xs A:=
 ⟨λh=>Ow.rec s (λe _ i=>o e i) (λe _ i=>q e i) (λe m l _ i=>p e m l i) (λe r m l _ i=>n e r m l i) g f k nil (λ_ _ i j=>cons i j) h,
  λh=>Ows.rec s (λe _ i=>o e i) (λe _ i=>q e i) (λe m l _ i=>p e m l i) (λe r m l _ i=>n e r m l i) g f k nil (λ_ _ i j=>cons i j) h⟩
theorem lP{P:Addr->Prop}(h:P a)(t:∀c∈A,P c):∀c∈a::A,P c:=λc d=>(aaa.mp d).elim (λe=>e▸h) (t c)
theorem Ow.mu_:(∀{v:V}{x:OD}{A:List Addr},Ow b S H v x A->∀a∈A,∃o,H a=some o/\MutO o)/\∀{vs:List V}{xs:List OD}{A:List Addr},Ows b S H vs xs A->∀a∈A,∃o,H a=some o/\MutO o:=
 Ow.ind (λ_ _ h=>absurd h aau) (λe i=>lP ⟨_,e,trivial⟩ i) (λ_ i=>i) (λe _ _ i=>lP ⟨_,e,trivial⟩ i) (λe c _ _ i=>lP ⟨_,e,trivial⟩ (lP ⟨_,c,trivial⟩ i)) (λ_ _ _ h=>absurd h aau) (λ_ _ _ h=>absurd h aau) (λ_ _ h=>absurd h aau) (λ_ h=>absurd h aau) (λi j a h=>(aaj.mp h).elim (i a) (j a))
theorem Ow.mu(h:Ow b S H v x A):∀a∈A,∃o,H a=some o/\MutO o:=Ow.mu_.1 h
theorem Ows.mu(h:Ows b S H vs xs A):∀a∈A,∃o,H a=some o/\MutO o:=Ow.mu_.2 h
theorem Ows.ne(h:Ows b S H vs xs A):∀a∈A,H a≠none:=λa c e=>by obtain⟨o,q,_⟩:=h.mu a c;rw[q]at e;cases e
theorem Ow.ne(h:Ow b S H v x A):∀a∈A,H a≠none:=λa c e=>by obtain⟨o,q,_⟩:=h.mu a c;rw[q]at e;cases e
theorem Ows.tl(h:Ows b S H vs xs A):∀a∈A,∀ys,H a≠some (.tup ys):=λa c ys e=>by obtain⟨o,q,m⟩:=h.mu a c;rw[q]at e;cases e;exact m
theorem Ow.tl(h:Ow b S H v x A):∀a∈A,∀ys,H a≠some (.tup ys):=λa c ys e=>by obtain⟨o,q,m⟩:=h.mu a c;rw[q]at e;cases e;exact m
theorem Ow.l2(c:b2.K=b.K)(k:Kp S H H')(n:∀b,S' b->S b\/H b=none)(m:∀a xs,H a=some (.tup xs)->¬ S a):(∀{v:V}{x:OD}{A:List Addr},Ow b S H v x A->(∀a∈A,H' a=H a)->Ow b2 S' H' v x A)/\∀{vs:List V}{xs:List OD}{A:List Addr},Ows b S H vs xs A->(∀a∈A,H' a=H a)->Ows b2 S' H' vs xs A:=
 Ow.ind (λf _=>.fz (c▸f.step k n)) (λe i s=>.lst ((s _ aal).trans e) (i λa h=>s a (aak _ h))) (λe i s=>.tup (k.k _ _ e (m _ _ e)) (i s)) (λe g d i s=>.dic ((s _ aal).trans e) g d (i λa h=>s a (aak _ h)))
  (λe l g d i s=>.obj (c▸(s _ aal).trans e) ((s _ (aak _ aal)).trans l) g d (i λa h=>s a (aak _ (aak _ h)))) (λh t _=>.pinL (c▸h.step k n) (c▸t.step k n)) (λh t _=>.pinT (c▸h.step k n) (c▸t.step k n)) (λe _=>.hole e) (λ_=>.nil) (λi j s=>.cons (i λa h=>s a (aae _ h)) (j λa h=>s a (aad _ h)))
theorem Ow.step(k:Kp S H H')(n:∀b,S' b->S b\/H b=none)(c:∀a xs,H a=some (.tup xs)->¬ S a){v:V}{x:OD}{A:List Addr}(s:∀a∈A,H' a=H a)(h:Ow b S H v x A):Ow b S' H' v x A:=(Ow.l2 rfl k n c).1 h s
theorem Ows.step(k:Kp S H H')(n:∀b,S' b->S b\/H b=none)(c:∀a xs,H a=some (.tup xs)->¬ S a){vs:List V}{xs:List OD}{A:List Addr}(s:∀a∈A,H' a=H a)(h:Ows b S H vs xs A):Ows b S' H' vs xs A:=(Ow.l2 rfl k n c).2 h s
theorem Ow.sub(d:∀a xs,H a=some (.tup xs)->¬ S a)(n:∀c,S' c->S c)(h:Ow b S H v x A):Ow b S' H v x A:=h.step (Kp.refl _ _) (λc z=>.inl (n c z)) d (λ_ _=>rfl)
theorem Ows.sub(d:∀a xs,H a=some (.tup xs)->¬ S a)(n:∀c,S' c->S c)(h:Ows b S H v x A):Ows b S' H v x A:=h.step (Kp.refl _ _) (λc z=>.inl (n c z)) d (λ_ _=>rfl)
theorem Ows.subB(e:b2.K=b.K)(d:∀a xs,H a=some (.tup xs)->¬ S a)(n:∀c,S' c->S c)(h:Ows b S H v x A):Ows b2 S' H v x A:=(Ow.l2 e (Kp.refl _ _) (λc z=>.inl (n c z)) d).2 h λ_ _=>rfl
theorem tw(h:(OD.lst xs).dat=some d):∃ds,OD.eo xs=some ds/\d=.list ds:=by
 rw[OD.dat]at h;cases z:OD.eo xs with
 |none=>rw[z]at h;cases h
 |some ds=>rw[z]at h;cases h;exact⟨ds,rfl,rfl⟩
theorem tz(h:(OD.tup xs).dat=some d):∃ds,OD.eo xs=some ds/\d=.tuple ds:=by
 rw[OD.dat]at h;cases z:OD.eo xs with
 |none=>rw[z]at h;cases h
 |some ds=>rw[z]at h;cases h;exact⟨ds,rfl,rfl⟩
theorem nV(h:OD.eo (x::xs)=some es):∃d ds,x.dat=some d/\OD.eo xs=some ds/\es=d::ds:=by
 rw[OD.eo]at h;cases z:x.dat with
 |none=>rw[z]at h;cases h
 |some d=>
  cases a:OD.eo xs with
  |none=>rw[z,a]at h;cases h
  |some ds=>rw[z,a]at h;cases h;exact⟨d,ds,rfl,rfl,rfl⟩
theorem Ow.frz_(k:∀a,S' a->S a)(nt:∀a xs,H a=some (.tup xs)->¬ S a):(∀{v:V}{x:OD}{A:List Addr},Ow b S H v x A->∀d:PyData,(∀a∈A,¬ S' a)->x.dat=some d->Fz b.K S' H v d)/\∀{vs:List V}{xs:List OD}{A:List Addr},Ows b S H vs xs A->∀ds:List PyData,(∀a∈A,¬ S' a)->OD.eo xs=some ds->FzA b.K S' H vs ds:=by
 refine Ow.ind (P:=λv x A=>∀d:PyData,(∀a∈A,¬ S' a)->x.dat=some d->Fz b.K S' H v d) (Q:=λvs xs A=>∀ds:List PyData,(∀a∈A,¬ S' a)->OD.eo xs=some ds->FzA b.K S' H vs ds) ?_ ?_ ?_ (λ_ _ _ _ _ _ q=>?_) (λ_ _ _ _ _ _ _ q=>?_) ?_ ?_ (λ_ _ _ q=>?_) ?_ ?_
 ·intro v d f o _ q;cases q;exact f.sub k
 ·intro a vs xs A e i d g q;obtain⟨ds,z,rfl⟩:=tw q;exact .lst (xB e (g _ aal)) (i ds (λa h=>g a (aak _ h)) z)
 ·intro a vs xs A e i d g q;obtain⟨ds,z,rfl⟩:=tz q;exact .tup (pR e λy=>nt _ _ e (k _ y)) (i ds g z)
 ·cases q
 ·cases q
 ·intro a xs ds h t d _ q;cases q;exact .lst (h.step (Kp.refl _ _) λc z=>.inl (k c z)) (t.sub k)
 ·intro a xs ds h t d _ q;cases q;exact .tup (h.step (Kp.refl _ _) λc z=>.inl (k c z)) (t.sub k)
 ·cases q
 ·intro ds _ q;cases q;exact .nil
 ·intro v x A vs xs B i j n g q;obtain⟨d,ds,m,l,rfl⟩:=nV q;exact .cons (i d (λa h=>g a (aae _ h)) m) (j ds (λa h=>g a (aad _ h)) l)
theorem Ow.frz(c:∀a,S' a->S a)(nt:∀a xs,H a=some (.tup xs)->¬ S a)(e:∀a∈A,¬ S' a)(h:Ow b S H v x A)(q:x.dat=some d):Fz b.K S' H v d:=(Ow.frz_ c nt).1 h d e q
theorem Ows.frz(c:∀a,S' a->S a)(nt:∀a xs,H a=some (.tup xs)->¬ S a)(d:∀a∈A,¬ S' a)(h:Ows b S H vs xs A)(q:OD.eo xs=some ds):FzA b.K S' H vs ds:=(Ow.frz_ c nt).2 h ds d q
theorem Ows.append(h:Ows b S H vs xs A)(h':Ows b S H us ys B):Ows b S H (vs++us) (xs++ys) (A++B):=by
 induction vs generalizing xs A with
 |nil=>cases h;exact h'
 |cons v vs a=>cases h with|cons r t=>rw[aaf];exact .cons r (a t)
theorem Ows.split(e:vs.length=xs.length)(h:Ows b S H (vs++us) (xs++ys) A):∃c a,A=c++a/\Ows b S H vs xs c/\Ows b S H us ys a:=by
 induction vs generalizing xs A with
 |nil=>
  cases xs with
  |nil=>exact⟨[],A,rfl,.nil,h⟩
  |cons _ _=>cases e
 |cons v vs g=>
  cases xs with
  |nil=>cases e
  |cons x xs=>
   cases h with
   |cons r t=>obtain⟨c,a,rfl,d,f⟩:=g (Nat.succ.inj e) t;exact⟨_,a,(aaf ..).symm,.cons r d,f⟩
theorem OwL.fx(h:OwL b S H (L1++L2) A):∃c a,A=c++a/\OwL b S H L1 c/\OwL b S H L2 a:=by unfold OwL at h;rw[aay,aay]at h;exact Ows.split (by simp) h
theorem OwL.kq(a:OwL b S H L1 A1)(c:OwL b S H L2 A2):OwL b S H (L1++L2) (A1++A2):=by unfold OwL;rw[aay,aay];exact Ows.append a c
theorem OwL.perm(p:L.Perm L'):∀{A:List Addr},OwL b S H L A->∃e,OwL b S H L' e/\A.Perm e:=by
 induction p with
 |nil=>intro A h;exact⟨A,h,.refl _⟩
 |cons x _ j=>
  intro A h;cases h with
  |cons r t=>obtain⟨B,a,q⟩:=j t;exact⟨_,.cons r a,q.append_left _⟩
 |swap x y l=>
  intro A h;cases h with
  |cons r t=>
   cases t with
   |cons k g=>refine⟨_,.cons k (.cons r g),?_⟩;rw[<-aaf,<-aaf];exact aa2.append_right _
 |trans _ _ d c=>intro A h;obtain⟨B,i,f⟩:=d h;obtain⟨C,a,m⟩:=c i;exact⟨C,a,f.trans m⟩
theorem OwL.mem:∀{A:List Addr},OwL b S H L A->∀{x:V×OD},x∈L->∃B,Ow b S H x.1 x.2 B:=by
 induction L with
 |nil=>intro A h x a;cases a
 |cons y L c=>
  intro A h x a;cases h with
  |cons r t=>
   rcases aaa.mp a with rfl|a
   ·exact⟨_,r⟩
   ·exact c t a
theorem Ows.zip(h:Ows b S H vs xs A)(e:xs[k]?=some x):∃v d B c,vs[k]?=some v/\A=d++(B++c)/\Ow b S H v x B /\
  ∀{S':Addr->Prop}{H':Hp}{u:V}{y:OD}{i:List Addr},Ow b S' H' u y i->(∀{v:V}{x:OD}{C:List Addr},(∀a∈C,a∈d\/a∈c)->Ow b S H v x C->Ow b S' H' v x C)->Ows b S' H' (vs.set k u) (xs.set k y) (d++(i++c)):=by
 induction vs generalizing xs A k with
 |nil=>cases h;cases k<;>cases e
 |cons v vs f=>
  cases h with
  |@cons _ x0 A _ xs B r t=>
   cases k with
   |zero=>
    cases e;refine⟨v,[],A,B,rfl,rfl,r,λ{S' H' u y i} h g=>Ows.cons (B:=B) h ?_⟩;have j:∀{vs:List V}{xs:List OD}{D:List Addr},(∀a∈D,a∈B)->Ows b S H vs xs D->Ows b S' H' vs xs D:=λ{vs xs D} s h=>by
     induction xs generalizing vs D with
     |nil=>cases h;exact .nil
     |cons x xs f=>cases h with|cons r t=>exact .cons (g (λa h=>.inr (s a (aae _ h))) r) (f (λa h=>s a (aad _ h)) t)
    exact j (λa h=>h) t
   |succ k=>obtain⟨q,d,o,c,n,l,m,p⟩:=f t e;subst l;refine⟨q,A++d,o,c,n,(aaf ..).symm,m,λh g=>?_⟩;rw[aaG,aaG,aaf];exact .cons (g (λa h=>.inl (aae _ h)) r) (p h λs h=>g (λa z=>(s a z).imp (aad _) id) h)
end
end
section
structure Wd (b:Bs)(H:Hp)(L:List (V×OD)):Prop where
 out:∃A,OwL b (λa=>a∈A\/b.S0 a) H L A/\A.Nodup/\∀a∈A,b.H0 a=none\/b.C a
 fr:Kp b.C b.H0 H
 s0:∀a,b.S0 a->b.H0 a≠none/\¬ b.C a
 nt:∀a xs,H a=some (.tup xs)->¬ b.S0 a
section
variable{b:Bs}{H H1 H':Hp}{L L':List (V×OD)}{v u:V}{x y:OD}{d:PyData}{ds:List PyData}{p a:Addr}
theorem Wd.qd(w:Wd b H L)(h:OwL b (λa=>a∈A\/b.S0 a) H L A):∀a xs,H a=some (.tup xs)->¬ (a∈A\/b.S0 a):=λa xs e z=>z.elim (λz=>Ows.tl h a z xs e) (w.nt a xs e)
theorem Wd.al(w:Wd b H L)(h:OwL b (λa=>a∈A\/b.S0 a) H L A)(e:H a=none):¬ (a∈A\/b.S0 a):=λz=>z.elim (λz=>Ows.ne h a z e) λz=>(w.s0 a z).1 (w.fr.n a e)
theorem Wd.dj(w:Wd b H L){A:List Addr}(c:∀a∈A,b.H0 a=none\/b.C a):∀a∈A,¬ b.S0 a:=λa e z=>(c a e).elim (w.s0 a z).1 (w.s0 a z).2
theorem Wd.perm(w:Wd b H L)(q:L.Perm L'):Wd b H L':=by obtain⟨A,h,i,e⟩:=w.out;obtain⟨j,g,f⟩:=OwL.perm q h;refine⟨⟨j,Ows.step (Kp.refl _ _) (λc z=>.inl (z.imp (f.mem_iff.mpr) id)) (w.qd h) (λ_ _=>rfl) g,f.nodup_iff.mp i,λa k=>e a (f.mem_iff.mpr k)⟩,w.fr,w.s0,w.nt⟩
theorem Wd.drop(w:Wd b H ((v,x)::L)):Wd b H L:=by
 obtain⟨A,h,f,e⟩:=w.out;have g:=w.qd h;cases h with
 |@cons _ _ A _ _ B r t=>exact⟨⟨B,Ows.step (Kp.refl _ _) (λc z=>.inl (z.imp (aad _) id)) g (λ_ _=>rfl) t,(aaC.mp f).2.1,λa i=>e a (aad _ i)⟩,w.fr,w.s0,w.nt⟩
theorem Wd.drops(w:Wd b H (L1++L2)):Wd b H L2:=by
 induction L1 with
 |nil=>exact w
 |cons z L1 c=>exact c (Wd.drop w)
theorem Wd.puts(w:Wd b H (L1++L))(h:∀(S:Addr->Prop) (A:List Addr),OwL b S H L1 A->A.Nodup->(∀a∈A,S a)->(∀a,H a=none->¬ S a)->(∀a xs,H a=some (.tup xs)->¬ S a) ->
  ∃f,OwL b (λa=>(S a/\a ∉ A)\/a∈f) H L2 f/\f.Nodup/\∀a∈f,a∈A):Wd b H (L2++L):=by
 obtain⟨M,m,J,g⟩:=w.out;have k:=w.qd m;have G:=λ{a}=>w.al m (a:=a);have ds:=w.dj g;obtain⟨A,B,rfl,r,t⟩:=OwL.fx m;obtain⟨D,s,q⟩:=aaC.mp J;obtain⟨f,C,I,j⟩:=h _ A r D (λa z=>.inl (aae _ z)) (λa e=>G e) k;have i:∀c,(c∈f++B\/b.S0 c)->(c∈A++B\/b.S0 c):=λc z=>z.imp (λz=>(aaj.mp z).elim (λz=>aae _ (j c z)) (aad _)) id;refine⟨⟨f++B,OwL.kq (Ows.step (Kp.refl _ _) (λc z=>.inl ?_) (λa xs e z=>?_) (λ_ _=>rfl) C) (Ows.step (Kp.refl _ _) (λc z=>.inl (i c z)) k (λ_ _=>rfl) t),aaC.mpr ⟨I,s,λa n c l=>q a (j a n) c l⟩,λa n=>?_⟩,w.fr,w.s0,w.nt⟩
 ·by_cases l:c∈f
  ·exact .inr l
  ·refine .inl ⟨i c z,λo=>?_⟩;rcases z with z|z
   ·rcases aaj.mp z with z|z
    ·exact l z
    ·exact q c o c z rfl
   ·exact ds c (aae _ o) z
 ·rcases z with z|z
  ·exact k a xs e z.1
  ·exact k a xs e (.inl (aae _ (j a z)))
 ·rcases aaj.mp n with z|z
  ·exact g a (aae _ (j a z))
  ·exact g a (aad _ z)
theorem OwL.one(h:OwL b S H [(v,x)] A):Ow b S H v x A:=by
 cases h with
 |cons r t=>cases t;rw[aaA];exact r
theorem OwL.of1(h:Ow b S H v x A):OwL b S H [(v,x)] A:=by have:=Ows.cons h (Ows.nil );rw[aaA]at this;exact this
theorem Wd.frz(w:Wd b H ((v,x)::L))(e:x.dat=some d):Wd b H ((v,.fz d)::L):=by
 refine Wd.puts (L1:=[(v,x)]) w λS A h g i j c=>⟨[],OwL.of1 (.fz ?_),abN,λa z=>by cases z⟩
 exact Ow.frz (λa z=>z.elim (·.1) (λz=>by cases z)) c (λa f z=>z.elim (λz=>z.2 f) (λz=>by cases z)) h.one e
theorem Wd.dt(w:Wd b H ((v,x)::L))(e:x.dat=some d):Dt b.K H v d:=by obtain⟨A,c,g,f⟩:=w.out;obtain⟨B,h⟩:=OwL.mem c (x:=(v,x)) (by simp);exact(Ow.frz (λa z=>z.elim) (w.qd c) (λa _ z=>z) h e).dt
theorem Wd.z4(w:Wd b H L)(m:(v,x)∈L)(e:x.dat=some d):Dt b.K H v d:=by obtain⟨A,c,g,f⟩:=w.out;obtain⟨B,h⟩:=OwL.mem c m;exact(Ow.frz (λa z=>z.elim) (w.qd c) (λa _ z=>z) h e).dt
def FrzIn(b:Bs)(S:Addr->Prop)(H:Hp)(L:List (V×OD)):Prop:=∀u e,(u,OD.fz e)∈L->Fz b.K S H u e
theorem OwL.u4(h:OwL b S H L A):FrzIn b S H L:=λu e m=>by obtain⟨B,q⟩:=OwL.mem h m;cases q with|fz f=>exact f
theorem FrzIn.all(h:FrzIn b S H L):∀{vs:List V}{ds:List PyData},vs.length=ds.length->(∀z∈vs.zip (ds.map OD.fz),z∈L)->FzA b.K S H vs ds
 |[],[],_,_=>.nil
 |v::vs,d::ds,e,m=>.cons (h v d (m _ (by simp))) (FrzIn.all h (by simpa using e) λz hz=>m z (by simp[hz]))
theorem Wd.add(w:Wd b H L)(h:∀S:Addr->Prop,(∀(x:V×OD),x∈L->∃A,Ow b S H x.1 x.2 A)->(∀a,H a=none->¬ S a)->(∀a xs,H a=some (.tup xs)->¬ S a)->Fz b.K S H v d):Wd b H ((v,.fz d)::L):=by obtain⟨A,c,g,f⟩:=w.out;exact⟨⟨A,Ows.cons (.fz (h _ (λx i=>OwL.mem c i) (λa e=>w.al c e) (w.qd c))) c,g,f⟩,w.fr,w.s0,w.nt⟩
theorem Wd.adds(w:Wd b H L)(h:∀S:Addr->Prop,(∀(x:V×OD),x∈L->∃A,Ow b S H x.1 x.2 A)->FzA b.K S H vs ds):Wd b H (vs.zip (ds.map OD.fz)++L):=by
 obtain⟨A,e,f,c⟩:=w.out;have q:∀{vs:List V}{ds:List PyData},FzA b.K (λa=>a∈A\/b.S0 a) H vs ds->OwL b (λa=>a∈A\/b.S0 a) H (vs.zip (ds.map OD.fz)) []:=by
  intro vs;induction vs with
  |nil=>intro ds h;cases h;exact .nil
  |cons v vs i=>intro ds h;cases h with|cons r t=>exact Ows.cons (.fz r) (i t)
 exact⟨⟨A,OwL.kq (q (h _ λx g=>OwL.mem e g)) e,f,c⟩,w.fr,w.s0,w.nt⟩
theorem Wd.dup(w:Wd b H ((v,.fz d)::L)):Wd b H ((v,.fz d)::(v,.fz d)::L):=w.add λS h _ _=>by obtain⟨A,q⟩:=h (v,.fz d) (by simp);cases q with|fz f=>exact f
inductive Sc:V->PyData->Prop
 |non:Sc .non .none
 |bl (b:Bool):Sc (.bl b) (.bool b)
 |int (i:Int):Sc (.int i) (.int i)
 |str (x:Str):Sc (.str x) (.str x)
theorem Sc.fz{K:Waa}(h:Sc v d):Fz K S H v d:=by cases h<;>constructor
theorem Wd.sc(w:Wd b H L)(h:Sc v d):Wd b H ((v,.fz d)::L):=w.add λS _ _ _=>h.fz
theorem Wd.new(w:Wd b H L)(f:H p=none):Wd b (upd H p o) L:=by
 obtain⟨A,h,k,g⟩:=w.out;have i:=w.al h f;refine⟨⟨A,Ows.step (Kp.put (.inr f)) (λc z=>.inl z) (w.qd h) (λa l=>upd_ne λe=>i (.inl (e▸l))) h,k,g⟩,w.fr.trans (Kp.put (.inr f)),w.s0,λa j e z=>?_⟩;by_cases q:a=p
 ·subst q;exact i (.inr z)
 ·rw[upd_ne q]at e;exact w.nt a j e z
theorem Wd.u3(w:Wd b H L)(c:H p=none):b.H0 p=none:=w.fr.n p c
theorem iH:∀{vs:List V}{xs:List OD},vs.length=xs.length->(vs.zip xs).map (·.1)=vs
 |[],[],_=>rfl
 |_::_,_::_,e=>by rw[abu,aan,iH (by simpa using e)]
 |[],_::_,e=>by simp at e
 |_::_,[],e=>by simp at e
theorem iI:∀{vs:List V}{xs:List OD},vs.length=xs.length->(vs.zip xs).map (·.2)=xs
 |[],[],_=>rfl
 |_::_,_::_,e=>by rw[abu,aan,iI (by simpa using e)]
 |[],_::_,e=>by simp at e
 |_::_,[],e=>by simp at e
theorem OwL.u2(e:vs.length=xs.length)(h:OwL b S H (vs.zip xs) A):Ows b S H vs xs A:=by unfold OwL at h;rw[iH e,iI e]at h;exact h
theorem OwL.j1(h:Ows b S H vs xs A):OwL b S H (vs.zip xs) A:=by unfold OwL;rw[iH h.len,iI h.len];exact h
theorem Wd.ew(w:Wd b H L)(h:∀S,FrzIn b S H L->FzA b.K S H vs ds)(f:H p=none):Wd b (upd H p (.tup vs)) ((.ref p,.fz (.tuple ds))::L):=by obtain⟨A,g,m,j⟩:=w.out;have k:=w.al g f;have l:=h _ (OwL.u4 g);have i:=w.new f (o:=.tup vs);refine⟨⟨A,Ows.cons (.fz (.tup (pR av k) (l.step (Kp.put (.inr f)) λc z=>.inl z))) (Ows.step (Kp.put (.inr f)) (λc z=>.inl z) (w.qd g) (λa n=>upd_ne λe=>k (.inl (e▸n))) g),m,j⟩,i.fr,i.s0,i.nt⟩
theorem Wd.wh(w:Wd b H (vs.zip xs++L))(e:vs.length=xs.length)(g:H p=none):Wd b (upd H p (.tup vs)) ((.ref p,.tup xs)::L):=by obtain⟨A,i,t,j⟩:=w.out;have r:=w.al i g;have k:=w.qd i;have h:=w.new g (o:=.tup vs);have l:∀a∈A,upd H p (.tup vs) a=H a:=λa f=>upd_ne λe=>r (.inl (e▸f));obtain⟨s,n,rfl,q,m⟩:=OwL.fx i;refine⟨⟨s++n,Ows.cons (.tup av (Ows.step (Kp.put (.inr g)) (λc z=>.inl z) k (λa f=>l a (aae _ f)) (OwL.u2 e q))) (Ows.step (Kp.put (.inr g)) (λc z=>.inl z) k (λa f=>l a (aad _ f)) m),t,j⟩,h.fr,h.s0,h.nt⟩
theorem Wd.eg(w:Wd b H (vs.zip xs++L))(e:vs.length=xs.length)(g:H p=none):Wd b (upd H p (.lst vs)) ((.ref p,.lst xs)::L):=by
 obtain⟨A,i,B,k⟩:=w.out;have m:=w.al i g;have q:=w.qd i;have h:=w.new g (o:=.lst vs);have r:∀a∈A,upd H p (.lst vs) a=H a:=λa f=>upd_ne λe=>m (.inl (e▸f));obtain⟨l,j,rfl,t,s⟩:=OwL.fx i;have n:∀c,(c∈p::(l++j)\/b.S0 c)->(c∈l++j\/b.S0 c)\/H c=none:=λc z=>by
  rcases z with z|z
  ·rcases aaa.mp z with rfl|z
   ·exact .inr g
   ·exact .inl (.inl z)
  ·exact .inl (.inr z)
 refine⟨⟨p::(l++j),Ows.cons (.lst av (Ows.step (Kp.put (.inr g)) n q (λa f=>r a (aae _ f)) (OwL.u2 e t))) (Ows.step (Kp.put (.inr g)) n q (λa f=>r a (aad _ f)) s),aaF.mpr ⟨λz=>m (.inl z),B⟩,λa f=>?_⟩,h.fr,h.s0,h.nt⟩;rcases aaa.mp f with rfl|f
 ·exact .inl (w.u3 g)
 ·exact k a f
theorem Wd.newDic(w:Wd b H L)(f:H p=none):Wd b (upd H p (.dK [])) ((.ref p,.dic [] [])::L):=by
 obtain⟨A,j,l,i⟩:=w.out;have k:=w.al j f;have m:=w.qd j;have h:=w.new f (o:=.dK []);have n:∀c,(c∈p::A\/b.S0 c)->(c∈A\/b.S0 c)\/H c=none:=λc z=>by
  rcases z with z|z
  ·rcases aaa.mp z with rfl|z
   ·exact .inr f
   ·exact .inl (.inl z)
  ·exact .inl (.inr z)
 refine⟨⟨p::A,Ows.cons (A:=[p]) (.dic av rfl rfl .nil) (Ows.step (Kp.put (.inr f)) n m (λa g=>upd_ne λe=>k (.inl (e▸g))) j),aaF.mpr ⟨λz=>k (.inl z),l⟩,λa g=>?_⟩,h.fr,h.s0,h.nt⟩;rcases aaa.mp g with rfl|g
 ·exact .inl (w.u3 f)
 ·exact i a g
end
def OD.kids:OD->List OD
 |.lst xs=>xs|.tup xs=>xs|.dic _ xs=>xs|.obj _ _ xs=>xs
 |_=>[]
def OD.eu(k:Nat)(y:OD):OD->OD
 |.lst xs=>.lst (xs.set k y)|.tup xs=>.tup (xs.set k y)|.dic ks xs=>.dic ks (xs.set k y)|.obj c ns xs=>.obj c ns (xs.set k y)
 |x=>x
def OD.at:List Nat->OD->Option OD
 |[],x=>some x
 |k::ks,x=>match x.kids[k]? with|some z=>OD.at ks z|none=>none
def OD.put(y:OD):List Nat->OD->OD
 |[],_=>y
 |k::ks,x=>match x.kids[k]? with|some z=>OD.eu k (OD.put y ks z) x|none=>x
inductive Chd (b:Bs)(H:Hp):V->OD->Nat->V->OD->Prop
 |lst {a vs xs k w z}:H a=some (.lst vs)->vs.length=xs.length->vs[k]?=some w->xs[k]?=some z->Chd b H (.ref a) (.lst xs) k w z
 |tup {a vs xs k w z}:H a=some (.tup vs)->vs.length=xs.length->vs[k]?=some w->xs[k]?=some z->Chd b H (.ref a) (.tup xs) k w z
 |dic {a ws ks xs k w z}:H a=some (.dK ws)->ws.map (·.1)=ks->ws.length=xs.length->(ws[k]?).map (·.2)=some w->xs[k]?=some z->Chd b H (.ref a) (.dic ks xs) k w z
 |obj {a dx c fs ns xs k w z}:H a=some (.ins (aI b.K c) dx fs)->fs.map (·.1)=ns->fs.length=xs.length->(fs[k]?).map (·.2)=some w->xs[k]?=some z->Chd b H (.ref a) (.obj c ns xs) k w z
inductive Chn (b:Bs)(H:Hp):V->OD->List Nat->V->OD->Prop
 |nil {v x}:Chn b H v x [] v x
 |cons {v x k w z ks u y}:Chd b H v x k w z->Chn b H w z ks u y->Chn b H v x (k::ks) u y
section
variable{b:Bs}{S S':Addr->Prop}{H H1 H':Hp}{L L':List (V×OD)}{v u:V}{x y:OD}{d:PyData}{ds:List PyData}{p a:Addr}
theorem bt{f:Type}(e B c:List f):(e++(B++c)).Perm (B++(e++c)):=by rw[<-aaf,<-aaf];exact aa2.append_right _
theorem ba{c:Type}:∀{l:List c}{i:Nat}{x:c},l[i]?=some x->l.set i x=l
 |[],_,_,e=>by simp at e
 |_::_,0,_,e=>by simp at e;subst e;rfl
 |y::l,i+1,x,e=>by rw[aaG,ba (by simpa using e)]
theorem Ow.kid(h:Ow b S H v x A)(e:x.kids[k]?=some z):∃w B D,Chd b H v x k w z/\Ow b S H w z B/\A.Perm (B++D) /\
  ∀{S':Addr->Prop}{H':Hp}{r:OD}{j:List Addr},Kp S H H'->(∀c,S' c->S c\/H c=none)->(∀a xs,H a=some (.tup xs)->¬ S a)->(∀a∈D,H' a=H a)->Ow b S' H' w r j->∃C,Ow b S' H' v (OD.eu k r x) C/\C.Perm (j++D):=by
 cases h with
 |fz _=>cases k<;>cases e
 |pinL _ _=>cases k<;>cases e
 |pinT _ _=>cases k<;>cases e
 |hole _=>cases k<;>cases e
 |@lst a vs xs A e1 t=>obtain⟨w,g,B,f,i,rfl,l,m⟩:=t.zip e;refine⟨w,B,a::(g++f),.lst e1 t.len i e,l,((bt g B f).cons a).trans aap.symm,λ{S' H' r j} k n hs s h=>?_⟩;have:=m h λq h=>Ow.step k n hs (λa o=>s a (aak _ (aaj.mpr (q a o)))) h;rw[ba i]at this;exact⟨_,.lst ((s a aal).trans e1) this,((bt g j f).cons a).trans aap.symm⟩
 |@tup a vs xs A e1 t=>obtain⟨w,g,B,f,i,rfl,l,m⟩:=t.zip e;refine⟨w,B,g++f,.tup e1 t.len i e,l,bt g B f,λ{S' H' r j} k n hs s h=>?_⟩;have:=m h λq h=>Ow.step k n hs (λa o=>s a (aaj.mpr (q a o))) h;rw[ba i]at this;exact⟨_,.tup (k.k _ _ e1 (hs _ _ e1)) this,bt g j f⟩
 |@dic a ws ks vs xs A e1 h5 h6 t=>obtain⟨w,g,B,f,i,rfl,l,m⟩:=t.zip e;refine⟨w,B,a::(g++f),.dic e1 h5 (by rw[<-t.len,<-h6,aag]) (by rw[<-h6]at i;simpa using i) e,l,((bt g B f).cons a).trans aap.symm,λ{S' H' r j} k n hs s h=>?_⟩;have:=m h λq h=>Ow.step k n hs (λa o=>s a (aak _ (aaj.mpr (q a o)))) h;rw[ba i]at this;exact⟨_,.dic ((s a aal).trans e1) h5 h6 this,((bt g j f).cons a).trans aap.symm⟩
 |@obj a dx c fs ns vs xs A e1 e2 h5 h6 t=>
  obtain⟨w,g,B,f,i,rfl,l,m⟩:=t.zip e;have G:∀B:List Addr,(a::dx::(g++(B++f))).Perm (B++(a::dx::(g++f))):=λB=>by refine(((bt g B f).cons dx).cons a).trans ?_;exact((aap ).symm.cons a).trans aap.symm
  refine⟨w,B,a::dx::(g++f),.obj e1 h5 (by rw[<-t.len,<-h6,aag]) (by rw[<-h6]at i;simpa using i) e,l,G B,λ{S' H' r j} k n hs s h=>?_⟩;have:=m h λq h=>Ow.step k n hs (λa o=>s a (aak _ (aak _ (aaj.mpr (q a o))))) h;rw[ba i]at this;exact⟨_,.obj ((s a aal).trans e1) ((s dx (aak _ aal)).trans e2) h5 h6 this,G j⟩
theorem Ow.path:∀{ks:List Nat}{v:V}{x:OD}{A:List Addr}{y:OD},Ow b S H v x A->x.at ks=some y->∃u B f,Chn b H v x ks u y/\Ow b S H u y B/\A.Perm (B++f) /\
  ∀{S':Addr->Prop}{H':Hp}{j:OD}{i:List Addr},Kp S H H'->(∀c,S' c->S c\/H c=none)->(∀a xs,H a=some (.tup xs)->¬ S a)->(∀a∈f,H' a=H a)->Ow b S' H' u j i->∃g,Ow b S' H' v (OD.put j ks x) g/\g.Perm (i++f)
 |[],v,x,A,y,h,e=>by simp only[OD.at]at e;cases e;exact⟨v,A,[],.nil,h,by simp,λ{S' H' j i} _ _ _ _ h=>⟨i,h,by simp⟩⟩
 |k::ks,v,x,A,y,h,e=>by
  simp only[OD.at]at e;cases l:x.kids[k]? with
  |none=>rw[l]at e;cases e
  |some z=>rw[l]at e;simp only at e;obtain⟨w,B,f,M,D,o,r⟩:=h.kid l;obtain⟨u,Q,t,T,q,U,G⟩:=Ow.path D e;refine⟨u,Q,t++f,.cons M T,q,o.trans (by rw[<-aaf];exact U.append_right _),λ{S' H' j i} k' n hs s h=>?_⟩;obtain⟨X,C,O⟩:=G k' n hs (λa m=>s a (aae _ m)) h;obtain⟨J,I,N⟩:=r k' n hs (λa m=>s a (aad _ m)) C;refine⟨J,?_,N.trans (by rw[<-aaf];exact O.append_right _)⟩;simp only[OD.put,l];exact I
end
end
section
section
variable{b:Bs}{S S':Addr->Prop}{H H1 H':Hp}{L L':List (V×OD)}{v u:V}{x y:OD}{d:PyData}{ds:List PyData}{p a:Addr}{us:List V}{zs:List OD}{ks:List Nat}
theorem Wd.mutC(w:Wd b H (us.zip zs++((v,x)::L)))(el:us.length=zs.length)(e:x.at ks=some y):∃(S:Addr->Prop) (u:V) (B C:List Addr),Chn b H v x ks u y/\Ow b S H u y B/\Ows b S H us zs C/\(B++C).Nodup/\(∀c∈B,S c)/\(∀c,H c=none->¬ S c)/\(∀c xs,H c=some (.tup xs)->¬ S c)/\FrzIn b S H L /\
  ∀{H':Hp}{U:OD}{D:List Addr},(∀c,c ∉ B->H' c=H c)->(∀c∈B,∃o,H' c=some o/\MutO o)->D.Nodup->(∀c∈D,c∈B\/c∈C)->(∀S':Addr->Prop,(∀c,S' c->S c)->(∀c∈B,S' c->c∈D)->Ow b S' H' u U D)->Wd b H' ((v,OD.put U ks x)::L):=by
 obtain⟨A0,T,nd,m⟩:=w.out;have O:=w.qd T;have al:=λ{a}=>w.al T (a:=a);obtain⟨C,A1,rfl,hz,h1⟩:=OwL.fx T;cases h1 with
 |@cons _ _ A _ _ E r t=>
  obtain⟨u,B,J,ch,hy,pB,go⟩:=Ow.path r e;obtain⟨nC,a1,s⟩:=aaC.mp nd;obtain⟨nA,nE,l⟩:=aaC.mp a1;have a0:=pB.nodup_iff.mp nA;obtain⟨nB,Y,G⟩:=aaC.mp a0;have f:∀c,c∈A ↔ c∈B\/c∈J:=λc=>by rw[pB.mem_iff,aaj]
  refine⟨_,u,B,C,ch,hy,OwL.u2 el hz,aaC.mpr ⟨nB,nC,λc h I i e=>s I i c (aae _ ((f c).mpr (.inl h))) e.symm⟩,λc h=>.inl (aad _ (aae _ ((f c).mpr (.inl h)))),λc e=>al e,O,OwL.u4 t,λ{H' U D} hk hm nD sD hO=>?_⟩;have X:Kp (λc=>c∈C++(A++E)\/b.S0 c) H H':=⟨λc o e n=>by
    rw[hk c λz=>n (.inl (aad _ (aae _ ((f c).mpr (.inl z)))))];exact e,λc e=>by
    by_cases z:c∈B
    ·obtain⟨o,q,_⟩:=hm c z;rw[q]at e;cases e
    ·rw[hk c z]at e;exact e⟩
  have j:∀c,(c∈(D++J)++E\/b.S0 c)->(c∈C++(A++E)\/b.S0 c):=λc z=>z.imp (λz=>by
   rcases aaj.mp z with z|z
   ·rcases aaj.mp z with z|z
    ·rcases sD c z with z|z
     ·exact aad _ (aae _ ((f c).mpr (.inl z)))
     ·exact aae _ z
    ·exact aad _ (aae _ ((f c).mpr (.inr z)))
   ·exact aad _ (aad _ z)) id
  obtain⟨N,hx,pA⟩:=go X (λc z=>.inl (j c z)) O (λc h=>hk c λz=>G c z c h rfl) (hO _ j λc h z=>by
   rcases z with z|z
   ·rcases aaj.mp z with z|z
    ·rcases aaj.mp z with z|z
     ·exact z
     ·exact absurd rfl (G c h c z)
    ·exact absurd rfl (l c ((f c).mpr (.inl h)) c z)
   ·exact absurd z (w.dj m c (aad _ (aae _ ((f c).mpr (.inl h))))))
  have g:∀c,c∈N ↔ c∈D++J:=λc=>pA.mem_iff;have M:∀c xs,H' c=some (.tup xs)->¬ (c∈(D++J)++E\/b.S0 c):=λc xs e z=>by
   by_cases q:c∈B
   ·obtain⟨o,q1,q2⟩:=hm c q;rw[q1]at e;cases e;exact q2
   ·rw[hk c q]at e;exact O c xs e (j c z)
  have Q:∀c∈D,∀I∈J,c≠I:=λc h I i e=>by
   subst e;rcases sD c h with z|z
   ·exact G c z c i rfl
   ·exact s c z c (aae _ ((f c).mpr (.inr i))) rfl
  refine⟨⟨N++E,Ows.cons (Ow.sub M (λc z=>z.imp (λz=>(aaj.mp z).elim (λz=>aae _ ((g c).mp z)) (aad _)) id) hx) (Ows.step X (λc z=>.inl (j c (z.imp (λz=>(aaj.mp z).elim (λz=>aae _ ((g c).mp z)) (aad _)) id))) O (λc h=>hk c λz=>l c ((f c).mpr (.inl z)) c h rfl) t),?_,λc h=>?_⟩,?_,w.s0,λc xs e z=>?_⟩
  ·refine aaC.mpr ⟨pA.nodup_iff.mpr (aaC.mpr ⟨nD,Y,Q⟩),nE,λc h I i e=>?_⟩;subst e;rcases aaj.mp ((g c).mp h) with z|z
   ·rcases sD c z with z|z
    ·exact l c ((f c).mpr (.inl z)) c i rfl
    ·exact s c z c (aad _ i) rfl
   ·exact l c ((f c).mpr (.inr z)) c i rfl
  ·have:c∈C++(A++E)\/b.S0 c:=j c (.inl ((aaj.mp h).elim (λz=>aae _ ((g c).mp z)) (aad _)));have Z:c∈C++(A++E):=by
    rcases aaj.mp h with z|z
    ·rcases aaj.mp ((g c).mp z) with z|z
     ·rcases sD c z with z|z
      ·exact aad _ (aae _ ((f c).mpr (.inl z)))
      ·exact aae _ z
     ·exact aad _ (aae _ ((f c).mpr (.inr z)))
    ·exact aad _ (aad _ z)
   exact m c Z
  ·refine⟨λc o e n=>?_,λc e=>w.fr.n c (X.n c e)⟩;rw[hk c λz=>?_]
   ·exact w.fr.k c o e n
   ·rcases m c (aad _ (aae _ ((f c).mpr (.inl z)))) with q|q
    ·rw[q]at e;cases e
    ·exact n q
  ·exact M c xs e (.inr z)
theorem Wd.rd(w:Wd b H (us.zip zs++((v,x)::L)))(Z:us.length=zs.length)(e:x.at ks=some (.lst xs)):∃a vs,Chn b H v x ks (.ref a) (.lst xs)/\H a=some (.lst vs)/\vs.length=xs.length /\
  ∀f i,(∀(S:Addr->Prop) (H:Hp) (A C:List Addr),(∀c xs,H c=some (.tup xs)->¬ S c)->Ows b S H vs xs A->Ows b S H us zs C->(A++C).Nodup->∃D,Ows b S H f i D/\D.Nodup/\∀c∈D,c∈A\/c∈C)->Wd b (upd H a (.lst f)) ((v,OD.put (.lst i) ks x)::L):=by
 obtain⟨S,u,B,C,T,Y,Q,U,X,al,l,fi,N⟩:=w.mutC Z e;cases Y with
 |@lst a vs _ A e1 t=>
  refine⟨a,vs,T,e1,t.len,λf i M=>?_⟩;obtain⟨k,G⟩:=aaF.mp (show (a::(A++C)).Nodup from U);have j:∀c,c≠a->upd H a (.lst f) c=H c:=λc n=>upd_ne n;have J:Kp S H (upd H a (.lst f)):=Kp.put (.inl (X a (by simp)));have r:∀S':Addr->Prop,(∀c,S' c->S c)->∃D,Ows b S' (upd H a (.lst f)) f i D/\D.Nodup/\∀c∈D,c∈A\/c∈C:=λS' h=>by
   refine M S' _ A C (λc xs e z=>?_) (Ows.step J (λc z=>.inl (h c z)) l (λc g=>j c λe=>k (e▸aae _ g)) t) (Ows.step J (λc z=>.inl (h c z)) l (λc g=>j c λe=>k (e▸aad _ g)) Q) G;by_cases q:c=a
   ·subst q;rw[av]at e;cases e
   ·rw[upd_ne q]at e;exact l c xs e (h c z)
  obtain⟨D,hD,O,I⟩:=r S λ_ z=>z;have s:∀c xs,upd H a (.lst f) c=some (.tup xs)->¬ S c:=λc xs e z=>by
   by_cases q:c=a
   ·subst q;rw[av]at e;cases e
   ·rw[upd_ne q]at e;exact l c xs e z
  refine N (λc n=>j c λe=>n (by simp[e])) (λc g=>?_) (aaF.mpr ⟨λz=>k (by rcases I a z with z|z<;>simp[z]),O⟩) (λc g=>?_) λS' h _=>.lst av (Ows.sub s h hD)
  ·rcases aaa.mp g with rfl|g
   ·exact⟨_,av,trivial⟩
   ·obtain⟨o,q,m⟩:=t.mu c g;exact⟨o,by rw[j c λe=>k (e▸aae _ g)];exact q,m⟩
  ·rcases aaa.mp g with rfl|g
   ·exact .inl (by simp)
   ·exact(I c g).imp (aak _) id
theorem Wd.u5(w:Wd b H (us.zip zs++((v,x)::L)))(el:us.length=zs.length)(e:x.at ks=some (.dic kk xs)):∃a ws,Chn b H v x ks (.ref a) (.dic kk xs)/\H a=some (.dK ws)/\ws.map (·.1)=kk/\ws.length=xs.length /\
  ∀f h i,f.map (·.1)=h->(∀(S:Addr->Prop) (H:Hp) (A C:List Addr),(∀c xs,H c=some (.tup xs)->¬ S c)->Ows b S H (ws.map (·.2)) xs A->Ows b S H us zs C->(A++C).Nodup->∃D,Ows b S H (f.map (·.2)) i D/\D.Nodup/\∀c∈D,c∈A\/c∈C)->Wd b (upd H a (.dK f)) ((v,OD.put (.dic h i) ks x)::L):=by
 obtain⟨S,u,B,C,U,Z,T,X,Y,al,s,fi,O⟩:=w.mutC el e;cases Z with
 |@dic a ws _ vs _ A e1 h5 h6 t=>
  subst h6;refine⟨a,ws,U,e1,h5,by have:=t.len;rwa [aag]at this,λf h i r N=>?_⟩;obtain⟨l,I⟩:=aaF.mp (show (a::(A++C)).Nodup from X);have k:∀c,c≠a->upd H a (.dK f) c=H c:=λc n=>upd_ne n;have M:Kp S H (upd H a (.dK f)):=Kp.put (.inl (Y a (by simp)));have j:∀c xs,upd H a (.dK f) c=some (.tup xs)->¬ S c:=λc xs e z=>by
   by_cases q:c=a
   ·subst q;rw[av]at e;cases e
   ·rw[upd_ne q]at e;exact s c xs e z
  obtain⟨D,hD,Q,J⟩:=N S _ A C j (Ows.step M (λc z=>.inl z) s (λc g=>k c λe=>l (e▸aae _ g)) t) (Ows.step M (λc z=>.inl z) s (λc g=>k c λe=>l (e▸aad _ g)) T) I;refine O (λc n=>k c λe=>n (by simp[e])) (λc g=>?_) (aaF.mpr ⟨λz=>l (by rcases J a z with z|z<;>simp[z]),Q⟩) (λc g=>?_) λS' G _=>.dic av r rfl (Ows.sub j G hD)
  ·rcases aaa.mp g with rfl|g
   ·exact⟨_,av,trivial⟩
   ·obtain⟨o,q,m⟩:=t.mu c g;exact⟨o,by rw[k c λe=>l (e▸aae _ g)];exact q,m⟩
  ·rcases aaa.mp g with rfl|g
   ·exact .inl (by simp)
   ·exact(J c g).imp (aak _) id
theorem Chd.det(h:Chd b H v x k w z)(h':Chd b H v x k w' z'):w=w'/\z=z':=by
 cases h with
 |lst i l g j=>cases h' with|lst f m c e=>rw[i]at f;cases f;rw[g]at c;cases c;rw[j]at e;cases e;exact⟨rfl,rfl⟩
 |tup i l g j=>cases h' with|tup f m c e=>rw[i]at f;cases f;rw[g]at c;cases c;rw[j]at e;cases e;exact⟨rfl,rfl⟩
 |dic i l n g j=>cases h' with|dic f m o c e=>rw[i]at f;cases f;rw[g]at c;cases c;rw[j]at e;cases e;exact⟨rfl,rfl⟩
 |obj i l n g j=>cases h' with|obj f m o c e=>rw[i]at f;cases f;rw[g]at c;cases c;rw[j]at e;cases e;exact⟨rfl,rfl⟩
theorem Chd.same(h:Chd b H v x k w z)(h':Chd b H v (OD.eu k y x) k w' y'):w=w':=by
 cases h with
 |lst g i f l=>cases h' with|lst e m c j=>rw[g]at e;cases e;rw[f]at c;cases c;rfl
 |tup g i f l=>cases h' with|tup e m c j=>rw[g]at e;cases e;rw[f]at c;cases c;rfl
 |dic g i n f l=>cases h' with|dic e m o c j=>rw[g]at e;cases e;rw[f]at c;cases c;rfl
 |obj g i n f l=>cases h' with|obj e m o c j=>rw[g]at e;cases e;rw[f]at c;cases c;rfl
theorem Chd.kid(h:Chd b H v x k w z):x.kids[k]?=some z:=by
 cases h with
 |lst _ _ _ e=>exact e
 |tup _ _ _ e=>exact e
 |dic _ _ _ _ e=>exact e
 |obj _ _ _ _ e=>exact e
theorem Chd.set(h:Chd b H v x k w z):(OD.eu k y x).kids[k]?=some y:=by
 cases h with
 |lst _ _ _ e=>exact aaS (aah.mp e).1
 |tup _ _ _ e=>exact aaS (aah.mp e).1
 |dic _ _ _ _ e=>exact aaS (aah.mp e).1
 |obj _ _ _ _ e=>exact aaS (aah.mp e).1
theorem Wd.tr(w:Wd b H ((v,x)::L))(e:x.at ks=some y)(T:y.dat=some d):∃u,Chn b H v x ks u y/\Wd b H ((u,.fz d)::(v,OD.put (.fz d) ks x)::L):=by
 obtain⟨S,u,B,C,l,m,hz,nd,hS,al,J,fi,r⟩:=Wd.mutC (us:=[]) (zs:=[]) w rfl e;have n:Wd b H ((v,OD.put (.fz d) ks x)::L):=r (λ_ _=>rfl) (λc h=>m.mu c h) abN (λc h=>by cases h) λS' i D=>.fz (Ow.frz i J (λa U z=>by cases D a U z) m T);refine⟨u,l,n.add λj t N I=>?_⟩;obtain⟨A1,Q⟩:=t (v,OD.put (.fz d) ks x) (by simp);have q:∀{ks:List Nat}{v u:V}{x:OD}{A:List Addr},Chn b H v x ks u y->Ow b j H v (OD.put (.fz d) ks x) A->Fz b.K j H u d:=λ{ks}=>by
  induction ks with
  |nil=>intro v u x A c o;cases c;simp only[OD.put]at o;cases o with|fz f=>exact f
  |cons k ks O=>
   intro v u x A c o;cases c with
   |cons g Y=>have G:=g.kid;simp only[OD.put,G]at o;obtain⟨u',B',Z,s,M,_⟩:=o.kid g.set;have X:=g.same s;subst X;exact O Y M
 exact q l Q
end
end
section
abbrev DSp:=List OD->(OD->List OD->Prop)->Prop
def E4(K:Waa)(S:Addr->Prop)(A:List Addr)(vs:List V)(H:Hp)(Q:VK)(x:OD)(ys:List OD):Prop:=∀v b B,Kp (λa=>a∈A) H b ->
 Ows ⟨K,H,S,λa=>a∈A⟩ (λa=>a∈B\/S a) b (v::vs) (x::ys) B->B.Nodup->(∀a∈B,H a=none\/a∈A)->Q v b
def toSp(K:Waa)(sp:DSp):Sp:=λc H Q _=>∃(S:Addr->Prop) (b:List OD) (A:List Addr),(∀a,S a->H a≠none/\a ∉ A)/\(∀a b,H a=some (.tup b)->¬ S a) /\
 Ows ⟨K,H,S,λa=>a∈A⟩ (λa=>a∈A\/S a) H c b A/\A.Nodup/\sp b (E4 K S A c H Q)
def tD(sp:DSp):Prop:=∀a (P R:OD->List OD->Prop),(∀x b,P x b->R x b)->sp a P->sp a R
section
variable{b:Bs}{H H':Hp}{L:List (V×OD)}{v:V}{x:OD}
theorem Wd.call(w:Wd b H (us.zip xs++L))(el:us.length=xs.length)(m:tD sp)
  (h:sp xs λx ys=>us.length=ys.length->∀v H',Wd b H' ((v,x)::(us.zip ys++L))->Q v H'):toSp b.K sp us H Q E:=by
 obtain⟨A0,C,Y,f⟩:=w.out;have q:=w.qd C;have s:=λ{a}=>w.al C (a:=a);obtain⟨A,g,rfl,T,S⟩:=OwL.fx C;obtain⟨U,G,t⟩:=aaC.mp Y;have l:=w.dj f;refine⟨λa=>a∈g\/b.S0 a,xs,A,λa z=>⟨λe=>s e (z.imp (aad _) id),λd=>?_⟩,λa xs e z=>q a xs e (z.imp (aad _) id),?_,U,m _ _ _ (λx ys hQ v H' B r J N D=>?_) h⟩
 ·rcases z with z|z
  ·exact t a d a z rfl
  ·exact l a (aae _ d) z
 ·refine Ows.subB (b2:=⟨b.K,H,λa=>a∈g\/b.S0 a,λa=>a∈A⟩) (b:=b) rfl q (λc z=>?_) (OwL.u2 el T);rcases z with z|z|z
  ·exact .inl (aae _ z)
  ·exact .inl (aad _ z)
  ·exact .inr z
 have y:us.length=ys.length:=by have:=J.len;simpa using this
 have j:∀a,a ∉ A->H a≠none->H' a=H a:=λa d i=>by
  cases e:H a with
  |none=>exact absurd e i
  |some o=>exact r.k a o e d
 have I:Kp (λa=>a∈A++g\/b.S0 a) H H':=r.weak λc u=>.inl (.inl (aae _ u));have X:∀c,(c∈B++g\/b.S0 c)->(c∈A++g\/b.S0 c)\/H c=none:=λc z=>by
  rcases z with z|z
  ·rcases aaj.mp z with z|z
   ·exact(D c z).elim .inr λz=>.inl (.inl (aae _ z))
   ·exact .inl (.inl (aad _ z))
  ·exact .inl (.inr z)
 have p:∀a xs,H' a=some (.tup xs)->¬ (a∈B\/a∈g\/b.S0 a):=λa xs e z=>by
  rcases z with z|z
  ·exact J.tl a z xs e
  ·have d:a ∉ A:=λd=>by
    rcases z with z|z
    ·exact t a d a z rfl
    ·exact l a (aae _ d) z
   have O:H a≠none:=λe=>s e (z.imp (aad _) id);rw[j a d O]at e;exact q a xs e (z.imp (aad _) id)
 have Z:((v,x)::(us.zip ys++L))=((v::us).zip (x::ys))++L:=rfl;refine hQ y v H' ?_;rw[Z];refine⟨⟨B++g,OwL.kq (OwL.j1 (Ows.subB (b2:=b) (b:=⟨b.K,H,λa=>a∈g\/b.S0 a,λa=>a∈A⟩) rfl p (λc z=>?_) J)) (Ows.step I X q (λa i=>j a (λd=>t a d a i rfl) λe=>s e (.inl (aad _ i))) S),aaC.mpr ⟨N,G,λa i c u e=>?_⟩,λa i=>?_⟩,?_,w.s0,λa xs e z=>p a xs e (.inr (.inr z))⟩
 ·rcases z with z|z
  ·exact(aaj.mp z).imp id .inl
  ·exact .inr (.inr z)
 ·subst e;rcases D a i with z|z
  ·exact s z (.inl (aad _ u))
  ·exact t a z a u rfl
 ·rcases aaj.mp i with z|z
  ·rcases D a z with z|z
   ·exact .inl (w.u3 z)
   ·exact f a (aae _ z)
  ·exact f a (aad _ z)
 ·refine⟨λc o e M=>r.k c o (w.fr.k c o e M) λd=>?_,λc e=>w.fr.n c (r.n c e)⟩;rcases f c (aae _ d) with z|z
  ·rw[z]at e;cases e
  ·exact M z
theorem Wd.pin(w:Wd b H ((v,.fz d)::L))(e:d=if l then .list ds else .tuple ds):∃xs,Wd b H ((v,.pin l xs ds)::L):=by
 obtain⟨j,i,h,c⟩:=w.out;cases i with
 |cons r t=>
  cases r with
  |fz r=>
   cases l with
   |true=>subst e;obtain⟨a,xs,rfl,f,g⟩:=r.n8;exact⟨xs,⟨⟨_,Ows.cons (.pinL f g) t,h,c⟩,w.fr,w.s0,w.nt⟩⟩
   |false=>subst e;obtain⟨a,xs,rfl,f,g⟩:=r.rx;exact⟨xs,⟨⟨_,Ows.cons (.pinT f g) t,h,c⟩,w.fr,w.s0,w.nt⟩⟩
theorem Wd.pinned(w:Wd b H L)(m:(v,OD.pin l xs ds)∈L):∃a,v=.ref a/\xs.length=ds.length/\(if l then SqL b.K H a xs else SqT b.K H a xs)/\Wd b H (xs.zip (ds.map OD.fz)++L):=by
 obtain⟨A,g,i,f⟩:=w.out;obtain⟨B,h⟩:=OwL.mem g m;have q:Wd b H (xs.zip (ds.map OD.fz)++L):=w.adds λS e=>by
  obtain⟨B,h⟩:=e _ m;cases h with
  |pinL _ t=>exact t
  |pinT _ t=>exact t
 cases h with
 |pinL c d=>exact⟨_,rfl,d.length,c.now,q⟩
 |pinT c d=>exact⟨_,rfl,d.length,c.now,q⟩
end
end
section
abbrev DEnv:=List (Option OD)
def flat:St->DEnv->List (V×OD)
 |some v::σ,some x::ρ=>(v,x)::flat σ ρ
 |_::σ,_::ρ=>flat σ ρ
 |_,_=>[]
def Wf:St->DEnv->Prop
 |[],[]=>True
 |_::σ,none::ρ=>Wf σ ρ
 |some _::σ,some _::ρ=>Wf σ ρ
 |_,_=>False
section
variable{σ:St}{ρ:DEnv}{i:Nat}{x y:OD}{v u:V}
theorem aV:flat (o::σ) (none::ρ)=flat σ ρ:=by cases o<;>rfl
theorem Wf.get:∀{σ:St}{ρ:DEnv}{i:Nat},Wf σ ρ->ρ[i]?=some (some x)->∃v,σ[i]?=some (some v)
 |[],[],_,_,e=>by simp at e
 |[],_::_,_,h,_=>by simp[Wf]at h
 |_::_,[],_,_,e=>by simp at e
 |some v::_,some _::_,0,_,_=>⟨v,rfl⟩
 |none::_,some _::_,_,h,_=>by simp[Wf]at h
 |o::_,none::_,0,_,e=>by simp at e
 |o::σ,none::ρ,i+1,h,e=>by obtain⟨v,q⟩:=Wf.get (ρ:=ρ) h (by simpa using e);exact⟨v,by simpa using q⟩
 |some _::σ,some _::ρ,i+1,h,e=>by obtain⟨v,q⟩:=Wf.get (ρ:=ρ) h (by simpa using e);exact⟨v,by simpa using q⟩
theorem Wf.len:∀{σ:St}{ρ:DEnv},Wf σ ρ->σ.length=ρ.length
 |[],[],_=>rfl
 |[],_::_,h=>by simp[Wf]at h
 |_::_,[],h=>by simp[Wf]at h
 |o::σ,none::ρ,h=>by simp[Wf.len (σ:=σ) h]
 |some _::σ,some _::ρ,h=>by simp[Wf.len (ρ:=ρ) h]
 |none::_,some _::_,h=>by simp[Wf]at h
theorem Wf.off:∀{σ:St}{ρ:DEnv}{i:Nat},Wf σ ρ->Wf σ (ρ.set i none)
 |[],[],_,_=>trivial
 |[],_::_,_,h=>by simp[Wf]at h
 |_::_,[],_,h=>by simp[Wf]at h
 |o::σ,none::ρ,0,h=>h
 |some _::σ,some _::ρ,0,h=>h
 |none::_,some _::_,_,h=>by simp[Wf]at h
 |o::σ,none::ρ,i+1,h=>Wf.off (σ:=σ) h
 |some _::σ,some _::ρ,i+1,h=>Wf.off (i:=i) h
theorem Wf.put:∀{σ:St}{ρ:DEnv}{i:Nat},Wf σ ρ->Wf (σ.set i (some v)) (ρ.set i (some x))
 |[],[],_,_=>trivial
 |[],_::_,_,h=>by simp[Wf]at h
 |_::_,[],_,h=>by simp[Wf]at h
 |o::σ,none::ρ,0,h=>h
 |some _::σ,some _::ρ,0,h=>h
 |none::_,some _::_,_,h=>by simp[Wf]at h
 |o::σ,none::ρ,i+1,h=>Wf.put (σ:=σ) h
 |some _::σ,some _::ρ,i+1,h=>Wf.put (i:=i) h
theorem aZ:∀{σ:St}{ρ:DEnv}{i:Nat},ρ[i]?=some (some x)->σ[i]?=some (some v)->(flat σ ρ).Perm ((v,x)::flat σ (ρ.set i none))
 |[],_,_,_,e=>by simp at e
 |_::_,[],_,e,_=>by simp at e
 |some u::σ,some y::ρ,0,e,e'=>by simp at e e';subst e e';exact .refl _
 |none::_,_::_,0,_,e=>by simp at e
 |some _::_,none::_,0,e,_=>by simp at e
 |o::σ,none::ρ,i+1,e,e'=>by rw[aaG,aV,aV];exact aZ (by simpa using e) (by simpa using e')
 |some u::σ,some y::ρ,i+1,e,e'=>by rw[aaG];exact((aZ (σ:=σ) (by simpa using e) (by simpa using e')).cons _).trans (List.Perm.swap _ _ _)
 |none::σ,some y::ρ,i+1,e,e'=>by rw[aaG];exact aZ (by simpa using e) (by simpa using e')
theorem bO:∀{σ:St}{ρ:DEnv}{i:Nat},i<ρ.length->σ.length=ρ.length->(flat (σ.set i (some v)) (ρ.set i (some x))).Perm ((v,x)::flat σ (ρ.set i none))
 |_,[],_,h,_=>by simp at h
 |[],_::_,_,_,h=>by simp at h
 |o::σ,y::ρ,0,_,_=>by rw[abO,abO,abO,aV];exact .refl _
 |o::σ,none::ρ,i+1,h,h'=>by rw[aaG,aaG,aaG,aV,aV];exact bO (by simpa using h) (by simpa using h')
 |none::σ,some _::ρ,i+1,h,h'=>by rw[aaG,aaG,aaG];exact bO (σ:=σ) (by simpa using h) (by simpa using h')
 |some u::σ,some y::ρ,i+1,h,h'=>by rw[aaG,aaG,aaG];exact((bO (by simpa using h) (by simpa using h')).cons _).trans (List.Perm.swap _ _ _)
theorem set_self{a:Type}:∀{l:List a}{i:Nat}{x:a},l[i]?=some x->l.set i x=l
 |[],_,_,e=>by simp at e
 |_::_,0,_,e=>by simp at e;subst e;rfl
 |y::l,i+1,x,e=>by rw[aaG,set_self (by simpa using e)]
end
inductive OR where|val (x:OD)|rf (i:Nat)
def stk:List V->List OR->List (V×OD)
 |v::τ,.val x::θ=>(v,x)::stk τ θ
 |_::τ,.rf _::θ=>stk τ θ
 |_,_=>[]
def Al(σ:St):List V->List OR->Prop
 |[],[]=>True
 |_::τ,.val _::θ=>Al σ τ θ
 |v::τ,.rf i::θ=>σ[i]?=some (some v)/\Al σ τ θ
 |_,_=>False
structure Fr where
 σ:St
 ρ:DEnv
 τ:List V
 θ:List OR
def ff(F:List Fr):List (V×OD):=F.flatMap λf=>stk f.τ f.θ++flat f.σ f.ρ
structure Rel (b:Bs)(F:List Fr)(σ:St)(H:Hp)(ρ:DEnv)(τ:List V)(θ:List OR):Prop where
 wf:Wf σ ρ
 al:Al σ τ θ
 wff:∀f∈F,Wf f.σ f.ρ/\Al f.σ f.τ f.θ
 wd:Wd b H (stk τ θ++(flat σ ρ++ff F))
def aq(ρ:DEnv):OR->Option PyData
 |.val x=>x.dat
 |.rf i=>(ρ[i]?.join).bind OD.dat
section
variable{b:Bs}{F:List Fr}{σ:St}{H H':Hp}{ρ ρ':DEnv}{τ vs:List V}{θ rs:List OR}{v u:V}{r:OR}{x y:OD}{d:PyData}{i:Nat}
theorem join_some{a:Type}{o:Option (Option a)}{x:a}(h:o.join=some x):o=some (some x):=by
 cases o with
 |none=>cases h
 |some o=>exact congrArg some h
theorem Al.len:∀{τ:List V}{θ:List OR},Al σ τ θ->τ.length=θ.length
 |[],[],_=>rfl
 |[],_::_,h=>by simp[Al]at h
 |_::_,[],h=>by simp[Al]at h
 |_::τ,.val _::θ,h=>by simp[Al.len (τ:=τ) h]
 |_::τ,.rf _::θ,h=>by simp[Al.len h.2]
theorem aC:∀{vs τ:List V}{rs θ:List OR},vs.length=rs.length->stk (vs++τ) (rs++θ)=stk vs rs++stk τ θ
 |[],_,[],_,_=>rfl
 |_::vs,τ,.val _::rs,θ,e=>by simp only[aaL,stk];rw[aC (by simpa using e)]
 |_::vs,τ,.rf _::rs,θ,e=>by simp only[aaL,stk];exact aC (by simpa using e)
 |[],_,_::_,_,e=>by simp at e
 |_::_,_,[],_,e=>by simp at e
theorem aS:∀{vs τ:List V}{rs θ:List OR},vs.length=rs.length->(Al σ (vs++τ) (rs++θ) ↔ Al σ vs rs/\Al σ τ θ)
 |[],_,[],_,_=>by simp[Al]
 |_::vs,τ,.val _::rs,θ,e=>by simp only[aaL,Al];exact aS (by simpa using e)
 |_::vs,τ,.rf _::rs,θ,e=>by simp only[aaL,Al];rw[aS (by simpa using e),and_assoc]
 |[],_,_::_,_,e=>by simp at e
 |_::_,_,[],_,e=>by simp at e
theorem Rel.rot(R:Rel b F σ H ρ (vs++v::τ) (rs++r::θ))(e:vs.length=rs.length):Rel b F σ H ρ (v::vs++τ) (r::rs++θ):=by
 obtain⟨h,g⟩:=(aS e).mp R.al;have a:Al σ [v] [r]/\Al σ τ θ:=(aS rfl).mp g;refine⟨R.wf,(aS (vs:=[v]) (rs:=[r]) rfl).mpr ⟨a.1,(aS e).mpr ⟨h,a.2⟩⟩,R.wff,R.wd.perm ?_⟩;refine acb _ ?_;have f:stk (v::vs++τ) (r::rs++θ)=stk [v] [r]++(stk vs rs++stk τ θ):=by rw[<-aC e,<-aC rfl];rfl
 have c:stk (vs++v::τ) (rs++r::θ)=stk vs rs++(stk [v] [r]++stk τ θ):=by rw[aC e,<-aC (rs:=[r]) rfl];rfl
 rw[f,c,<-aaf,<-aaf];exact aa2.append_right _
theorem Rel.x4(R:Rel b F σ H ρ (v::vs++τ) (r::rs++θ))(e:vs.length=rs.length):Rel b F σ H ρ (vs++v::τ) (rs++r::θ):=by
 obtain⟨j,f⟩:=(aS (vs:=[v]) (rs:=[r]) rfl).mp R.al;obtain⟨g,h⟩:=(aS e).mp f;refine⟨R.wf,(aS e).mpr ⟨g,(aS rfl).mpr ⟨j,h⟩⟩,R.wff,R.wd.perm ?_⟩;refine acb _ ?_;have c:stk (v::vs++τ) (r::rs++θ)=stk [v] [r]++(stk vs rs++stk τ θ):=by rw[<-aC e,<-aC rfl];rfl
 have a:stk (vs++v::τ) (rs++r::θ)=stk vs rs++(stk [v] [r]++stk τ θ):=by rw[aC e,<-aC (rs:=[r]) rfl];rfl
 rw[c,a,<-aaf,<-aaf];exact aa2.append_right _
theorem Rel.drop(R:Rel b F σ H ρ (v::τ) (r::θ)):Rel b F σ H ρ τ θ:=by
 cases r with
 |val x=>exact⟨R.wf,R.al,R.wff,R.wd.drop⟩
 |rf i=>exact⟨R.wf,R.al.2,R.wff,R.wd⟩
theorem Rel.drops(R:Rel b F σ H ρ (vs++τ) (rs++θ))(e:vs.length=rs.length):Rel b F σ H ρ τ θ:=by
 induction vs generalizing rs with
 |nil=>cases rs with
  |nil=>exact R
  |cons _ _=>simp at e
 |cons v vs a=>cases rs with
  |nil=>simp at e
  |cons r rs=>exact a (Rel.drop R) (by simpa using e)
theorem Rel.sc(R:Rel b F σ H ρ τ θ)(h:Sc v d):Rel b F σ H ρ (v::τ) (.val (.fz d)::θ):=⟨R.wf,R.al,R.wff,R.wd.sc h⟩
theorem Rel.slot(R:Rel b F σ H ρ τ θ)(e:ρ[i]?=some (some x)):∃v,σ[i]?=some (some v)/\Wd b H ((v,x)::(stk τ θ++(flat σ (ρ.set i none)++ff F))):=by obtain⟨v,a⟩:=R.wf.get e;refine⟨v,a,R.wd.perm ?_⟩;refine((aZ e a).append_right _ |>.append_left _).trans ?_;exact aap
theorem Rel.ua(c:Wf σ ρ)(e:Al (σ.set i (some v)) τ θ)(a:∀f∈F,Wf f.σ f.ρ/\Al f.σ f.τ f.θ)(hi:i<ρ.length)(w:Wd b H ((v,x)::(stk τ θ++(flat σ (ρ.set i none)++ff F)))):Rel b F (σ.set i (some v)) H (ρ.set i (some x)) τ θ:=by refine⟨c.put,e,a,w.perm ?_⟩;refine(aap.symm).trans ?_;exact((bO hi c.len).symm.append_right _).append_left _
theorem Rel.back(c:Wf σ ρ)(g:Al σ τ θ)(a:∀f∈F,Wf f.σ f.ρ/\Al f.σ f.τ f.θ)(ev:σ[i]?=some (some v))(w:Wd b H ((v,x)::(stk τ θ++(flat σ (ρ.set i none)++ff F)))):Rel b F σ H (ρ.set i (some x)) τ θ:=by
 have h:i<ρ.length:=by rw[<-c.len];exact(aah.mp ev).1
 have e:σ.set i (some v)=σ:=set_self ev;have:=Rel.ua c (by rw[e];exact g) a h w;rw[e]at this;exact this
theorem Rel.dt(R:Rel b F σ H ρ (v::τ) (r::θ))(e:aq ρ r=some d):Dt b.K H v d:=by
 cases r with
 |val x=>exact R.wd.z4 (by simp[stk]) e
 |rf i=>
  simp only[aq,aaB]at e;obtain⟨x,f,a⟩:=e;obtain⟨u,c,w⟩:=R.drop.slot (join_some f);have:v=u:=by have:=R.al.1;rw[c]at this;cases this;rfl
  subst this;exact w.z4 (aal) a
theorem Rel.dt2(R:Rel b F σ H ρ (u::v::τ) (a::r::θ))(e:aq ρ r=some d):Dt b.K H v d:=(R.drop).dt e
theorem Rel.frzS(R:Rel b F σ H ρ τ θ)(e:ρ[i]?=some (some x))(a:x.dat=some d):Rel b F σ H (ρ.set i (some (.fz d))) τ θ:=by obtain⟨v,c,w⟩:=R.slot e;exact Rel.back R.wf R.al R.wff c (w.frz a)
theorem Rel.dupS(R:Rel b F σ H ρ τ θ)(e:ρ[i]?=some (some (.fz d)))(ev:σ[i]?=some (some v)):Rel b F σ H ρ (v::τ) (.val (.fz d)::θ):=by obtain⟨u,a,w⟩:=R.slot e;rw[ev]at a;cases a;have c:=w.dup;have f:ρ.set i (some (.fz d))=ρ:=set_self e;have:=Rel.back (i:=i) (τ:=v::τ) (θ:=.val (.fz d)::θ) R.wf R.al R.wff ev (c.perm (List.Perm.swap _ _ _));rw[f]at this;exact this
def frz1(ρ:DEnv):OR->Option (PyData×DEnv)
 |.val x=>x.dat.map (·,ρ)
 |.rf i=>(ρ[i]?.join).bind λx=>x.dat.map λd=>(d,ρ.set i (some (.fz d)))
theorem Rel.frz1(R:Rel b F σ H ρ (v::τ) (r::θ))(e:frz1 ρ r=some (d,ρ')):Rel b F σ H ρ' (v::τ) (.val (.fz d)::θ):=by
 cases r with
 |val x=>simp only[L2.frz1,aaJ]at e;obtain⟨f,a,c⟩:=e;cases c;exact⟨R.wf,R.al,R.wff,R.wd.frz a⟩
 |rf i=>simp only[L2.frz1,aaB,aaJ]at e;obtain⟨x,a,f,c,h⟩:=e;cases h;have g:i<ρ.length:=(aah.mp (join_some a)).1;exact(R.drop.frzS (join_some a) c).dupS (by rw[aaS g]) R.al.1
def frzL(ρ:DEnv):List OR->Option (List PyData×DEnv)
 |[]=>some ([],ρ)
 |r::rs=>(L2.frz1 ρ r).bind λz=>(frzL z.2 rs).map λy=>(z.1::y.1,y.2)
theorem iJ:∀{vs:List V}{rs:List OR}{ρ ρ':DEnv}{ds:List PyData}{τ:List V}{θ:List OR},Rel b F σ H ρ (vs++τ) (rs++θ)->vs.length=rs.length->L2.frzL ρ rs=some (ds,ρ')->Rel b F σ H ρ' (vs++τ) (ds.map (λd=>OR.val (.fz d))++θ)/\vs.length=ds.length
 |[],[],_,_,_,_,_,R,_,e=>by simp only[L2.frzL]at e;cases e;exact⟨R,rfl⟩
 |v::vs,r::rs,ρ,ρ',ds,τ,θ,R,e,h=>by
  simp only[L2.frzL,aaB,aaJ]at h;obtain⟨⟨d,ρ1⟩,k,⟨m,ρ2⟩,f,j⟩:=h;cases j;have g:Rel b F σ H ρ1 (v::(vs++τ)) (.val (.fz d)::(rs++θ)):=Rel.frz1 R k;have c:vs.length=rs.length:=by simpa using e
  obtain⟨l,a⟩:=iJ (Rel.x4 g c) c f;exact⟨Rel.rot l (by rw[a,aag]),by simp[a]⟩
 |[],_::_,_,_,_,_,_,_,e,_=>by simp at e
 |_::_,[],_,_,_,_,_,_,e,_=>by simp at e
end
end
section
section
variable{X:Cx}
def Af(K:Waa):R2:=λx y H Q=>∃l b a c,x=.ref l/\y=.ref b/\SqL K H l a/\SqL K H b c/\a.length+c.length<=sizeLine/\∀p,H p=none->Q (.ref p) (upd H p (.lst (a++c)))
theorem tE:OpR X (binaryOp .Add) (Af X.K):=by
 intro m s S H x y v u Q I w B h;obtain⟨l,b,T,N,rfl,rfl,D,A,U,q⟩:=h;cases w;cases B;obtain⟨d,r,⟨⟨c,G,Y,L⟩,n,e,t,_,p⟩,_⟩:=I.list D;obtain⟨a,o,⟨⟨Z,j,J,i⟩,C,k,g,_,f⟩,_⟩:=I.list A;have M:=r.length;have O:=o.length;simp only at t p g f;subst t p g f;refine concat_meets ⟨_,e,rfl⟩ ⟨_,k,rfl⟩ noFill_list_add seq_list_add PySem.F.slot_list_add PySem.F.entry_list_add (PySem.F.args_list_add_2 _ _) (list_addW l b d.toArray a.toArray n C G j L i (by rw[aam,aam];omega)) ⟨e,k,?_⟩;have z:d.toArray++a.toArray=(d++a).toArray:=by simp
 rw[z];exact⟨.ref _,_,I.lnew (r.append o) (by rw[aaw];omega),rfl,q _ I.fresh⟩
end
abbrev DK:=OR->DEnv->Prop
abbrev DE:=DEnv->DK->Prop
abbrev DT:=DEnv->(Bool->DEnv->Prop)->Prop
abbrev DA:=DEnv->(List OR->DEnv->Prop)->Prop
abbrev DR2:=PyData->PyData->(PyData->Prop)->Prop
abbrev DR1:=PyData->(PyData->Prop)->Prop
abbrev DRn:=List PyData->(PyData->Prop)->Prop
def bG(K:Waa)(j:TE)(i:DE):Prop:=∀(b:Bs) (F:List Fr) (c:St) (H:Hp) (d:DEnv) (e:List V) (f:List OR) (g:DK) (Q:VK),b.K=K->Rel b F c H d e f->i d g->(∀v h r a,Rel b F c h a (v::e) (r::f)->g r a->Q v h)->j c H Q
def SndT(K:Waa)(j:TT)(i:DT):Prop:=∀(b:Bs) (F:List Fr) (c:St) (H:Hp) (d:DEnv) (e:List V) (f:List OR) (g:Bool->DEnv->Prop) (Q:Bool->Hp->Prop),b.K=K->Rel b F c H d e f->i d g->(∀k h a,Rel b F c h a e f->g k a->Q k h)->j c H Q
def xC(K:Waa)(l:TA)(k:DA):Prop:=∀(b:Bs) (F:List Fr) (e:St) (H:Hp) (f:DEnv) (g:List V) (h:List OR) (i:List OR->DEnv->Prop) (Q:List V->Hp->Prop),b.K=K->Rel b F e H f g h->k f i->(∀d j c a,d.length=c.length->Rel b F e j a (d++g) (c++h)->i c a->Q d j)->l e H Q
inductive PDe (X:Cx)(e:Expr)(de:DE):Prop|mk (te:TE) (h:PE X e te) (s:bG X.K te de)
inductive PDt (X:Cx)(e:Expr)(de:DT):Prop|mk (te:TT) (h:PT X e te) (s:SndT X.K te de)
inductive PDw (X:Cx)(e:Expr)(de:DT):Prop|mk (te:TT) (h:PW X e te) (s:SndT X.K te de)
inductive PDa (X:Cx)(es:List Expr)(de:DA):Prop|mk (te:TA) (h:PA X es te) (s:xC X.K te de)
section
variable{X:Cx}{K:Waa}{a b c e:Expr}{es:List Expr}{da db dc:DE}{pos:Pos}{x:Str}{i:Nat}
def dVar(i:Nat):DE:=λf Q=>match f[i]?.join with
 |some (.fz d)=>Q (.val (.fz d)) f
 |some _=>Q (.rf i) f
 |none=>False
theorem tF:bG K (tVar i) (dVar i):=by
 intro b F k H g n o m Q p R h q;unfold dVar at h;cases e:g[i]?.join with
 |none=>rw[e]at h;exact h.elim
 |some x=>
  rw[e]at h;have l:=join_some e;obtain⟨v,j⟩:=R.wf.get l;have f:m (.rf i) g->tVar i k H Q:=λh=>⟨v,j,q v H (.rf i) g ⟨R.wf,show Al k (v::n) (.rf i::o) from ⟨j,R.al⟩,R.wff,R.wd⟩ h⟩
  cases x with
  |fz d=>exact⟨v,j,q v H _ g (R.dupS l j) h⟩
  |_=>exact f h
theorem xD(g:X.N[i]?=some x) (f:Vis X.env.scope x) (h:(x==("__debug__":Str))=false:=by decide) (d:(x==("__classdict__":Str))=false:=by decide):PDe X (.Name x pos) (dVar i):=⟨_,bV g f h d,tF⟩
def dC(d:PyData):DE:=λf Q=>Q (.val (.fz d)) f
theorem lQ(h:Sc v d):bG K (tC v) (dC d):=λb F m H f j k l Q n R g q=>q v H _ f (R.sc h) g
theorem pd_int{i j pos}:PDe X (.Constant (.int i) j pos) (dC (.int i)):=⟨_,kj,lQ (.int i)⟩
theorem pd_bl{k j pos}:PDe X (.Constant (.bool k) j pos) (dC (.bool k)):=⟨_,zo,lQ (.bl k)⟩
theorem pd_non{j pos}:PDe X (.Constant .none j pos) (dC .none):=⟨_,we,lQ .non⟩
theorem pd_str{x j pos}:PDe X (.Constant (.str x) j pos) (dC (.str x)):=⟨_,wg,lQ (.str x)⟩
theorem Rel.addK{b:Bs}(R:Rel b F σ H ρ τ θ)(h:∀S H,Fz b.K S H v d):Rel b F σ H ρ (v::τ) (.val (.fz d)::θ):=⟨R.wf,R.al,R.wff,R.wd.add λS _ _ _=>h S H⟩
theorem pS(j:Gl X x) (g:X.mg x=some u) (r:RelV v u) (s:∀S H,Fz X.K S H v d) (f:(x==("__debug__":Str))=false:=by decide):PDe X (.Name x pos) (dC d):=
 ⟨_,sA j g r f,λb F o H h l m n Q k R f q=>q v H _ h (R.addK (by rw[k];exact s)) f⟩
def SndR2(K:Waa)(j:R2)(r:DR2):Prop:=∀(H:Hp) (v u:V) (h f:PyData) (g:PyData->Prop) (Q:VK),Dt K H v h->Dt K H u f->r h f g->(∀w d,Sc w d->g d->Q w H)->j v u H Q
def gR(r:DR2)(a b:DE):DE:=λk Q=>a k λx g=>b g λy f=>∃j h,aq f x=some j/\aq f y=some h/\r j h λd=>Q (.val (.fz d)) f
theorem kK(I:SndR2 K r2 r)(G:bG K ta da)(J:bG K tb db):bG K (zH r2 ta tb) (gR r da db):=by intro b F l H z L M S Q f R h q;refine G b F l H z L M _ _ f R h λv p x g t A=>J b F l p g _ _ _ _ f t A λu k y n j o=>?_;obtain⟨N,B,C,m,s⟩:=o;exact I k v u N B _ _ (f▸j.dt2 C) (f▸j.dt m) s λw d O D=>q w k _ _ (j.drop.drop.sc O) D
theorem Ag(d:OpR X (binaryOp op) r2)(f:SndR2 X.K r2 r):PDe X a da->PDe X b db->PDe X (.BinOp a op b pos) (gR r da db)
 |⟨_,h1,s1⟩,⟨_,h2,s2⟩=>⟨_,lF d h1 h2,kK f s1 s2⟩
def dI(C:Int->Int->Prop)(g:Int->Int->PyData):DR2:=λx y Q=>∃i j,x=.int i/\y=.int j/\C i j/\Q (g i j)
def vy(g:Int->Int->PyData):DR2:=λx y Q=>∃i j,x=.int i/\y=.int j/\Q (g i j)
theorem tG(h:∀i j,Sc (g i j) (g' i j)):SndR2 K (rI C g) (dI C g'):=by rintro H v u n l m Q k f ⟨i,j,rfl,rfl,c,d⟩ q;cases k;cases f;exact⟨i,j,rfl,rfl,c,q _ _ (h i j) d⟩
theorem pT(h:∀i j,Sc (g i j) (g' i j)):SndR2 K (sj g) (vy g'):=by rintro H v u n l m Q k f ⟨i,j,rfl,rfl,d⟩ q;cases k;cases f;exact⟨i,j,rfl,rfl,q _ _ (h i j) d⟩
abbrev FT:DE->DE->DE:=gR (vy λi j=>.int (i+j))
abbrev FU:DE->DE->DE:=gR (vy λi j=>.int (i-j))
abbrev FV:DE->DE->DE:=gR (dI CMul λi j=>.int (i*j))
abbrev E5:DE->DE->DE:=gR (dI zJ λi j=>.int (i/j))
abbrev FW:DE->DE->DE:=gR (dI (λ_ j=>0<j) λi j=>.int (i%j))
abbrev FX:DE->DE->DE:=gR (dI zK λi j=>.int (i^j.toNat))
theorem xE(f:OpR X (compareOp op) r2)(g:SndR2 X.K r2 r)(d:behindInMarks op b=false):PDe X a da->PDe X b db->PDe X (.Compare a [op] [b] pos) (gR r da db)
 |⟨_,h1,s1⟩,⟨_,h2,s2⟩=>⟨_,sN f h1 h2 d,kK g s1 s2⟩
abbrev Gy:DR2:=vy λi j=>.bool (decide (i<j))
abbrev Gz:DR2:=vy λi j=>.bool (decide (i<=j))
abbrev GA:DR2:=vy λi j=>.bool (decide (j<i))
abbrev GB:DR2:=vy λi j=>.bool (decide (j<=i))
theorem tH{g:Int->Int->Bool}:SndR2 K (sj λi j=>.bl (g i j)) (vy λi j=>.bool (g i j)):=pT λ_ _=>.bl _
def nW:PyData->PyData->Option Bool
 |.int i,.int j=>some (decide (i=j))
 |.bool i,.bool j=>some (decide (i=j))
 |.str i,.str j=>some (decide (i=j))
 |.none,.none=>some true
 |.none,.int _=>some false|.int _,.none=>some false|.none,.str _=>some false|.str _,.none=>some false
 |.int _,.str _=>some false|.str _,.int _=>some false
 |_,_=>none
theorem lR(d:Dt K H v dx)(f:Dt K H u dy)(e:nW dx dy=some k):wQ v u=true/\decide (v=u)=k:=by cases d<;>cases f<;>cases e<;>refine⟨rfl,?_⟩<;>simp
def dEqS:DR2:=λx y Q=>∃k,nW x y=some k/\Q (.bool k)
def dNeS:DR2:=λx y Q=>∃k,nW x y=some k/\Q (.bool (!k))
theorem sr_eq:SndR2 K rEq dEqS:=by rintro H v u n l m Q j g ⟨k,e,d⟩ q;obtain⟨f,h⟩:=lR j g e;exact⟨f,by rw[h];exact q _ _ (.bl k) d⟩
theorem sr_ne:SndR2 K rNe dNeS:=by rintro H v u n l m Q j g ⟨k,e,d⟩ q;obtain⟨f,h⟩:=lR j g e;exact⟨f,by rw[h];exact q _ _ (.bl _) d⟩
def dEqD:DR2:=λx y Q=>SeqAt.shaped x=true/\SeqAt.shaped y=true/\Q (.bool (PyData.eqv x y))
def dNeD:DR2:=λx y Q=>SeqAt.shaped x=true/\SeqAt.shaped y=true/\Q (.bool (!PyData.eqv x y))
theorem xF:SndR2 K (z5 K) dEqD:=λH v u k g m Q l h ⟨j,d,f⟩ q=>⟨k,g,l,h,j,d,q _ _ (.bl _) f⟩
theorem xG:SndR2 K (z6 K) dNeD:=λH v u k g m Q l h ⟨j,d,f⟩ q=>⟨k,g,l,h,j,d,q _ _ (.bl _) f⟩
def Ah:PyData->PyData->Option Bool
 |.int i,.int j=>some (decide (i=j))
 |.str i,.str j=>some (decide (i=j))
 |.none,.none=>some true
 |.int _,.str _=>some false|.str _,.int _=>some false|.none,.int _=>some false|.int _,.none=>some false|.none,.str _=>some false|.str _,.none=>some false
 |_,_=>none
def memD(x:PyData):List PyData->Option Bool
 |[]=>some false
 |y::ys=>(Ah y x).bind λk=>(memD x ys).map (k||·)
def ze:PyData->Bool
 |.int _=>true
 |.str _=>true
 |.none=>true
 |_=>false
def FY(d:Bool):DR2:=λx y Q=>∃f k,(y=.list f\/y=.tuple f)/\ze x=true/\memD x f=some k/\Q (.bool (if d then !k else k))
theorem tI{x y:PyData}(f:Dt K H v x)(d:Dt K H w y)(e:Ah y x=some k):bI w=true/\eqV w v=k:=by cases f<;>cases d<;>cases e<;>exact⟨rfl,rfl⟩
theorem xH{x:PyData}(d:Dt K H v x)(f:ze x=true):bI v=true:=by cases d<;>first|rfl|cases f
theorem lS{x:PyData}(f:Dt K H v x)(m:ze x=true)(h:DtAll K H vs ds)(e:memD x ds=some k):bI v=true/\vs.all bI=true/\inV v vs=k:=by
 induction ds generalizing vs k with
 |nil=>cases h;cases e;exact⟨xH f m,rfl,rfl⟩
 |cons d ds q=>
  cases h with
  |@cons w _ vs _ r t=>
   obtain⟨u,o,e⟩:=aaB.mp e;obtain⟨y,j,rfl⟩:=aaJ.mp e;obtain⟨l,n,g⟩:=q t j;obtain⟨s,p⟩:=tI f r o;refine⟨l,?_,?_⟩
   ·show (bI w&&vs.all bI)=true;rw[s,n];rfl
   ·show (eqV w v||inV v vs)=_;rw[p,g]
theorem vz:SndR2 K (Dg K neg) (FY neg):=by
 rintro H v u y r w Q o l ⟨s,k,p,j,m,n⟩ q;rcases p with rfl|rfl
 ·cases l with
  |lst h t=>obtain⟨g,d,f⟩:=lS o j t m;exact⟨_,_,rfl,.inl h,g,d,by rw[f];exact q _ _ (.bl _) n⟩
 ·cases l with
  |tup h t=>obtain⟨g,d,f⟩:=lS o j t m;exact⟨_,_,rfl,.inr h,g,d,by rw[f];exact q _ _ (.bl _) n⟩
def kL(r o:DR2)(da db dc:DE):DE:=λn Q=>da n λx j=>db j λy f=>∃m h,aq f x=some m/\aq f y=some h/\r m h λz=>∃k,z=.bool k /\
 if k=true then dc f λw g=>∃h l,aq g y=some h/\aq g w=some l/\o h l λd=>Q (.val (.fz d)) g else Q (.val (.fz (.bool false))) f
theorem hU(hr:SndR2 K r2 r)(p:SndR2 K r2' r')(Z:bG K ta da)(hb:bG K tb db)(hc:bG K tc dc):bG K (ko r2 r2' ta tb tc) (kL r r' da db dc):=by
 intro b F n H M τ θ Qd Q g R h q;refine Z b F n H M τ θ _ _ g R h λv I x o J N=>hb b F n I o _ _ _ _ g J N λu l y m j G=>?_;obtain⟨dx,O,Y,C,L⟩:=G;refine hr l v u dx O _ _ (g▸j.dt2 Y) (g▸j.dt C) L λw d A f=>?_;obtain⟨k,rfl,f⟩:=f;cases A;refine⟨k,rfl,?_⟩;cases k with
 |false=>rw[if_neg aab]at f ⊢;exact q _ l _ _ (j.drop.drop.sc (.bl _)) f
 |true=>rw[if_pos rfl]at f ⊢;refine hc b F n l m _ _ _ _ g j f λw B z a0 s U=>?_;obtain⟨t,D,e3,S,T⟩:=U;exact p B u w t D _ _ (g▸s.dt2 e3) (g▸s.dt S) T λw d A f=>q w B _ _ (s.drop.drop.drop.sc A) f
theorem pU(h:OpR X (compareOp op) r2)(j:SndR2 X.K r2 r)(d:OpR X (compareOp op') r2')(f:SndR2 X.K r2' r')(g:lastMarks [op,op'] [b,c]=false:=by with_unfolding_all rfl):
  PDe X a da->PDe X b db->PDe X c dc->PDe X (.Compare a [op,op'] [b,c] pos) (kL r r' da db dc)
 |⟨_,h1,s1⟩,⟨_,h2,s2⟩,⟨_,h3,s3⟩=>⟨_,pd h d h1 h2 h3 g,hU j f s1 s2 s3⟩
def isNn:PyData->Bool|.none=>true|_=>false
def nX(g:Bool)(a:DE):DE:=λh Q=>a h λx f=>∃d,aq f x=some d/\Q (.val (.fz (.bool (if g then !isNn d else isNn d)))) f
theorem fF(h:Dt K H v d):decide (v=.non)=isNn d:=by cases h<;>simp[isNn]
theorem xI{j f}:PDe X a da->PDe X (.Compare a [.Is] [.Constant .none j f] pos) (nX false da)
 |⟨_,g,s1⟩=>⟨_,iz (oP g),λb F σ H ρ τ θ n Q m R h q=>s1 b F σ H ρ τ θ _ _ m R h λv l x ρ1 k ⟨d,e,g⟩=>by
  rw[fF (k.dt e)];exact q _ l _ _ (k.drop.sc (.bl _)) g⟩
theorem tJ{j f}:PDe X a da->PDe X (.Compare a [.IsNot] [.Constant .none j f] pos) (nX true da)
 |⟨_,g,s1⟩=>⟨_,iz (lD g),λb F σ H ρ τ θ n Q m R h q=>s1 b F σ H ρ τ θ _ _ m R h λv l x ρ1 k ⟨d,e,g⟩=>by
  rw[fF (k.dt e)];exact q _ l _ _ (k.drop.sc (.bl _)) g⟩
def E6(K:Waa)(h:V->Hp->VK->Prop)(r:DR1):Prop:=∀(H:Hp) (v:V) (g:PyData) (f:PyData->Prop) (Q:VK),Dt K H v g->r g f->(∀w d,Sc w d->f d->Q w H)->h v H Q
def FZ(r:DR1)(a:DE):DE:=λg Q=>a g λx f=>∃d,aq f x=some d/\r d λz=>Q (.val (.fz z)) f
def Dz:DR1:=λx Q=>∃i,x=.int i/\Q (.int (-i))
theorem xJ:PDe X a da->PDe X (.UnaryOp .USub a pos) (FZ Dz da)
 |⟨_,f,s1⟩=>⟨_,vk oY f,λb F σ H ρ τ θ m Q l R h q=>s1 b F σ H ρ τ θ _ _ l R h λv k x ρ1 g ⟨d,e,i,j,f⟩=>by
  subst j;cases g.dt e;exact⟨i,rfl,q _ k _ _ (g.drop.sc (.int _)) f⟩⟩
def Ai(a b:DE):DE:=λf Q=>a f λx d=>∃k,aq d x=some (.bool k)/\if k=true then b d Q else Q (.val (.fz (.bool false))) d
def DB(a b:DE):DE:=λf Q=>a f λx d=>∃k,aq d x=some (.bool k)/\if k=true then Q (.val (.fz (.bool true))) d else b d Q
def Aj(a:DE):DE:=λf Q=>a f λx d=>∃k,aq d x=some (.bool k)/\Q (.val (.fz (.bool (!k)))) d
theorem pV{d}:PDe X a da->PDe X (.BoolOp d [a] pos) da
 |⟨_,h1,s1⟩=>⟨_,wt h1,s1⟩
theorem xK:PDe X a da->PDe X (.BoolOp .And (b::es) pos) db->PDe X (.BoolOp .And (a::b::es) pos) (Ai da db)
 |⟨_,d,s1⟩,⟨_,h2,s2⟩=>⟨_,wu d h2,λb F σ H ρ τ θ l Q j R h q=>s1 b F σ H ρ τ θ _ _ j R h λv g x ρ1 f ⟨k,e,d⟩=>by
  cases f.dt e;refine⟨k,rfl,?_⟩;cases k with
  |false=>rw[if_neg aab]at d ⊢;exact q _ g _ _ (f.drop.sc (.bl _)) d
  |true=>rw[if_pos rfl]at d ⊢;exact s2 b F σ g ρ1 τ θ _ _ j f.drop d q⟩
theorem Ak:PDe X a da->PDe X (.BoolOp .Or (b::es) pos) db->PDe X (.BoolOp .Or (a::b::es) pos) (DB da db)
 |⟨_,d,s1⟩,⟨_,h2,s2⟩=>⟨_,zw d h2,λb F σ H ρ τ θ l Q j R h q=>s1 b F σ H ρ τ θ _ _ j R h λv g x ρ1 f ⟨k,e,d⟩=>by
  cases f.dt e;refine⟨k,rfl,?_⟩;cases k with
  |true=>rw[if_pos rfl]at d ⊢;exact q _ g _ _ (f.drop.sc (.bl _)) d
  |false=>rw[if_neg aab]at d ⊢;exact s2 b F σ g ρ1 τ θ _ _ j f.drop d q⟩
theorem xM:PDe X a da->PDe X (.UnaryOp .Not a pos) (Aj da)
 |⟨_,d,s1⟩=>⟨_,wx d,λb F σ H ρ τ θ l Q j R h q=>s1 b F σ H ρ τ θ _ _ j R h λv g x ρ1 f ⟨k,e,d⟩=>by
  cases f.dt e;exact⟨k,rfl,q _ g _ _ (f.drop.sc (.bl _)) d⟩⟩
def fb(a:DE):DT:=λf Q=>a f λx d=>∃k,aq d x=some (.bool k)/\Q k d
theorem jD(f:bG K ta da):SndT K (pb ta) (fb da):=λb F j H l p r s Q n R h q=>f b F j H l p r _ _ n R h λv g x o d ⟨k,e,m⟩=>by cases d.dt e;exact⟨k,rfl,q _ g _ d.drop m⟩
theorem kM(f:bG K ta da):SndT K (tB ta) (fb da):=λb F j H l p r s Q n R h q=>f b F j H l p r _ _ n R h λv g x o d ⟨k,e,m⟩=>by cases d.dt e;exact⟨k,rfl,q _ g _ d.drop m⟩
theorem tK(f:OpR X (compareOp op) r2)(g:SndR2 X.K r2 r)(d:behindInMarks op b=false):PDe X a da->PDe X b db->PDt X (.Compare a [op] [b] pos) (fb (gR r da db))
 |⟨_,h1,s1⟩,⟨_,h2,s2⟩=>⟨_,sO f h1 h2 d,jD (kK g s1 s2)⟩
theorem nY(h:OpR X (compareOp op) r2)(j:SndR2 X.K r2 r)(d:OpR X (compareOp op') r2')(f:SndR2 X.K r2' r')(g:lastMarks [op,op'] [b,c]=false:=by with_unfolding_all rfl):
  PDe X a da->PDe X b db->PDe X c dc->PDt X (.Compare a [op,op'] [b,c] pos) (fb (kL r r' da db dc))
 |⟨_,h1,s1⟩,⟨_,h2,s2⟩,⟨_,h3,s3⟩=>⟨_,pe h d h1 h2 h3 g,jD (hU j f s1 s2 s3)⟩
theorem tL{j f}:PDe X a da->PDt X (.Compare a [.Is] [.Constant .none j f] pos) (fb (nX false da))
 |⟨_,g,s1⟩=>⟨_,iA (oP g),kM (λb F σ H ρ τ θ n Q m R h q=>s1 b F σ H ρ τ θ _ _ m R h λv l x ρ1 k ⟨d,e,g⟩=>by
  rw[fF (k.dt e)];exact q _ l _ _ (k.drop.sc (.bl _)) g)⟩
theorem pW{j f}:PDe X a da->PDt X (.Compare a [.IsNot] [.Constant .none j f] pos) (fb (nX true da))
 |⟨_,g,s1⟩=>⟨_,iA (lD g),kM (λb F σ H ρ τ θ n Q m R h q=>s1 b F σ H ρ τ θ _ _ m R h λv l x ρ1 k ⟨d,e,g⟩=>by
  rw[fF (k.dt e)];exact q _ l _ _ (k.drop.sc (.bl _)) g)⟩
def Am(t u:DT):DT:=λf Q=>t f λc d=>if c=true then u d Q else Q false d
def DD(t u:DT):DT:=λf Q=>t f λc d=>if c=true then Q true d else u d Q
def An(t:DT):DT:=λf Q=>t f λc d=>Q (!c) d
variable{dt du:DT}
theorem PDw.pt:PDw X e dt->PDt X e dt
 |⟨_,h,s⟩=>⟨_,h.pt,s⟩
theorem pX:PDt X a dt->PDw X (.BoolOp .And [a] pos) dt
 |⟨_,h,s⟩=>⟨_,sE h,s⟩
theorem tM:PDt X a dt->PDw X (.BoolOp .Or [a] pos) dt
 |⟨_,h,s⟩=>⟨_,wm h,s⟩
theorem tN:PDt X a dt->PDw X (.BoolOp .And (b::es) pos) du->PDw X (.BoolOp .And (a::b::es) pos) (Am dt du)
 |⟨_,d,s1⟩,⟨_,h2,s2⟩=>⟨_,wo d h2,λb F σ H ρ τ θ l Q j R h q=>s1 b F σ H ρ τ θ _ _ j R h λk f ρ1 g d=>by
  cases k with
  |false=>rw[if_neg aab]at d ⊢;exact q _ f _ g d
  |true=>rw[if_pos rfl]at d ⊢;exact s2 b F σ f ρ1 τ θ _ _ j g d q⟩
theorem xN:PDt X a dt->PDw X (.BoolOp .Or (b::es) pos) du->PDw X (.BoolOp .Or (a::b::es) pos) (DD dt du)
 |⟨_,d,s1⟩,⟨_,h2,s2⟩=>⟨_,zq d h2,λb F σ H ρ τ θ l Q j R h q=>s1 b F σ H ρ τ θ _ _ j R h λk f ρ1 g d=>by
  cases k with
  |true=>rw[if_pos rfl]at d ⊢;exact q _ f _ g d
  |false=>rw[if_neg aab]at d ⊢;exact s2 b F σ f ρ1 τ θ _ _ j g d q⟩
theorem tO:PDt X a dt->PDt X (.UnaryOp .Not a pos) (An dt)
 |⟨_,h,s⟩=>⟨_,wq h,λb F σ H ρ τ θ l Q j R h q=>s b F σ H ρ τ θ _ _ j R h λk g ρ1 d f=>q _ g _ d f⟩
def F0(t:DT)(a b:DE):DE:=λf Q=>t f λc d=>if c=true then a d Q else b d Q
theorem Ao:PDt X c dt->PDe X a da->PDe X b db->PDe X (.IfExp c a b pos) (F0 dt da db)
 |⟨_,h,s⟩,⟨_,d,s1⟩,⟨_,h2,s2⟩=>⟨_,oQ h d h2,λb F σ H ρ τ θ l Q f R h q=>s b F σ H ρ τ θ _ _ f R h λk j ρ1 g d=>by
  cases k with
  |true=>rw[if_pos rfl]at d ⊢;exact s1 b F σ j ρ1 τ θ _ _ f g d q
  |false=>rw[if_neg aab]at d ⊢;exact s2 b F σ j ρ1 τ θ _ _ f g d q⟩
def DF:PyData->Option Bool
 |.list ds=>some (!ds.isEmpty)
 |.tuple ds=>some (!ds.isEmpty)
 |.bool k=>some k
 |_=>none
def F1(a:DE):DT:=λg Q=>a g λx f=>∃d k,aq f x=some d/\DF d=some k/\Q k f
theorem DtAll.emp(h:DtAll K H xs ds):xs.isEmpty=ds.isEmpty:=by cases h<;>rfl
end
end
section
section
variable{X:Cx}{K:Waa}{a b c e:Expr}{es:List Expr}{da db dc:DE}{dt:DA}{pos:Pos}{x:Str}
def dNil:DA:=λd Q=>Q [] d
def Ap(a:DE)(t:DA):DA:=λg Q=>a g λx f=>t f λh d=>Q (x::h) d
theorem pda_nil:PDa X [] dNil:=⟨_,bC,λb F j H d f g i Q k R h q=>q [] H [] d rfl R h⟩
theorem pY(t:starEach (e::es) X.env=(false,eval e X.env)::starEach es X.env:=by rfl):PDe X e da->PDa X es dt->PDa X (e::es) (Ap da dt)
 |⟨_,g,s1⟩,⟨_,f,s2⟩=>⟨_,aQ g f t,λb F j H s y z A Q k R h q=>s1 b F j H s y z _ _ k R h λv o r i p g=>s2 b F j o i _ _ _ _ k p g λu m n d l w f=>
  q (v::u) m (r::n) d (by simp[l]) (Rel.rot w l) f⟩
end
def own1(ρ:DEnv):OR->Option (OD×DEnv)
 |.val x=>some (x,ρ)
 |.rf i=>(frz1 ρ (.rf i)).map λz=>(.fz z.1,z.2)
def mv1(ρ:DEnv):OR->Option (OD×DEnv)
 |.val x=>some (x,ρ)
 |.rf i=>(ρ[i]?.join).map λx=>(x,ρ.set i none)
def mapR(f:DEnv->OR->Option (OD×DEnv))(ρ:DEnv):List OR->Option (List OD×DEnv)
 |[]=>some ([],ρ)
 |r::rs=>(f ρ r).bind λz=>(mapR f z.2 rs).map λy=>(z.1::y.1,y.2)
def pZ:List OD->Option (List PyData)
 |[]=>some []
 |.fz d::xs=>match pZ xs with|some ds=>some (d::ds)|none=>none
 |_::_=>none
def mkTup(xs:List OD):OD:=match pZ xs with
 |some a=>.fz (.tuple a)
 |none=>.tup xs
section
variable{b:Bs}{F:List Fr}{σ:St}{H H':Hp}{ρ ρ':DEnv}{τ vs:List V}{θ rs:List OR}{v u:V}{r:OR}{x y:OD}{d:PyData}{ds:List PyData}{i:Nat}{L:List (V×OD)}{p:Addr}
theorem Rel.own1(R:Rel b F σ H ρ (v::τ) (r::θ))(e:own1 ρ r=some (x,ρ')):Rel b F σ H ρ' (v::τ) (.val x::θ):=by
 cases r with
 |val x=>simp only[L2.own1]at e;cases e;exact R
 |rf i=>simp only[L2.own1,aaJ]at e;obtain⟨⟨d,f⟩,c,a⟩:=e;cases a;exact R.frz1 c
theorem Rel.mv1(R:Rel b F σ H ρ (v::τ) (r::θ))(e:mv1 ρ r=some (x,ρ')):Rel b F σ H ρ' (v::τ) (.val x::θ):=by
 cases r with
 |val x=>simp only[L2.mv1]at e;cases e;exact R
 |rf i=>
  simp only[L2.mv1,aaJ]at e;obtain⟨x,f,a⟩:=e;cases a;obtain⟨u,c,w⟩:=R.drop.slot (join_some f);have:v=u:=by have:=R.al.1;rw[c]at this;cases this;rfl
  subst this;exact⟨R.wf.off,R.drop.al,R.wff,w⟩
theorem dF{f:DEnv->OR->Option (OD×DEnv)}(a:∀{ρ ρ':DEnv}{τ:List V}{θ:List OR}{v:V}{r:OR}{x:OD},Rel b F σ H ρ (v::τ) (r::θ)->f ρ r=some (x,ρ')->Rel b F σ H ρ' (v::τ) (.val x::θ)):
  ∀{vs:List V}{rs:List OR}{ρ ρ':DEnv}{xs:List OD}{τ:List V}{θ:List OR},Rel b F σ H ρ (vs++τ) (rs++θ)->vs.length=rs.length->mapR f ρ rs=some (xs,ρ')->Rel b F σ H ρ' (vs++τ) (xs.map OR.val++θ)/\vs.length=xs.length
 |[],[],_,_,_,_,_,R,_,e=>by simp only[mapR]at e;cases e;exact⟨R,rfl⟩
 |v::vs,r::rs,ρ,ρ',ds,τ,θ,R,e,h=>by
  simp only[mapR,aaB,aaJ]at h;obtain⟨⟨d,ρ1⟩,m,⟨o,ρ2⟩,j,l⟩:=h;cases l;have k:Rel b F σ H ρ1 (v::(vs++τ)) (.val d::(rs++θ)):=a R m;have g:vs.length=rs.length:=by simpa using e
  obtain⟨n,c⟩:=dF a (Rel.x4 (vs:=vs) (rs:=rs) k g) g j;exact⟨Rel.rot n (by rw[c,aag]),by simp[c]⟩
 |[],_::_,_,_,_,_,_,_,e,_=>by simp at e
 |_::_,[],_,_,_,_,_,_,e,_=>by simp at e
theorem cD:∀{vs:List V}{xs:List OD},vs.length=xs.length->stk vs (xs.map OR.val)=vs.zip xs
 |[],[],_=>rfl
 |_::_,_::_,e=>by simp only[aan,stk,abu];rw[cD (by simpa using e)]
 |[],_::_,e=>by simp at e
 |_::_,[],e=>by simp at e
theorem Rel.vals{xs:List OD}(R:Rel b F σ H ρ (vs++τ) (xs.map OR.val++θ))(e:vs.length=xs.length):Wd b H (vs.zip xs++(stk τ θ++(flat σ ρ++ff F))):=by have w:=R.wd;rw[aC (by rw[aag];exact e),cD e,aaf]at w;exact w
theorem Rel.push(R:Rel b F σ H ρ τ θ)(w:Wd b H' ((v,x)::(stk τ θ++(flat σ ρ++ff F)))):Rel b F σ H' ρ (v::τ) (.val x::θ):=⟨R.wf,R.al,R.wff,w⟩
theorem Wd.below{z:V×OD}{L1 L2:List (V×OD)}(w:Wd b H (z::(L1++L2))):Wd b H (z::L2):=Wd.drops (L1:=L1) (w.perm (aap.symm))
theorem fzL_map{xs:List OD}{ds:List PyData}(e:pZ xs=some ds):xs=ds.map OD.fz:=by
 induction xs generalizing ds with
 |nil=>cases e;rfl
 |cons x xs a=>
  cases x with
  |fz d=>
   rw[pZ]at e;cases h:pZ xs with
   |none=>rw[h]at e;cases e
   |some ds=>rw[h]at e;cases e;rw[a h];rfl
  |_=>cases e
theorem fzL_of:∀(ds:List PyData),pZ (ds.map OD.fz)=some ds
 |[]=>rfl
 |d::ds=>by simp only[aan,pZ,fzL_of ds]
theorem dats_fz:∀(ds:List PyData),OD.eo (ds.map OD.fz)=some ds
 |[]=>rfl
 |d::ds=>by simp only[aan,OD.eo,OD.dat,dats_fz ds]
theorem p0{xs:List OD}(w:Wd b H (vs.zip xs++L))(c:vs.length=xs.length)(a:H p=none):Wd b (upd H p (.tup vs)) ((.ref p,mkTup xs)::L):=by
 unfold mkTup;cases h:pZ xs with
 |some ds=>have g:=fzL_map h;subst g;refine Wd.below (L1:=vs.zip (ds.map OD.fz)) (w.ew (λS e=>e.all (by simpa using c) λz f=>aae _ f) a)
 |none=>exact w.wh c a
end
section
variable{X:Cx}{K:Waa}{a b c e:Expr}{es:List Expr}{da db dc:DE}{dt:DA}{pos:Pos}{x:Str}
def DH(f:DEnv->OR->Option (OD×DEnv))(t:DA):DE:=λj Q=>t j λi g=>∃h d,mapR f g i=some (h,d)/\i.length<=1000000/\Q (.val (mkTup h)) d
def DJ(f:DEnv->OR->Option (OD×DEnv))(t:DA):DE:=λj Q=>t j λi g=>∃h d,mapR f g i=some (h,d)/\i.length<=1000000/\Q (.val (.lst h)) d
structure Hand (f:DEnv->OR->Option (OD×DEnv)):Prop where
 ok:∀{b:Bs}{F:List Fr}{σ:St}{H:Hp}{ρ ρ':DEnv}{τ:List V}{θ:List OR}{v:V}{r:OR}{x:OD},Rel b F σ H ρ (v::τ) (r::θ)->f ρ r=some (x,ρ')->Rel b F σ H ρ' (v::τ) (.val x::θ)
theorem Aq:Hand own1:=⟨Rel.own1⟩
variable{f:DEnv->OR->Option (OD×DEnv)}
theorem xO{n}(k:Hand f):PDa X es dt->PDe X (.Tuple es n pos) (DH f dt)
 |⟨_,d,s1⟩=>⟨_,pk d,λb F σ H ρ τ θ u Q o R h q=>s1 b F σ H ρ τ θ _ _ o R h λvs t rs ρ1 j l ⟨xs,ρ2,r,s,d⟩=>⟨iF (by rw[j];exact s),λp m=>by
  obtain⟨i,g⟩:=dF k.ok l j r;exact q _ _ _ _ ((i.drops (by rw[aag];exact g)).push (p0 (i.vals g) g m)) d⟩⟩
theorem xP(k:Hand f):PDa X es dt->PDe X (.List es pos) (DJ f dt)
 |⟨_,d,s1⟩=>⟨_,wW d,λb F σ H ρ τ θ t Q n R h q=>s1 b F σ H ρ τ θ _ _ n R h λvs s rs ρ1 j l ⟨xs,ρ2,o,r,d⟩=>⟨iF (by rw[j];exact r),λp m=>by
  obtain⟨i,g⟩:=dF k.ok l j o;exact q _ _ _ _ ((i.drops (by rw[aag];exact g)).push ((i.vals g).eg g m)) d⟩⟩
end
def dG(ρ:DEnv):OR->Option OD
 |.val x=>some x
 |.rf i=>ρ[i]?.join
def listOf:OD->Option (List PyData)
 |.fz (.list ds)=>some ds
 |.lst xs=>pZ xs
 |_=>none
def tupOf:OD->Option (List PyData)
 |.fz (.tuple ds)=>some ds
 |_=>none
def sk(ρ:DEnv)(r:OR):Option (List PyData):=(dG ρ r).bind listOf
def sm(ρ:DEnv)(r:OR):Option (List PyData):=(dG ρ r).bind tupOf
def itemO:OD->Int->Option OD
 |.fz (.list ds),i=>match atI ds i with|some d=>some (.fz d)|none=>none
 |.fz (.tuple ds),i=>match atI ds i with|some d=>some (.fz d)|none=>none
 |.lst xs,i=>atI xs i
 |.tup xs,i=>atI xs i
 |_,_=>none
def itemS:OD->Int->Option (PyData×OD)
 |.lst xs,i=>match ixN xs.length i with
  |some k=>match xs[k]? with
   |some c=>match c.dat with|some d=>some (d,.lst (xs.set k (.fz d)))|none=>none
   |none=>none
  |none=>none
 |.tup xs,i=>match ixN xs.length i with
  |some k=>match xs[k]? with
   |some c=>match c.dat with|some d=>some (d,.tup (xs.set k (.fz d)))|none=>none
   |none=>none
  |none=>none
 |_,_=>none
def bb(ρ:DEnv)(r:OR)(i:Int):Option (OD×DEnv):=match r with
 |.val x=>match itemO x i with|some y=>some (y,ρ)|none=>none
 |.rf j=>match ρ[j]?.join with
  |some x=>match itemS x i with|some (d,y)=>some (.fz d,ρ.set j (some y))|none=>none
  |none=>none
section
variable{b:Bs}{F:List Fr}{σ:St}{H H':Hp}{ρ ρ':DEnv}{τ vs:List V}{θ rs:List OR}{v u:V}{r r':OR}{x y:OD}{d:PyData}{ds:List PyData}{i:Nat}{L:List (V×OD)}{p:Addr}
theorem fZ{g e:Type}{xs:List g}{ys:List e}{i:Int}{y:e}(f:xs.length=ys.length)(h:atI ys i=some y):∃k x,ixN xs.length i=some k/\ys[k]?=some y/\xs[k]?=some x/\atI xs i=some x:=by unfold atI at h ⊢;rw[<-f]at h;simp only[aaB]at h;obtain⟨k,c,a⟩:=h;have j:k<ys.length:=(aah.mp a).1;refine⟨k,xs[k]'(by omega),c,a,aao _,?_⟩;rw[c];exact aao _
theorem bX{a c:Type}{xs:List a}{ys:List c}{k:Nat}{x:a}{y:c}(f:xs[k]?=some x)(e:ys[k]?=some y):(x,y)∈xs.zip ys:=by rw[List.mem_iff_getElem?];exact⟨k,by rw[List.getElem?_zip_eq_some];exact⟨f,e⟩⟩
theorem Wd.pick{z:V×OD}{Z:List (V×OD)}(w:Wd b H (Z++L))(m:z∈Z):Wd b H (z::L):=by obtain⟨a,c,rfl⟩:=List.append_of_mem m;refine Wd.below (L1:=a++c) (w.perm ?_);rw[aaf,aaf];exact aap
theorem xQ{n k:Nat}{i:Int}(h:ixN n i=some k):k<n:=by
 unfold ixN at h;split at h
 ·split at h
  ·cases h;omega
  ·cases h
 ·split at h
  ·cases h;omega
  ·cases h
theorem set_at{a:Type}{l:List a}{k:Nat}{x y:a}(h:l[k]?=some x):(l.set k y)[k]?=some y:=aaS (aah.mp h).1
theorem Wd.ro{k:Nat}{z:OD}(w:Wd b H ((v,x)::L))(e:x.kids[k]?=some z):∃u,Chd b H v x k u z/\Wd b H ((u,z)::L):=by
 obtain⟨G,l,_,_⟩:=w.out;cases l with
 |cons r t=>obtain⟨u,B,m,c,_⟩:=r.kid e;refine⟨u,c,Wd.puts (L1:=[(v,x)]) (L2:=[(u,z)]) w λS A h C q I s=>?_⟩;obtain⟨n,B,m,j,o,a,_⟩:=(OwL.one h).kid e;have g:n=u:=(Chd.det j c).1;subst g;have f:∀c∈B,c∈A:=λc D=>a.mem_iff.mpr (aae _ D);exact⟨B,OwL.of1 (Ow.sub s (λc z=>z.elim (·.1) λz=>q c (f c z)) o),(aaC.mp (a.nodup_iff.mp C)).1,f⟩
theorem Fz.at{K:Waa}{S:Addr->Prop}{vs:List V}{ds:List PyData}{k:Nat}{v:V}{d:PyData}(h:FzA K S H vs ds)(e:vs[k]?=some v)(c:ds[k]?=some d):Fz K S H v d:=by obtain⟨u,a,f⟩:=h.get c;rw[e]at a;cases a;exact f
theorem Wd.itemF{i:Int}{l:Bool}(w:Wd b H ((v,.fz (if l then .list ds else .tuple ds))::L))(e:atI ds i=some d):∃p vs u,v=.ref p/\(SqL b.K H p vs\/SqT b.K H p vs)/\atI vs i=some u/\Wd b H ((u,.fz d)::L):=by
 obtain⟨c,f⟩:=Wd.pin w rfl;obtain⟨a,rfl,n,h,j⟩:=f.pinned aal;obtain⟨k,u,_,m,g,o⟩:=fZ n e;refine⟨a,c,u,rfl,?_,o,Wd.below (L1:=[(V.ref a,OD.pin l c ds)]) (j.pick (bX g (by rw[aaq,m];rfl)))⟩;cases l with
 |true=>exact .inl h
 |false=>exact .inr h
theorem Wd.itemO{i:Int}(w:Wd b H ((v,x)::L))(e:itemO x i=some y):∃p vs u,v=.ref p/\(SqL b.K H p vs\/SqT b.K H p vs)/\atI vs i=some u/\Wd b H ((u,y)::L):=by
 cases x with
 |fz d=>
  cases d with
  |list ds=>
   simp only[L2.itemO]at e;cases h:atI ds i with
   |none=>rw[h]at e;cases e
   |some d=>rw[h]at e;cases e;exact Wd.itemF (l:=true) w h
  |tuple ds=>
   simp only[L2.itemO]at e;cases h:atI ds i with
   |none=>rw[h]at e;cases e
   |some d=>rw[h]at e;cases e;exact Wd.itemF (l:=false) w h
  |_=>simp[L2.itemO]at e
 |lst xs=>
  simp only[L2.itemO]at e;obtain⟨k,_,m,f,_⟩:=fZ (xs:=xs) rfl e;obtain⟨u,c,a⟩:=w.ro (k:=k) (z:=y) f;cases c with
  |lst g j n o=>exact⟨_,_,u,rfl,.inl (SqL.of g),by unfold atI;rw[j,m];exact n,a⟩
 |tup xs=>
  simp only[L2.itemO]at e;obtain⟨k,_,m,f,_⟩:=fZ (xs:=xs) rfl e;obtain⟨u,c,a⟩:=w.ro (k:=k) (z:=y) f;cases c with
  |tup g j n o=>exact⟨_,_,u,rfl,.inr (SqT.of g),by unfold atI;rw[j,m];exact n,a⟩
 |dic _ _=>simp[L2.itemO]at e
 |obj _ _ _=>simp[L2.itemO]at e
 |pin _ _ _=>simp[L2.itemO]at e
 |hole _=>simp[L2.itemO]at e
theorem Wd.itemS{i:Int}(w:Wd b H ((v,x)::L))(e:itemS x i=some (d,y)):∃p vs u,v=.ref p/\(SqL b.K H p vs\/SqT b.K H p vs)/\atI vs i=some u/\Wd b H ((u,.fz d)::(v,y)::L):=by
 cases x with
 |fz d=>simp[L2.itemS]at e
 |lst s=>
  simp only[L2.itemS]at e;split at e
  ·rename_i k l;split at e
   ·rename_i c f;split at e
    ·rename_i z n;cases e;obtain⟨u,j,a⟩:=w.tr (ks:=[k]) (y:=c) (d:=d) (by simp[OD.at,OD.kids,f]) n;cases j with
     |cons m q=>
      cases q;cases m with
      |lst g h o t=>simp only[OD.put,OD.kids,f,OD.eu]at a;exact⟨_,_,u,rfl,.inl (SqL.of g),by unfold atI;rw[h,l];exact o,a⟩
    ·cases e
   ·cases e
  ·cases e
 |tup s=>
  simp only[L2.itemS]at e;split at e
  ·rename_i k l;split at e
   ·rename_i c f;split at e
    ·rename_i z n;cases e;obtain⟨u,j,a⟩:=w.tr (ks:=[k]) (y:=c) (d:=d) (by simp[OD.at,OD.kids,f]) n;cases j with
     |cons m q=>
      cases q;cases m with
      |tup g h o t=>simp only[OD.put,OD.kids,f,OD.eu]at a;exact⟨_,_,u,rfl,.inr (SqT.of g),by unfold atI;rw[h,l];exact o,a⟩
    ·cases e
   ·cases e
  ·cases e
 |dic _ _=>simp[L2.itemS]at e
 |obj _ _ _=>simp[L2.itemS]at e
 |pin _ _ _=>simp[L2.itemS]at e
 |hole _=>simp[L2.itemS]at e
end
section
variable{X:Cx}{K:Waa}{a b c e:Expr}{es:List Expr}{da db dc:DE}{dt:DA}{pos:Pos}{x:Str}
def F2(a b:DE):DE:=λh Q=>a h λx g=>b g λy d=>∃i z f,aq d y=some (.int i)/\bb d x i=some (z,f)/\Q (.val z) f
theorem Ar(f:PlainIx b):PDe X a da->PDe X b db->PDe X (.Subscript a b pos) (F2 da db)
 |⟨_,A,s1⟩,⟨_,r,s2⟩=>⟨_,vn pv A r f,λb F σ H ρ τ θ U Q s R h q=>s1 b F σ H ρ τ θ _ _ s R h λv J x ρ1 L A=>s2 b F σ J ρ1 _ _ _ _ s L A λu t y ρ2 G ⟨i,z,ρ3,O,g,r⟩=>by
  have S:=G.dt O;cases S;have l:=G.drop;cases x with
  |val x=>
   simp only[bb]at g;cases k:itemO x i with
   |none=>rw[k]at g;cases g
   |some C=>rw[k]at g;cases g;obtain⟨p,o,u,rfl,f,m,w⟩:=Wd.itemO l.wd k;have n:=q u t _ _ (l.drop.push w) r;rw[s]at f;exact f.elim (λf=>.inl ⟨p,o,i,u,rfl,rfl,f,m,n⟩) λf=>.inr (.inl ⟨p,o,i,u,rfl,rfl,f,m,n⟩)
  |rf j=>
   simp only[bb]at g;cases k:ρ2[j]?.join with
   |none=>rw[k]at g;cases g
   |some x=>
    rw[k]at g;simp only at g;cases B:itemS x i with
    |none=>rw[B]at g;cases g
    |some C=>
     obtain⟨d,N⟩:=C;rw[B]at g;cases g;obtain⟨T,D,w⟩:=l.drop.slot (join_some k);have:v=T:=by have:=l.al.1;rw[D]at this;cases this;rfl
     subst this;obtain⟨p,o,u,rfl,f,m,I⟩:=Wd.itemS w B;have M:Rel b F σ t (ρ2.set j (some N)) (u::τ) (.val (.fz d)::θ):=Rel.back (τ:=u::τ) (θ:=.val (.fz d)::θ) l.wf l.drop.al l.wff D (I.perm (List.Perm.swap _ _ _));have n:=q u t _ _ M r;rw[s]at f;exact f.elim (λf=>.inl ⟨p,o,i,u,rfl,rfl,f,m,n⟩) λf=>.inr (.inl ⟨p,o,i,u,rfl,rfl,f,m,n⟩)⟩
variable{k:Nat}{f:Addr}{fd:FuncData}{ps:List Str}{sp:DSp}{p:Pos}
def GC:PyData->Bool
 |.none=>true|.bool _=>true|.int _=>true|.str _=>true
 |_=>false
def cx(ρ:DEnv):List OR->Option (List PyData)
 |[]=>some []
 |r::rs=>(aq ρ r).bind λd=>(cx ρ rs).map (d::·)
theorem Rel.dtL{b:Bs}{F:List Fr}{σ:St}{H:Hp}{ρ:DEnv}:∀{vs:List V}{rs:List OR}{τ:List V}{θ:List OR}{ds:List PyData},Rel b F σ H ρ (vs++τ) (rs++θ)->vs.length=rs.length->cx ρ rs=some ds->DtAll b.K H vs ds
 |[],[],_,_,_,_,_,e=>by simp only[cx]at e;cases e;exact .nil
 |v::vs,r::rs,τ,θ,ds,R,el,e=>by simp only[cx,aaB,aaJ]at e;obtain⟨d,i,h,g,rfl⟩:=e;exact .cons (Rel.dt R i) (Rel.dtL (Rel.drop R) (by simpa using el) g)
 |[],_::_,_,_,_,_,e,_=>by simp at e
 |_::_,[],_,_,_,_,e,_=>by simp at e
def SndCB(K:Waa)(i:List V->Hp->VK->Prop)(r:DRn):Prop:=∀(H:Hp) (vs:List V) (h:List PyData) (g:PyData->Prop) (Q:VK),DtAll K H vs h->r h g->(∀w d,Sc w d->g d->Q w H)->i vs H Q
def Cq(r:DRn)(t:DA):DE:=λi Q=>t i λj g=>∃h,cx g j=some h/\r h λd=>Q (.val (.fz d)) g
theorem qa{j:List V->Hp->VK->Prop}{r:DRn}{l:TA}(C:SndCB K j r)(o:xC K l dt):bG K (Da j l) (Cq r dt):=λb F s H t D G L Q m R h q=>o b F s H t D G _ _ m R h λB g J y n i ⟨v,z,u⟩=>
 C g B v _ _ (m▸i.dtL n z) u λw d I A=>q w g _ _ ((i.drops n).sc I) A
theorem cE{h:List V->Hp->VK->Prop}{r:DRn}{i:String} (n:CallR X (.builtin i) h) (s:SndCB X.K h r) (m:Gl X x) (j:X.mg x=none) (q:bootBuiltins x=some (.builtin i)) (o:x≠"__name__":=by decide) (d:(x==("__debug__":Str))=false:=by decide)
  (l:starEach (e::es) X.env=(false,eval e X.env)::starEach es X.env:=by rfl) (g:(backTo pos (starEach es X.env)).any (·.1)=false:=by rfl):PDa X (e::es) dt->PDe X (.Call (.Name x p) (e::es) [] pos) (Cq r dt)
 |⟨_,h1,s1⟩=>⟨_,cz n m j q h1 o d l g,qa s s1⟩
theorem qb{h:List V->Hp->VK->Prop}{r:DRn}{i:String} (n:CallR X (.type i) h) (s:SndCB X.K h r) (m:Gl X x) (j:X.mg x=none) (q:bootBuiltins x=some (.type i)) (o:x≠"__name__":=by decide) (d:(x==("__debug__":Str))=false:=by decide)
  (l:starEach (e::es) X.env=(false,eval e X.env)::starEach es X.env:=by rfl) (g:(backTo pos (starEach es X.env)).any (·.1)=false:=by rfl):PDa X (e::es) dt->PDe X (.Call (.Name x p) (e::es) [] pos) (Cq r dt)
 |⟨_,h1,s1⟩=>⟨_,eB n m j q h1 o d l g,qa s s1⟩
def iK:PyData->Option Nat
 |.list ds=>some ds.length
 |.tuple ds=>some ds.length
 |_=>none
def dLen:DRn:=λg Q=>∃d n,g=[d]/\iK d=some n/\Q (.int n)
theorem sc_len:SndCB K (λxs H Q=>∃x n,xs=[x]/\zQ K x H n/\Q (.int n) H) dLen:=by
 rintro H m l j Q i ⟨d,n,rfl,e,g⟩ q;cases i with
 |cons h t=>
  cases t;refine⟨_,n,rfl,?_,q _ _ (.int _) g⟩;cases h with
  |lst s t=>simp only[iK]at e;cases e;exact .inl ⟨_,s,t.length.symm⟩
  |tup s t=>simp only[iK]at e;cases e;exact .inr ⟨_,s,t.length.symm⟩
  |_=>simp[iK]at e
def dAbs:DRn:=λd Q=>∃i,d=[.int i]/\Q (.int (if i<0 then -i else i))
theorem sc_abs:SndCB K (λxs H Q=>∃i,xs=[.int i]/\Q (.int (if i<0 then -i else i)) H) dAbs:=by rintro H j m l Q g ⟨i,rfl,d⟩ q;cases g with|cons h t=>cases t;cases h;exact⟨i,rfl,q _ _ (.int _) d⟩
def dMax:DRn:=λd Q=>∃i j,d=[.int i,.int j]/\Q (.int (if j>i then j else i))
theorem sc_max:SndCB K (λxs H Q=>∃i j,xs=[.int i,.int j]/\Q (.int (if j>i then j else i)) H) dMax:=by rintro H m o n Q l ⟨i,j,rfl,g⟩ q;cases l with|cons h t=>cases t with|cons d t=>cases t;cases h;cases d;exact⟨i,j,rfl,q _ _ (.int _) g⟩
def dMin:DRn:=λd Q=>∃i j,d=[.int i,.int j]/\Q (.int (if j<i then j else i))
theorem sc_min:SndCB K (λxs H Q=>∃i j,xs=[.int i,.int j]/\Q (.int (if j<i then j else i)) H) dMin:=by rintro H m o n Q l ⟨i,j,rfl,g⟩ q;cases l with|cons h t=>cases t with|cons d t=>cases t;cases h;cases d;exact⟨i,j,rfl,q _ _ (.int _) g⟩
def toInt:PyData->Option Int
 |.int i=>some i
 |.bool k=>some (if k then 1 else 0)
 |_=>none
def dInt:DRn:=λg Q=>∃d i,g=[d]/\toInt d=some i/\Q (.int i)
theorem sc_int:SndCB K (λxs H Q=>(∃i,xs=[.int i]/\Q (.int i) H)\/∃k,xs=[.bl k]/\Q (.int (if k then 1 else 0)) H) dInt:=by
 rintro H n o m Q l ⟨d,i,rfl,e,g⟩ q;cases l with
 |cons h t=>
  cases t;cases h with
  |int j=>simp only[toInt]at e;cases e;exact .inl ⟨_,rfl,q _ _ (.int _) g⟩
  |bl k=>simp only[toInt]at e;cases e;exact .inr ⟨_,rfl,q _ _ (.int _) g⟩
  |_=>simp[toInt]at e
def allB:List PyData->Option (List Bool)
 |[]=>some []
 |.bool k::ds=>(allB ds).map (k::·)
 |_::_=>none
theorem jE:∀{ds:List PyData}{d:List Bool},allB ds=some d->ds=d.map PyData.bool
 |[],_,e=>by simp only[allB]at e;cases e;rfl
 |.bool k::ds,_,e=>by simp only[allB,aaJ]at e;obtain⟨d,g,rfl⟩:=e;rw[jE g];rfl
 |.none::_,_,e=>by simp[allB]at e
 |.int _::_,_,e=>by simp[allB]at e
 |.str _::_,_,e=>by simp[allB]at e
 |.list _::_,_,e=>by simp[allB]at e
 |.tuple _::_,_,e=>by simp[allB]at e
 |.dict _::_,_,e=>by simp[allB]at e
theorem DtAll.bls{H:Hp}{vs:List V}{d:List Bool}(h:DtAll K H vs (d.map PyData.bool)):vs=d.map V.bl:=by
 induction d generalizing vs with
 |nil=>cases h;rfl
 |cons n i g=>cases h with|cons r t=>cases r;rw[aan,g t]
def dAll:DRn:=λg Q=>∃es d,g=[.list es]/\allB es=some d/\Q (.bool (d.all id))
theorem sc_all:SndCB K (λxs H Q=>∃(p:Addr) (d:List Bool),xs=[.ref p]/\SqL K H p (d.map V.bl)/\Q (.bl (d.all id)) H) dAll:=by
 rintro H j m l Q i ⟨es,d,rfl,e,g⟩ q;have:=jE e;subst this;cases i with
 |cons h t=>
  cases t;cases h with
  |lst s t=>rw[t.bls]at s;exact⟨_,d,rfl,s,q _ _ (.bl _) g⟩
def F3:PyData->String
 |.none=>"NoneType" |.bool _=>"bool" |.int _=>"int" |.str _=>"str" |.list _=>"list" |.tuple _=>"tuple" |.dict _=>"dict"
theorem Dt.ty{H:Hp}{v:V}{d:PyData}(h:Dt K H v d):Ty K H v (F3 d):=by
 cases h with
 |non=>exact .non
 |bl b=>exact .bl b
 |int i=>exact .int i
 |str x=>exact .str x
 |lst s _=>exact .lst s
 |tup s _=>exact .tup s
def F4(n T:String):Option Bool:=if n=T then some true else match n,T with
 | "bool","int"=>some true
 |_,_=>if n∈["NoneType","bool","int","str","list","tuple"]/\T∈["bool","int","str","list","tuple"] then some false else none
end
end
section
def seqOf(x:OD):Option (List PyData):=match listOf x with
 |some a=>some a
 |none=>tupOf x
section
variable{b:Bs}{F:List Fr}{σ:St}{H H':Hp}{ρ ρ':DEnv}{τ vs:List V}{θ rs:List OR}{v u:V}{r r':OR}{x y:OD}{d:PyData}{ds:List PyData}{i:Nat}{L:List (V×OD)}{p:Addr}
theorem Rel.mem(R:Rel b F σ H ρ (v::τ) (r::θ))(e:dG ρ r=some x):(v,x)∈stk (v::τ) (r::θ)++(flat σ ρ++ff F):=by
 cases r with
 |val y=>simp only[dG]at e;cases e;simp[stk]
 |rf i=>simp only[dG]at e;refine aad _ (aae _ ?_);exact(aZ (join_some e) R.al.1).mem_iff.mpr aal
theorem Rel.mem1(R:Rel b F σ H ρ (u::v::τ) (r'::r::θ))(e:dG ρ r=some x):(v,x)∈stk (u::v::τ) (r'::r::θ)++(flat σ ρ++ff F):=by
 have h:=R.drop.mem e;cases r' with
 |val y=>simp only[stk];exact aak _ h
 |rf i=>exact h
theorem Rel.ez(R:Rel b F σ H ρ (u::v::τ) (r'::r::θ)):Rel b F σ H ρ (u::τ) (r'::θ):=(Rel.rot (vs:=[u]) (rs:=[r']) R rfl).drop
theorem Ows.fzs(h:Ows b S H vs (ds.map OD.fz) A):FzA b.K S H vs ds:=by
 induction ds generalizing vs A with
 |nil=>cases h;exact .nil
 |cons d ds a=>cases h with|cons r t=>cases r with|fz f=>exact .cons f (a t)
theorem Wd.exp(w:Wd b H L)(f:OwL b (λa=>a∈A\/b.S0 a) H L A)(e:A.Nodup)(c:∀a∈A,b.H0 a=none\/b.C a)(h:FzA b.K (λa=>a∈A\/b.S0 a) H vs ds):Wd b H (vs.zip (ds.map OD.fz)++L):=by
 have q:∀{vs:List V}{ds:List PyData},FzA b.K (λa=>a∈A\/b.S0 a) H vs ds->OwL b (λa=>a∈A\/b.S0 a) H (vs.zip (ds.map OD.fz)) []:=by
  intro vs;induction vs with
  |nil=>intro ds h;cases h;exact .nil
  |cons v vs g=>intro ds h;cases h with|cons r t=>exact Ows.cons (.fz r) (g t)
 exact⟨⟨A,OwL.kq (q h) f,e,c⟩,w.fr,w.s0,w.nt⟩
theorem Wd.ay(w:Wd b H L)(m:(v,x)∈L)(e:listOf x=some ds):∃a vs,v=.ref a/\vs.length=ds.length/\SqL b.K H a vs/\Wd b H (vs.zip (ds.map OD.fz)++L):=by
 obtain⟨A,j,k,g⟩:=w.out;obtain⟨B,h⟩:=OwL.mem j m;cases h with
 |@fz _ d f=>
  cases d with
  |list o=>simp only[listOf]at e;cases e;obtain⟨a,vs,rfl,l,c⟩:=f.n8;exact⟨a,vs,rfl,c.length,l.now,w.exp j k g c⟩
  |_=>simp[listOf]at e
 |@lst a vs xs A' e1 t=>simp only[listOf]at e;have n:=fzL_map e;subst n;have c:=Ows.fzs t;exact⟨a,vs,rfl,c.length,SqL.of e1,w.exp j k g c⟩
 |_=>simp[listOf]at e
theorem Wd.ej(w:Wd b H L)(m:(v,x)∈L)(e:tupOf x=some ds):∃a vs,v=.ref a/\vs.length=ds.length/\SqT b.K H a vs/\Wd b H (vs.zip (ds.map OD.fz)++L):=by
 obtain⟨A,j,l,c⟩:=w.out;obtain⟨B,h⟩:=OwL.mem j m;cases h with
 |@fz _ d f=>
  cases d with
  |tuple n=>simp only[tupOf]at e;cases e;obtain⟨a,vs,rfl,k,g⟩:=f.rx;exact⟨a,vs,rfl,g.length,k.now,w.exp j l c g⟩
  |_=>simp[tupOf]at e
 |_=>simp[tupOf]at e
theorem Wd.vv(w:Wd b H L)(m:(v,x)∈L)(e:seqOf x=some ds):∃a vs,v=.ref a/\vs.length=ds.length/\(SqL b.K H a vs\/SqT b.K H a vs)/\Wd b H (vs.zip (ds.map OD.fz)++L):=by
 unfold seqOf at e;cases h:listOf x with
 |some z=>rw[h]at e;cases e;obtain⟨a,vs,g,j,c,f⟩:=w.ay m h;exact⟨a,vs,g,j,.inl c,f⟩
 |none=>rw[h]at e;obtain⟨a,vs,g,j,c,f⟩:=w.ej m e;exact⟨a,vs,g,j,.inr c,f⟩
theorem Rel.eg(R:Rel b F σ H ρ τ θ){Z:List (V×OD)}(w:Wd b H (Z++(stk τ θ++(flat σ ρ++ff F))))(c:vs.length=ds.length)(m:∀z∈vs.zip (ds.map OD.fz),z∈Z++(stk τ θ++(flat σ ρ++ff F)))(f:H p=none):
  Rel b F σ (upd H p (.lst vs)) ρ (.ref p::τ) (.val (.lst (ds.map OD.fz))::θ):=by
 obtain⟨A,e,h,a⟩:=w.out;have g:=Wd.exp w e h a ((OwL.u4 e).all c m);exact R.push (Wd.below (Wd.eg g (by simpa using c) f))
theorem Rel.ew(R:Rel b F σ H ρ τ θ){Z:List (V×OD)}(w:Wd b H (Z++(stk τ θ++(flat σ ρ++ff F))))(e:vs.length=ds.length)(m:∀z∈vs.zip (ds.map OD.fz),z∈Z++(stk τ θ++(flat σ ρ++ff F)))(a:H p=none):
  Rel b F σ (upd H p (.tup vs)) ρ (.ref p::τ) (.val (.fz (.tuple ds))::θ):=R.push (Wd.below (w.ew (λS c=>c.all e m) a))
end
section
variable{X:Cx}{K:Waa}{a b c e:Expr}{es:List Expr}{da db dc:DE}{dt:DA}{pos p:Pos}{x:Str}
def Cr(t:DA):DE:=λg Q=>t g λh d=>∃r f,h=[r]/\(dG d r).bind seqOf=some f/\Q (.val (.lst (f.map OD.fz))) d
def xR(t:DA):DE:=λg Q=>t g λh d=>∃r f,h=[r]/\(dG d r).bind listOf=some f/\Q (.val (.fz (.tuple f))) d
theorem qc(C:Gl X x) (J:X.mg x=none) (S:bootBuiltins x=some (.type "tuple")) (o:x≠"__name__":=by decide) (g:(x==("__debug__":Str))=false:=by decide)
  (L:starEach (e::es) X.env=(false,eval e X.env)::starEach es X.env:=by rfl) (i:(backTo pos (starEach es X.env)).any (·.1)=false:=by rfl):PDa X (e::es) dt->PDe X (.Call (.Name x p) (e::es) [] pos) (xR dt)
 |⟨_,f,s1⟩=>⟨_,eB gQ C J S f o g L i,λb F s H t N O Z Q k R h q=>s1 b F s H t N O _ _ k R h λG U T B j d ⟨r,Y,D,n,f⟩=>by
  subst D;obtain⟨z,I,A⟩:=aaB.mp n
  match G,j with
  |[v],_=>
   obtain⟨a,M,rfl,j,m,w⟩:=d.wd.ay (d.mem I) A;rw[k]at m;exact⟨a,M,rfl,.inl ⟨m,λl u=>q _ _ _ _ (Rel.ez (d.ew w j (λz y=>aae _ y) u)) f⟩⟩⟩
def DL(a b:DE):DE:=λh Q=>a h λx g=>b g λy d=>∃f es,sk d x=some f/\sk d y=some es/\f.length+es.length<=1000000/\Q (.val (.lst ((f++es).map OD.fz))) d
theorem lT{g i:Type}{xs f:List g}{ys d:List i}(h:xs.length=ys.length):(xs++f).zip (ys++d)=xs.zip ys++f.zip d:=List.zip_append h
theorem xS:PDe X a da->PDe X b db->PDe X (.BinOp a .Add b pos) (DL da db)
 |⟨_,i,s1⟩,⟨_,g,s2⟩=>⟨_,lF tE i g,λb F σ H ρ τ θ S Q j R h q=>s1 b F σ H ρ τ θ _ _ j R h λv s x ρ1 t i=>s2 b F σ s ρ1 _ _ _ _ j t i λu M y ρ2 f ⟨ds,es,D,r,hz,g⟩=>by
  obtain⟨O,G,C⟩:=aaB.mp D;obtain⟨N,L,I⟩:=aaB.mp r;obtain⟨a,J,rfl,o,n,w⟩:=f.wd.ay (f.mem1 G) C;obtain⟨c,A,rfl,k,d,m⟩:=w.ay (aad _ (f.mem L)) I;rw[<-aaf]at m;rw[j]at n d;refine⟨a,c,J,A,rfl,rfl,n,d,iF (by omega),λl B=>q _ _ _ _ (Rel.ez (Rel.ez (f.eg m (by simp[o,k]) (λz hz=>?_) B))) g⟩;rw[aay,lT (by simpa using o)]at hz;refine aae _ ?_;rcases aaj.mp hz with hz|hz
  ·exact aad _ hz
  ·exact aae _ hz⟩
def As(a b:DE):DE:=λh Q=>a h λx g=>b g λy d=>∃f es,sm d x=some f/\sm d y=some es/\f≠[]/\es≠[]/\f.length+es.length<=1000000/\Q (.val (.fz (.tuple (f++es)))) d
theorem tP:PDe X a da->PDe X b db->PDe X (.BinOp a .Add b pos) (As da db)
 |⟨_,k,s1⟩,⟨_,j,s2⟩=>⟨_,lF sT k j,λb F σ H ρ τ θ U Q m R h q=>s1 b F σ H ρ τ θ _ _ m R h λv A x ρ1 B k=>s2 b F σ A ρ1 _ _ _ _ m B k λu O y ρ2 i ⟨ds,es,I,t,n,g,hz,j⟩=>by
  obtain⟨T,J,G⟩:=aaB.mp I;obtain⟨S,N,L⟩:=aaB.mp t;obtain⟨a,M,rfl,o,s,w⟩:=i.wd.ej (i.mem1 J) G;obtain⟨c,C,rfl,f,d,r⟩:=w.ej (aad _ (i.mem N)) L;rw[<-aaf]at r;rw[m]at s d;refine⟨a,c,M,C,rfl,rfl,s,d,λz=>n (by subst z;cases ds with|nil=>rfl|cons _ _=>simp at o),iF (by omega),λz=>absurd (show es=[] by subst z;cases es with|nil=>rfl|cons _ _=>simp at f) g,λ_ l D=>q _ _ _ _ (Rel.ez (Rel.ez (i.ew r (by simp[o,f]) (λz hz=>?_) D))) j⟩;rw[aay,lT (by simpa using o)]at hz;refine aae _ ?_;rcases aaj.mp hz with hz|hz
  ·exact aad _ hz
  ·exact aae _ hz⟩
abbrev DO:=DEnv->(Option Int->DEnv->Prop)->Prop
def DM(K:Waa)(n:TO)(m:DO):Prop:=∀(b:Bs) (F:List Fr) (f:St) (H:Hp) (g:DEnv) (h:List V) (i:List OR) (j:Option Int->DEnv->Prop) (Q:Option Int->Hp->Prop),b.K=K->Rel b F f H g h i->m g j->(∀k l d,Rel b F f l d h i->j k d->Q k l)->n f H Q
inductive PDo (X:Cx)(e:Option Expr)(de:DO):Prop|mk (te:TO) (h:PO X e te) (s:DM X.K te de)
def dNoPart:DO:=λd Q=>Q none d
def Au(a:DE):DO:=λf Q=>a f λx d=>∃i,aq d x=some (.int i)/\Q (some i) d
theorem pdo_none:PDo X none dNoPart:=⟨_,sQ,λb F j H d f g i Q k R h q=>q none H d R h⟩
theorem qe:PDe X e da->PDo X (some e) (Au da)
 |⟨_,d,s1⟩=>⟨_,sR d,λb F σ H ρ τ θ k Q j R h q=>s1 b F σ H ρ τ θ _ _ j R h λv g x ρ1 f ⟨i,e,d⟩=>by
  cases f.dt e;exact⟨i,rfl,q _ g _ f.drop d⟩⟩
def cutD{d:Type}(xs:List d)(lo hi:Option Int):List d:=(xs.drop (HT.sIx xs.length 0 lo)).take (HT.sIx xs.length xs.length hi-HT.sIx xs.length 0 lo)
theorem lU{vs:List V}{ds:List OD}(f:vs.length=ds.length)(lo hi:Option Int):∀z∈(cutD vs lo hi).zip (cutD ds lo hi),z∈vs.zip ds:=by intro z d;unfold cutD at d;rw[f,acd,<-List.take_zipWith,<-List.drop_zipWith,<-acd]at d;exact ace (List.mem_of_mem_take d)
theorem jF{d g:Type}(f:d->g)(xs:List d)(lo hi:Option Int):cutD (xs.map f) lo hi=(cutD xs lo hi).map f:=by unfold cutD;rw[aag,List.map_take,List.map_drop]
theorem jG{f g:Type}{xs:List f}{ys:List g}(d:xs.length=ys.length)(lo hi:Option Int):(cutD xs lo hi).length=(cutD ys lo hi).length:=by unfold cutD;rw[aa0,aa8,aa0,aa8,d]
variable{lo hi:Option Expr}{dl dh:DO}{p2:Pos}
def DN(a:DE)(dl dh:DO):DE:=λi Q=>a i λx g=>dl g λl f=>dh f λu d=>∃h,sk d x=some h/\Q (.val (.lst ((cutD h l u).map OD.fz))) d
theorem xT:PDe X e da->PDo X lo dl->PDo X hi dh->PDe X (.Subscript e (.Slice lo hi none p2) pos) (DN da dl dh)
 |⟨_,i,s1⟩,⟨_,f,s2⟩,⟨_,g,s3⟩=>⟨_,jw sU i f g,λb F σ H ρ τ θ I Q d R h q=>s1 b F σ H ρ τ θ _ _ d R h λv r x ρ1 s i=>s2 b F σ r ρ1 _ _ _ _ d s i λl o ρ2 D f=>s3 b F σ o ρ2 _ _ _ _ d D f λu L ρ3 j ⟨ds,A,g⟩=>by
  obtain⟨G,B,y⟩:=aaB.mp A;obtain⟨a,C,rfl,n,m,w⟩:=j.wd.ay (j.mem B) y;rw[d]at m;refine⟨a,C,rfl,m,λJ t=>q _ _ _ _ (Rel.ez (j.eg w (jG n l u) (λz k=>aae _ ?_) t)) g⟩;rw[<-jF]at k;exact lU (by simpa using n) l u z k⟩
def DP(a:DE)(dl dh:DO):DE:=λi Q=>a i λx h=>dl h λl g=>dh g λu f=>∃d,sm f x=some d/\¬ (HT.sIx d.length 0 l=0/\HT.sIx d.length d.length u=d.length)/\Q (.val (.fz (.tuple (cutD d l u)))) f
theorem xU:PDe X e da->PDo X lo dl->PDo X hi dh->PDe X (.Subscript e (.Slice lo hi none p2) pos) (DP da dl dh)
 |⟨_,i,s1⟩,⟨_,f,s2⟩,⟨_,g,s3⟩=>⟨_,jw wZ i f g,λb F σ H ρ τ θ J Q d R h q=>s1 b F σ H ρ τ θ _ _ d R h λv s x ρ1 t i=>s2 b F σ s ρ1 _ _ _ _ d t i λl o ρ2 G f=>s3 b F σ o ρ2 _ _ _ _ d G f λu M ρ3 j ⟨ds,B,r,g⟩=>by
  obtain⟨I,C,A⟩:=aaB.mp B;obtain⟨a,D,rfl,k,n,w⟩:=j.wd.ej (j.mem C) A;rw[d]at n;refine⟨a,D,rfl,n,by rw[k];exact r,λL y=>q _ _ _ _ (Rel.ez (j.ew w (jG k l u) (λz m=>aae _ ?_) y)) g⟩;rw[<-jF]at m;exact lU (by simpa using k) l u z m⟩
end
end
section
structure DEnds where
 nx:DEnv->Prop
 rt:OD->DEnv->Prop
 bk:DEnv->Prop:=λ_=>False
 ct:DEnv->Prop:=λ_=>False
abbrev DS:=DEnds->DEnv->Prop
def NoRf(W:Nat->Prop)(θ:List OR):Prop:=∀r∈θ,(∃x,r=.val x)\/∃j,W j/\r=.rf j
abbrev Ff:Nat->Prop:=λ_=>False
structure EndsOk (b:Bs)(F:List Fr)(τ:List V)(θ:List OR)(Dd:DEnds)(D:Ends):Prop where
 nx:∀σ H ρ,Rel b F σ H ρ τ θ->Dd.nx ρ->D.nx σ H
 bk:∀σ H ρ,Rel b F σ H ρ τ θ->Dd.bk ρ->D.bk σ H
 ct:∀σ H ρ,Rel b F σ H ρ τ θ->Dd.ct ρ->D.ct σ H
 rt:∀σ H ρ v x,Rel b F σ H ρ (v::τ) (.val x::θ)->Dd.rt x ρ->D.rt v H
def Av(K:Waa)(W:Nat->Prop)(ts:TS)(ds:DS):Prop:=∀(b:Bs) (F:List Fr) (f:St) (H:Hp) (c:DEnv) (d:List V) (a:List OR) (e:DEnds) (D:Ends),b.K=K->NoRf W a->Rel b F f H c d a->ds e c->EndsOk b F d a e D->ts D f H
inductive PDs (X:Cx)(W:Nat->Prop)(e:Stmt)(de:DS):Prop|mk (te:TS) (h:PS X e te) (s:Av X.K W te de)
inductive PDss (X:Cx)(W:Nat->Prop)(e:List Stmt)(de:DS):Prop|mk (te:TS) (h:PSs X e te) (s:Av X.K W te de)
section
variable{b:Bs}{F:List Fr}{σ σ':St}{H H':Hp}{ρ ρ':DEnv}{τ vs:List V}{θ rs:List OR}{v u:V}{r r':OR}{x y:OD}{d:PyData}{ds:List PyData}{i:Nat}{L:List (V×OD)}
variable{W:Nat->Prop}
theorem NoRf.al{o:Option V}(n:NoRf W θ)(f:¬ W i):∀{τ:List V},Al σ τ θ->Al (σ.set i o) τ θ:=by
 induction θ with
 |nil=>intro τ h;cases τ with
  |nil=>trivial
  |cons _ _=>exact h
 |cons r θ c=>
  intro τ h;cases τ with
  |nil=>cases r<;>exact h
  |cons v τ=>
   rcases n r aal with ⟨x,rfl⟩|⟨j,g,rfl⟩
   ·exact c (λr a=>n r (aak _ a)) (τ:=τ) h
   ·refine⟨?_,c (λr a=>n r (aak _ a)) (τ:=τ) h.2⟩;have k:i≠j:=λe=>f (by rw[e];exact g);rw[aa6 k];exact h.1
theorem NoRf.al0(n:NoRf Ff θ):∀{τ:List V},Al σ τ θ->Al σ' τ θ:=by
 induction θ with
 |nil=>intro τ h;cases τ with
  |nil=>trivial
  |cons _ _=>exact h
 |cons r θ c=>
  intro τ h;rcases n r aal with ⟨x,rfl⟩|⟨j,a,rfl⟩
  ·cases τ with
   |nil=>exact h
   |cons v τ=>exact c (λr e=>n r (aak _ e)) (τ:=τ) h
  ·exact a.elim
theorem NoRf.weak(n:NoRf Ff θ):NoRf W θ:=λr c=>(n r c).imp id λ⟨j,a,_⟩=>a.elim
theorem NoRf.cons(n:NoRf W θ):NoRf W (.val x::θ):=λr a=>(aaa.mp a).elim (λe=>.inl ⟨x,e⟩) (n r)
theorem NoRf.app(a:NoRf W rs)(n:NoRf W θ):NoRf W (rs++θ):=λr c=>(aaj.mp c).elim (a r) (n r)
theorem Wd.mn{L1 L2:List (V×OD)}(w:Wd b H (L1++(flat σ ρ++L2)))(c:Wf σ ρ)(i:Nat):Wd b H (L1++(flat σ (ρ.set i none)++L2)):=by
 cases e:ρ[i]?.join with
 |none=>
  have:ρ.set i none=ρ:=by
   cases h:ρ[i]? with
   |none=>exact List.set_eq_of_length_le (by simpa using h)
   |some o=>rw[h]at e;have:o=none:=e;subst this;exact set_self h
  rw[this];exact w
 |some x=>have a:=join_some e;obtain⟨v,f⟩:=c.get a;exact Wd.drop (w.perm ((((aZ a f).append_right _).append_left _).trans aap))
theorem Rel.store(R:Rel b F σ H ρ (v::τ) (.val x::θ))(n:NoRf W θ)(hi:i<ρ.length)(a:¬ W i):Rel b F (σ.set i (some v)) H (ρ.set i (some x)) τ θ:=by refine Rel.ua R.wf (n.al a (Rel.drop R).al) R.wff hi ?_;exact Wd.mn (L1:=(v,x)::stk τ θ) (ρ:=ρ) R.wd R.wf i
end
section
variable{X:Cx}{W:Nat->Prop}{K:Waa}{a b c e:Expr}{es:List Expr}{sts:List Stmt}{st:Stmt}{da db dc:DE}{dt:DA}{d1 d2:DS}{dT:DT}{pos p:Pos}{x:Str}
def dNext:DS:=λD d=>D.nx d
def DQ(t u:DS):DS:=λD f=>∃M:DEnv->Prop,(∀d,M d->u D d)/\t { D with nx:=M } f
theorem pdss_nil:PDss X W [] dNext:=⟨_,sF,λb F f H d g i j D k n R h E=>E.nx f H d R h⟩
theorem nZ:PDs X W st d1->PDss X W sts d2->PDss X W (st::sts) (DQ d1 d2)
 |⟨_,d,s1⟩,⟨_,h2,s2⟩=>⟨_,oR d h2,λb F σ H ρ τ θ k D g n R ⟨M,l,h⟩ E=>s1 b F σ H ρ τ θ _ _ g n R h
  ⟨λf i ρ1 j d=>s2 b F f i ρ1 τ θ k D g n j (l ρ1 d) E,E.bk,E.ct,E.rt⟩⟩
def dCont:DS:=λD d=>D.ct d
theorem pds_cont:PDs X W (.Continue pos) dCont:=⟨_,jr,λb F f H d g i j D k n R h E=>E.ct f H d R h⟩
def F5:DS:=λD d=>D.bk d
def Aw(a:DE):DS:=λD f=>a f λ_ d=>D.nx d
theorem qf(m:swapsWith e none pos.line X.env=pure false:=by rfl):PDe X e da->PDs X W (.Expr e pos) (Aw da)
 |⟨_,h,s⟩=>⟨_,fE h m,λb F f H j o q t D l n R h E=>s b F f H j o q _ _ l R h λv g r d i k=>E.nx f g d i.drop k⟩
def DR(a:DE):DS:=λD g=>a g λr f=>∃x d,mv1 f r=some (x,d)/\D.rt x d
theorem tQ:PDe X e da->PDs X W (.Return (some e) pos) (DR da)
 |⟨_,h,s⟩=>⟨_,wy h,λb F σ H ρ τ θ j D i n R h E=>s b F σ H ρ τ θ _ _ i R h λv d r ρ1 f ⟨x,ρ2,e,g⟩=>E.rt σ d ρ2 v x (f.mv1 e) g⟩
def E7:DS:=λD d=>D.rt (.fz .none) d
def DU(c:DT)(t u:DS):DS:=λD f=>c f λk d=>if k=true then t D d else u D d
theorem xV{f g:List Stmt}:PDt X c dT->PDss X W f d1->PDss X W g d2->PDs X W (.If c f g pos) (DU dT d1 d2)
 |⟨_,h,s⟩,⟨_,d,f⟩,⟨_,h2,g⟩=>⟨_,zy h d h2,λb F σ H ρ τ θ m D i n R h E=>s b F σ H ρ τ θ _ _ i R h λk j ρ1 l d=>by
  cases k with
  |true=>rw[if_pos rfl]at d ⊢;exact f b F σ j ρ1 τ θ _ _ i n l d E
  |false=>rw[if_neg aab]at d ⊢;exact g b F σ j ρ1 τ θ _ _ i n l d E⟩
def DV(i:Nat)(a:DE):DS:=λD g=>a g λr f=>∃x d,own1 f r=some (x,d)/\i<d.length/\D.nx (d.set i (some x))
theorem tR{i:Nat}{d:Pos}(B:¬ W i)(g:X.N.Nodup)(hi:X.N[i]?=some x)(j:Loc X.env.scope x)(y:swapsWith e (some (.Name x d)) pos.line X.env=pure false:=by rfl)(f:X.fn x=true\/X.env.scope.names.lookup x=some .local:=by first|exact .inl rfl|exact .inr rfl|assumption):
  PDe X e da->PDs X W (.Assign [.Name x d] e pos) (DV i da)
 |⟨_,h,s⟩=>⟨_,wB g hi j h y f,λb F m H q z A C D u n R h E=>s b F m H q z A _ _ u R h λv l r w o ⟨x,k,e,hi,t⟩=>E.nx _ l _ ((o.own1 e).store n hi B) t⟩
def cF:List Nat->List OD->DEnv->DEnv
 |i::is,x::xs,ρ=>cF is xs (ρ.set i (some x))
 |_,_,ρ=>ρ
def xW(is:List Nat)(t:DA):DS:=λD h=>t h λj g=>∃f d,mapR own1 g j=some (f,d)/\f.length=is.length/\(∀i∈is,i<d.length)/\D.nx (cF is f d)
def iL:List Nat->List V->St->St
 |i::is,v::vs,σ=>iL is vs (σ.set i (some v))
 |_,_,σ=>σ
theorem Rel.storeAll{W:Nat->Prop}{b:Bs}{F:List Fr}{H:Hp}{τ:List V}{θ:List OR}:∀{is:List Nat}{vs:List V}{xs:List OD}{σ:St}{ρ:DEnv},Rel b F σ H ρ (vs++τ) (xs.map OR.val++θ)->NoRf W θ->vs.length=xs.length->xs.length=is.length->(∀i∈is,i<ρ.length)->(∀i∈is,¬ W i)->Rel b F (iL is vs σ) H (cF is xs ρ) τ θ
 |[],[],[],_,_,R,_,_,_,_,_=>R
 |i::is,v::vs,x::xs,σ,ρ,R,n,e1,e2,h,hw=>by have f:NoRf W (xs.map OR.val++θ):=NoRf.app (λr g=>by obtain⟨x,_,rfl⟩:=aaZ.mp g;exact .inl ⟨x,rfl⟩) n;show Rel b F (iL is vs (σ.set i (some v))) H (cF is xs (ρ.set i (some x))) τ θ;exact Rel.storeAll (Rel.store (τ:=vs++τ) (θ:=xs.map OR.val++θ) R f (h i aal) (hw i aal)) n (by simpa using e1) (by simpa using e2) (λj d=>by rw[abF];exact h j (aak _ d)) λj d=>hw j (aak _ d)
 |[],_::_,[],_,_,_,_,e,_,_,_=>by simp at e
 |[],_,_::_,_,_,_,_,_,e,_,_=>by simp at e
 |_::_,[],_::_,_,_,_,_,e,_,_,_=>by simp at e
 |_::_,_,[],_,_,_,_,_,e,_,_=>by simp at e
theorem len2{d:Type}{l:List d}(h:l.length=2):∃a b,l=[a,b]:=by
 match l,h with
 |[a,b],_=>exact⟨a,b,rfl⟩
theorem DW{d:Type}{l:List d}(h:l.length=3):∃a b c,l=[a,b,c]:=by
 match l,h with
 |[a,b,c],_=>exact⟨a,b,c,rfl⟩
theorem tS{i j:Nat}(O:∀k∈[i,j],¬ W k){x y:Str}{r l g:Pos}{m q d}(Z:X.calm=true)(u:X.N.Nodup)(hi:X.N[i]?=some x)(Q:X.N[j]?=some y)(o:i≠j)
  (z:X.env.scope.names.lookup x=some .local) (hy:X.env.scope.names.lookup y=some .local)
  (hw:swappedStores [.Tuple [.Name x r,.Name y l] m g] (.Tuple [a,b] q d) X.env=pure (some [x,y]))
  (S:swapsWithSole [.Tuple [.Name x r,.Name y l] m g] (.Tuple [a,b] q d) pos.line X.env=pure false:=by rfl):PDa X [a,b] dt->PDs X W (.Assign [.Tuple [.Name x r,.Name y l] m g] (.Tuple [a,b] q d) pos) (xW [i,j] dt)
 |⟨_,h,s⟩=>⟨_,wC Z u hi Q o z hy h hw S,λb F C H I U Y Dd D L n R h E=>s b F C H I U Y _ _ L R h λvs B rs M el G ⟨xs,A,e,f,hi,J⟩=>by
  obtain⟨T,t⟩:=dF Rel.own1 G el e;obtain⟨v,w,rfl⟩:=len2 (t.trans f);exact⟨v,w,rfl,E.nx _ B _ (Rel.storeAll (is:=[i,j]) T n t f hi O) J⟩⟩
theorem qg{i j k:Nat}(Y:∀z∈[i,j,k],¬ W z){x y z:Str}{B m g l:Pos}{o A d}(hc:X.calm=true)(G:X.N.Nodup)(hi:X.N[i]?=some x)(Z:X.N[j]?=some y)(hk:X.N[k]?=some z)(r:i≠j)(q:i≠k)(t:j≠k)
  (I:X.env.scope.names.lookup x=some .local) (hy:X.env.scope.names.lookup y=some .local) (hz:X.env.scope.names.lookup z=some .local)
  (hw:swappedStores [.Tuple [.Name x B,.Name y m,.Name z g] o l] (.Tuple [a,b,c] A d) X.env=pure (some [x,y,z]))
  (hs:swapsWithSole [.Tuple [.Name x B,.Name y m,.Name z g] o l] (.Tuple [a,b,c] A d) pos.line X.env=pure false:=by rfl):PDa X [a,b,c] dt->PDs X W (.Assign [.Tuple [.Name x B,.Name y m,.Name z g] o l] (.Tuple [a,b,c] A d) pos) (xW [i,j,k] dt)
 |⟨_,h,s⟩=>⟨_,sY hc G hi Z hk r q t I hy hz h hw hs,λb F M H Q τ θ Dd D T n R h E=>s b F M H Q τ θ _ _ T R h λvs L rs U el O ⟨xs,J,e,f,hi,S⟩=>by
  obtain⟨R2,C⟩:=dF Rel.own1 O el e;obtain⟨v,w,u,rfl⟩:=DW (C.trans f);exact⟨v,w,u,rfl,E.nx _ L _ (Rel.storeAll (is:=[i,j,k]) R2 n C f hi Y) S⟩⟩
abbrev DG:=OD->DEnv->(DEnv->Prop)->Prop
abbrev DGs:=List OD->DEnv->(DEnv->Prop)->Prop
def n5(K:Waa)(W:Nat->Prop)(m:Nat)(g:TG)(q:DG):Prop:=∀(b:Bs) (F:List Fr) (k:St) (H:Hp) (h:DEnv) (l:List V) (i:List OR) (v:V) (x:OD) (n:DEnv->Prop) (Q:St->Hp->Prop),b.K=K->NoRf W i->Rel b F k H h (v::l) (.val x::i)->q x h n->(∀d o f,Rel b F d o f l i->(∀j,m<=j->d[j]?=k[j]?/\f[j]?=h[j]?)->n f->Q d o)->g v k H Q
def Ax(K:Waa)(W:Nat->Prop)(m:Nat)(g:TGs)(r:DGs):Prop:=∀(b:Bs) (F:List Fr) (l:St) (H:Hp) (h:DEnv) (n:List V) (k:List OR) (vs:List V) (i:List OD) (o:DEnv->Prop) (Q:St->Hp->Prop),b.K=K->NoRf W k->vs.length=i.length->Rel b F l H h (vs++n) (i.map OR.val++k)->r i h o->(∀d q f,Rel b F d q f n k->(∀j,m<=j->d[j]?=l[j]?/\f[j]?=h[j]?)->o f->Q d q)->g vs l H Q
inductive PDg (X:Cx)(W:Nat->Prop)(m:Nat)(e:Expr)(dg:DG):Prop|mk (te:TG) (h:PG X e te) (s:n5 X.K W m te dg)
inductive PDgs (X:Cx)(W:Nat->Prop)(m:Nat)(e:List Expr)(dg:DGs):Prop|mk (te:TGs) (h:zd X e te) (s:Ax X.K W m te dg)
def xX(i:Nat):DG:=λx d Q=>i<d.length/\Q (d.set i (some x))
def dgNil:DGs:=λd f Q=>d=[]/\Q f
def xY(t:DG)(u:DGs):DGs:=λg f Q=>∃x r,g=x::r/\t x f λd=>u r d Q
def unpT:OD->Option (List OD)
 |.fz (.tuple ds)=>some (ds.map OD.fz)
 |.tup xs=>some xs
 |_=>none
def unpL:OD->Option (List OD)
 |.fz (.list ds)=>some (ds.map OD.fz)
 |.lst xs=>some xs
 |_=>none
def Ay(n:Nat)(t:DGs):DG:=λx f Q=>∃d,unpT x=some d/\d.length=n/\t d f Q
def Az(n:Nat)(t:DGs):DG:=λx f Q=>∃d,unpL x=some d/\d.length=n/\t d f Q
variable{m:Nat}{dg:DG}{dgs:DGs}
theorem jH{i:Nat}(l:¬ W i)(f:X.N.Nodup)(hi:X.N[i]?=some x)(g:Loc X.env.scope x)(k:i<m)(d:X.fn x=true\/X.env.scope.names.lookup x=some .local:=by first|exact .inl rfl|exact .inr rfl|assumption):PDg X W m (.Name x pos) (xX i):=
 ⟨_,sH f hi g d,λb F o H r w y v x t Q s n R ⟨hi,h⟩ q=>q _ _ _ (R.store n hi l) (λj u=>⟨aa6 (by omega),aa6 (by omega)⟩) h⟩
theorem pdgs_nil:PDgs X W m [] dgNil:=⟨_,sI,λb F g H i s t d k o Q l n f R ⟨e,h⟩ q=>by
 subst e;cases d with
 |nil=>exact⟨rfl,q _ _ _ R (λj r=>⟨rfl,rfl⟩) h⟩
 |cons _ _=>simp at f⟩
theorem n6(I:(assignEach (e::es) X.env).map (·.2)=assign e X.env::(assignEach es X.env).map (·.2):=by rfl):PDg X W m e dg->PDgs X W m es dgs->PDgs X W m (e::es) (xY dg dgs)
 |⟨_,i,s1⟩,⟨_,g,s2⟩=>⟨_,oT i g I,λb F B H D w o d O S Q s n y R ⟨x,r,e,h⟩ q=>by
  subst e;cases d with
  |nil=>simp at y
  |cons v d=>
   have L:NoRf W (r.map OR.val++o):=NoRf.app (λr J=>by obtain⟨x,_,rfl⟩:=aaZ.mp J;exact .inl ⟨x,rfl⟩) n;exact⟨v,d,rfl,s1 b F B H D (d++w) (r.map OR.val++o) v x _ _ s L R h λl A k C u i=>s2 b F l A k w o d r _ _ s n (by simpa using y) C i λG N z M t g=>
    q _ _ _ M (λj f=>⟨(t j f).1.trans (u j f).1,(t j f).2.trans (u j f).2⟩) g⟩⟩
theorem Wd.unpT{b:Bs}{H:Hp}{L:List (V×OD)}{v:V}{x:OD}{xs:List OD}(w:Wd b H ((v,x)::L))(e:unpT x=some xs):∃a vs,v=.ref a/\SqT b.K H a vs/\vs.length=xs.length/\Wd b H (vs.zip xs++L):=by
 cases x with
 |fz d=>cases d<;>simp only[L2.unpT]at e<;>cases e;obtain⟨a,vs,rfl,k,j,g⟩:=w.ej aal (rfl:tupOf (.fz (.tuple _))=some _);exact⟨a,vs,rfl,j,by simpa using k,Wd.drop (g.perm aap)⟩
 |tup l=>
  simp only[L2.unpT]at e;cases e;obtain⟨n,h,i,f⟩:=w.out;cases h with
  |cons r t=>
   cases r with
   |@tup a vs _ A h1 h2=>exact⟨a,vs,rfl,SqT.of h1,h2.len,⟨⟨_,OwL.kq (OwL.j1 h2) t,i,f⟩,w.fr,w.s0,w.nt⟩⟩
 |_=>simp[L2.unpT]at e
theorem Wd.unpL{b:Bs}{H:Hp}{L:List (V×OD)}{v:V}{x:OD}{xs:List OD}(w:Wd b H ((v,x)::L))(e:unpL x=some xs):∃a vs,v=.ref a/\SqL b.K H a vs/\vs.length=xs.length/\Wd b H (vs.zip xs++L):=by
 have i:∀{g:List PyData},listOf x=some g->xs=g.map OD.fz->∃a vs,v=.ref a/\SqL b.K H a vs/\vs.length=xs.length/\Wd b H (vs.zip xs++L):=λ{g} h1 h2=>by subst h2;obtain⟨a,vs,rfl,s,o,k⟩:=w.ay aal h1;exact⟨a,vs,rfl,o,by simpa using s,Wd.drop (k.perm aap)⟩
 cases x with
 |fz d=>cases d<;>simp only[L2.unpL]at e<;>cases e;exact i rfl rfl
 |lst u=>
  simp only[L2.unpL]at e;cases e;obtain⟨y,j,n,f⟩:=w.out;have l:=w.qd j;cases j with
  |@cons _ _ A _ _ B0 r t=>
   cases r with
   |@lst a vs _ B h1 h2=>have h:∀c,(c∈B++B0\/b.S0 c)->(c∈a::B++B0\/b.S0 c):=λc z=>z.imp (λz=>by simp at z ⊢;exact .inr z) id;exact⟨a,vs,rfl,SqL.of h1,h2.len,⟨⟨_,Ows.step (Kp.refl _ _) (λc z=>.inl (h c z)) l (λ_ _=>rfl) (OwL.kq (OwL.j1 h2) t),(aaF.mp n).2,λc q=>f c (aak _ q)⟩,w.fr,w.s0,w.nt⟩⟩
 |_=>simp[L2.unpL]at e
theorem iM{σ:St}:∀{vs:List V}{xs:List OD},vs.length=xs.length->Al σ vs (xs.map OR.val)
 |[],[],_=>trivial
 |_::vs,_::xs,e=>iM (vs:=vs) (xs:=xs) (by simpa using e)
 |[],_::_,e=>by simp at e
 |_::_,[],e=>by simp at e
theorem Rel.spread{b:Bs}{F:List Fr}{σ:St}{H:Hp}{ρ:DEnv}{τ vs:List V}{θ:List OR}{xs:List OD}(R:Rel b F σ H ρ τ θ)(d:vs.length=xs.length)(w:Wd b H (vs.zip xs++(stk τ θ++(flat σ ρ++ff F)))):Rel b F σ H ρ (vs++τ) (xs.map OR.val++θ):=
 ⟨R.wf,(aS (by simpa using d)).mpr ⟨iM d,R.al⟩,R.wff,by rw[aC (by simpa using d),cD d,aaf];exact w⟩
theorem tT{k:Nat}{n:Nat}(y:X.calm=true)(l:(assignEach es X.env).length=n:=by rfl)(d:(assignEach es X.env).findIdx? (·.1)=none:=by rfl):PDgs X W m es dgs->PDg X W m (.Tuple es k pos) (Ay n dgs)
 |⟨_,h,s⟩=>⟨_,wz y h l d,λb F o H r z A v x C Q g B R ⟨t,e,u,h⟩ q=>by
  obtain⟨a,j,rfl,i,f,w⟩:=Wd.unpT R.wd e;rw[g]at i;exact⟨a,j,rfl,i,f.trans u,s b F o H r z A j t _ _ g B f (R.drop.spread f w) h q⟩⟩
theorem tU{k:Nat}{n:Nat}(y:X.calm=true)(l:(assignEach es X.env).length=n:=by rfl)(d:(assignEach es X.env).findIdx? (·.1)=none:=by rfl):PDgs X W m es dgs->PDg X W m (.Tuple es k pos) (Az n dgs)
 |⟨_,h,s⟩=>⟨_,xy y h l d,λb F o H r z A v x C Q g B R ⟨t,e,u,h⟩ q=>by
  obtain⟨a,j,rfl,i,f,w⟩:=Wd.unpL R.wd e;rw[g]at i;exact⟨a,j,rfl,i,f.trans u,s b F o H r z A j t _ _ g B f (R.drop.spread f w) h q⟩⟩
def DX(a:DE)(g:DG):DS:=λD h=>a h λr f=>∃x d,own1 f r=some (x,d)/\g x d D.nx
theorem tV{d:Expr}(B:swapsWithSole [d] e pos.line X.env=pure false:=by rfl)(G:swappedStores [d] e X.env=pure none:=by rfl)(t:(assignEach [d] X.env).map (·.2)=[assign d X.env]:=by rfl):PDe X e da->PDg X W m d dg->PDs X W (.Assign [d] e pos) (DX da dg)
 |⟨_,j,s1⟩,⟨_,h2,s2⟩=>⟨_,oV j h2 B G t,λb F k H z o q I D l n R h E=>s1 b F k H z o q _ _ l R h λv u r A y ⟨x,g,e,j⟩=>
  s2 b F k u g o q v x _ _ l n (y.own1 e) j λi w f C _ s=>E.nx i w f C s⟩
def xZ(c:DT)(t:DS):DS:=λD g=>∃W:Nat->DEnv->Prop,(∃m,W m g)/\∀m g,W m g->c g λk f=>if k=true then ∃N:DEnv->Prop,(∀d,N d->∃h,h<m/\W h d)/\t { D with nx:=N,ct:=N,bk:=D.nx } f else D.nx f
theorem n9(z:PassesOwn (model X.prog X.w) X.A X.env X.xe):PDt X c dT->PDss X W sts d1->PDs X W (.While c sts [] pos) (xZ dT d1)
 |⟨_,h1,s1⟩,⟨_,i,s2⟩=>⟨_,oX z h1 i,λb F σ H ρ τ θ O D q n R ⟨W,⟨M,J⟩,step⟩ E=>by
  refine⟨λm σ H=>∃ρ,Rel b F σ H ρ τ θ/\W m ρ,⟨M,ρ,R,J⟩,?_⟩;rintro m g u ⟨ρ1,v,y⟩;refine s1 b F g u ρ1 τ θ _ _ q v (step m ρ1 y) λk o ρ2 r i=>?_;cases k with
  |false=>rw[if_neg aab]at i ⊢;exact E.nx g o ρ2 r i
  |true=>
   rw[if_pos rfl]at i ⊢;obtain⟨N,t,B⟩:=i;refine⟨λf j=>∃d,Rel b F f j d τ θ/\N d,λf j C=>?_,s2 b F g o ρ2 τ θ _ _ q n r B ⟨λf j d h l=>⟨d,h,l⟩,λf j d h l=>E.nx f j d h l,λf j d h l=>⟨d,h,l⟩,E.rt⟩⟩;obtain⟨d,h,G⟩:=C;obtain⟨I,L,s⟩:=t d G;exact⟨I,L,d,h,s⟩⟩
abbrev DI:=DEnv->(List PyData->DEnv->Prop)->Prop
def iN(b:Bs)(J:It)(vs:List V)(rs:List OR)(ds:List PyData):Prop:=∀(F:List Fr) (j:St) (H:Hp) (f:DEnv) (h:List V) (i:List OR),Rel b F j H f (vs++h) (rs++i)->∀k,
 (k<ds.length->J.go k H/\∀x g d,J.yld k H x g->ds[k]?=some d->Rel b F j g f (x::(vs++h)) (.val (.fz d)::(rs++i)))/\(k=ds.length->J.stop k H)
def AA(K:Waa)(r:TI)(q:DI):Prop:=∀(b:Bs) (F:List Fr) (h:St) (H:Hp) (i:DEnv) (j:List V) (k:List OR) (l:List PyData->DEnv->Prop) (Q:It->Hp->Prop),b.K=K->Rel b F h H i j k->q i l ->
 (∀J n o d g f,g.length=f.length->NoRf Ff f->Rel b F h n d (g++j) (f++k)->iN b J g f o->l o d->Q J n)->r h H Q
inductive PDi (X:Cx)(tg e:Expr)(di:DI):Prop|mk (te:TI) (h:PI X tg e te) (s:AA X.K te di)
def F6(n:DI)(g:DG)(t:DS):DS:=λD f=>n f λl j=>∃h:Nat->DEnv->Prop,h 0 j/\(∀k d f,l[k]?=some d->h k f->g (.fz d) f λi=>t { D with nx:=h (k+1),ct:=h (k+1),bk:=D.nx } i)/\∀f,h l.length f->D.nx f
def bY(lo:Int)(n:Nat):List PyData:=(List.range n).map λ(i:Nat)=>PyData.int (lo+(i:Int))
theorem dH(lo:Int)(n:Nat):(bY lo n).length=n:=by simp[bY]
theorem qh{lo:Int}{n k:Nat}{d:PyData}(h:(bY lo n)[k]?=some d):k<n/\d=.int (lo+k):=by unfold bY at h;rw[aaq]at h;obtain⟨j,i,rfl⟩:=aaJ.mp h;obtain⟨g,f⟩:=aah.mp i;simp at g f;subst f;exact⟨g,rfl⟩
theorem jI(b:Bs)(lo:Int)(n:Nat):iN b (zC lo n) [] [] (bY lo n):=λF r H j o q R k=>by rw[dH];refine⟨λh=>⟨h,λx l d ⟨g,f⟩ i=>?_⟩,λe=>by subst e;exact aac _⟩;subst g f;rw[(qh i).2];exact Rel.sc R (.int _)
def AB(t:DA):DI:=λf Q=>t f λg d=>∃j,cx d g=some [.int j]/\-(2^62)<=j/\j<2^62/\Q (bY 0 j.toNat) d
theorem kN{G:Expr} (v:Gl X "range") (A:X.mg "range"=none) (y:starEach [a] X.env=[(false,eval a X.env)]:=by rfl):PDa X [a] dt->PDi X G (.Call (.Name "range" p) [a] [] pos) (AB dt)
 |⟨_,h,s⟩=>⟨_,m9 v A h y,λb F k H n B C J Q u R h q=>s b F k H n B C _ _ u R h λL i I d g f ⟨j,e,D,l,o⟩=>by
  have w:=f.dtL g e;cases w with
  |cons r t=>cases t;cases r;exact⟨j,rfl,D,l,q _ i _ d [] [] rfl (λr z=>by cases z) (f.drops g) (jI b 0 _) o⟩⟩
def AC(t:DA):DI:=λf Q=>t f λg d=>∃i j,cx d g=some [.int i,.int j]/\(-(2^62)<=i/\i<2^62/\-(2^62)<=j/\j<2^62)/\Q (bY i (j-i).toNat) d
theorem kO{I:Expr} (w:Gl X "range") (C:X.mg "range"=none) (z:starEach [a,b] X.env=[(false,eval a X.env),(false,eval b X.env)]:=by rfl) (f:starEach [b] X.env=[(false,eval b X.env)]:=by rfl):PDa X [a,b] dt->PDi X I (.Call (.Name "range" p) [a,b] [] pos) (AC dt)
 |⟨_,h,s⟩=>⟨_,nh w C h z f,λb F n H o D G M Q v R h q=>s b F n H o D G _ _ v R h λN l L d k g ⟨i,j,e,B,u⟩=>by
  have y:=g.dtL k e;cases y with
  |cons r t=>cases t with|cons J t=>cases t;cases r;cases J;exact⟨i,j,rfl,B,q _ l _ d [] [] rfl (λr A=>by cases A) (g.drops k) (jI b i _) u⟩⟩
theorem Rel.itemAt{b:Bs}{F:List Fr}{σ:St}{H:Hp}{ρ:DEnv}{τ:List V}{θ:List OR}{v:V}{x:OD}{ds:List PyData}{d:PyData}{k:Nat}(R:Rel b F σ H ρ τ θ)(m:(v,x)∈stk τ θ++(flat σ ρ++ff F))(e:seqOf x=some ds)(g:ds[k]?=some d):
  ∃a vs u,v=.ref a/\(SqL b.K H a vs\/SqT b.K H a vs)/\vs.length=ds.length/\vs[k]?=some u/\Rel b F σ H ρ (u::τ) (.val (.fz d)::θ):=by
 obtain⟨a,vs,rfl,h,i,w⟩:=R.wd.vv m e;have f:k<vs.length:=by rw[h];exact(aah.mp g).1
 refine⟨a,vs,vs[k],rfl,i,h,aao f,R.push (w.pick (bX (aao f) ?_))⟩;rw[aaq,g];rfl
theorem cG{v:V}{x:OD}{τ:List V}{θ:List OR}{L:List (V×OD)}:(v,x)∈stk ([v]++τ) ([OR.val x]++θ)++L:=by simp[stk]
theorem oa(b:Bs)(a:Addr)(ds:List PyData):iN b (C1 b.K a) [.ref a] [.val (.fz (.list ds))] ds:=λF A H B L M R k=>by
 obtain⟨I,l,e,N,n,_⟩:=R.wd.ay cG (rfl:listOf (.fz (.list ds))=some ds);cases e;refine⟨λh=>⟨⟨l,l[k]'(by omega),n,aao _⟩,λx z d ⟨w,o⟩ i=>?_⟩,λe=>⟨l,n,by omega⟩⟩;subst w;obtain⟨t,G,u,s,y,_,D,J⟩:=R.itemAt cG (rfl:seqOf (.fz (.list ds))=some ds) i;cases s;obtain⟨_,f,v,j,g,q⟩:=R.wd.ay cG (rfl:listOf (.fz (.list ds))=some ds);cases v;have C:k<f.length:=by rw[j];exact(aah.mp i).1
 have r:=o f g;refine Rel.push R (q.pick (bX r ?_));rw[aaq,i];rfl
theorem qi(b:Bs)(a:Addr)(ds:List PyData):iN b (C2 b.K a) [.ref a] [.val (.fz (.tuple ds))] ds:=λF o H q s t R k=>by obtain⟨r,f,e,u,g,w⟩:=R.wd.ej cG (rfl:tupOf (.fz (.tuple ds))=some ds);cases e;refine⟨λh=>⟨⟨f,f[k]'(by omega),g,aao _⟩,λx n d ⟨j,i⟩ l=>?_⟩,λe=>⟨f,g,by omega⟩⟩;subst j;refine Rel.push R (w.pick (bX (i f g) ?_));rw[aaq,l];rfl
def DY(a:DE):DI:=λh Q=>a h λr f=>∃g d,frz1 f r=some (.list g,d)/\Q g d
theorem qj{o:Expr}:PDe X e da->PDi X o e (DY da)
 |⟨_,h,s⟩=>⟨_,sJ h,λb F σ H ρ τ θ t Q d R h q=>s b F σ H ρ τ θ _ _ d R h λv i r ρ1 j ⟨ds,ρ2,e,k⟩=>by
  have f:=j.frz1 e;obtain⟨a,n,rfl,u,g,_⟩:=f.wd.ay (f.mem rfl) (rfl:listOf (.fz (.list ds))=some ds);rw[d]at g;exact⟨a,rfl,⟨n,g⟩,d▸q _ i ds ρ2 [.ref a] [.val (.fz (.list ds))] rfl (λr l=>.inl ⟨_,aas.mp l⟩) f (oa b a ds) k⟩⟩
def DZ(a:DE):DI:=λh Q=>a h λr f=>∃g d,frz1 f r=some (.tuple g,d)/\Q g d
theorem tW{o:Expr}:PDe X e da->PDi X o e (DZ da)
 |⟨_,h,s⟩=>⟨_,wH h,λb F σ H ρ τ θ t Q d R h q=>s b F σ H ρ τ θ _ _ d R h λv i r ρ1 j ⟨ds,ρ2,e,k⟩=>by
  have f:=j.frz1 e;obtain⟨a,n,rfl,u,g,_⟩:=f.wd.ej (f.mem rfl) (rfl:tupOf (.fz (.tuple ds))=some ds);rw[d]at g;exact⟨a,rfl,⟨n,g⟩,d▸q _ i ds ρ2 [.ref a] [.val (.fz (.tuple ds))] rfl (λr l=>.inl ⟨_,aas.mp l⟩) f (qi b a ds) k⟩⟩
end
end
section
section
variable{X:Cx}{K:Waa}{a b c e:Expr}{es:List Expr}{sts:List Stmt}{st:Stmt}{da db dc:DE}{dt:DA}{d1 d2:DS}{dT:DT}{pos p:Pos}{x:Str}
def cg(ds:List PyData):List PyData:=(List.range ds.length).map λ(i:Nat)=>PyData.tuple [.int (i:Int),ds.getD i .none]
theorem eF(ds:List PyData):(cg ds).length=ds.length:=by simp[cg]
theorem og{k:Nat}(h:(cg ds)[k]?=some d):∃e,ds[k]?=some e/\d=.tuple [.int k,e]:=by unfold cg at h;rw[aaq]at h;obtain⟨j,i,rfl⟩:=aaJ.mp h;obtain⟨f,g⟩:=aah.mp i;simp at f g;subst g;exact⟨ds[k],aao f,by rw[aa3,aao f];rfl⟩
theorem Rel.r4{b:Bs}{d e:PyData}{p:Addr}(R:Rel b F σ H ρ τ θ)(w:Wd b H (Z++(stk τ θ++(flat σ ρ++ff F))))(h:(v,OD.fz d)∈Z)(i:(u,OD.fz e)∈Z)(g:H p=none):
  Rel b F σ (upd H p (.tup [v,u])) ρ (.ref p::τ) (.val (.fz (.tuple [d,e]))::θ):=R.ew w rfl (λz f=>by
   simp at f;rcases f with rfl|rfl
   ·exact aae _ h
   ·exact aae _ i) g
theorem oh(b:Bs)(a:Addr)(ds:List PyData):iN b (Cp b.K a) [.ref a] [.val (.fz (.list ds))] (cg ds):=λF r H s u v R k=>by obtain⟨t,f,e,z,i,w⟩:=R.wd.ay cG (rfl:listOf (.fz (.list ds))=some ds);cases e;rw[eF];refine⟨λh=>⟨⟨f,f[k]'(by omega),i,aao _⟩,λx q d ⟨T,y,l,o,j,n⟩ m=>?_⟩,λe=>⟨f,i,by omega⟩⟩;subst j n;obtain⟨A,g,rfl⟩:=og m;refine Rel.r4 (Z:=(V.int k,OD.fz (.int k))::f.zip (ds.map OD.fz)) R (w.sc (.int _)) aal (aak _ (bX (l f i) ?_)) o;rw[aaq,g];rfl
def AD(t:DA):DI:=λh Q=>t h λi f=>∃g d,frzL f i=some ([.list g],d)/\Q (cg g) d
theorem qk{z}{g:Pos} (C:Gl X "enumerate") (I:X.mg "enumerate"=none) (i:starEach [a] X.env=[(false,eval a X.env)]:=by rfl):PDa X [a] dt->PDi X (.Tuple es z g) (.Call (.Name "enumerate" p) [a] [] pos) (AD dt)
 |⟨_,h,s⟩=>⟨_,tq C I h i,λb F m H y n o N Q j R h q=>s b F m H y n o _ _ j R h λD l M B t w ⟨f,d,e,A⟩=>by
  obtain⟨L,u⟩:=iJ w t e
  match D,u with
  |[v],_=>
   have k:Rel b F m l d (v::n) (.val (.fz (.list f))::o):=L;obtain⟨a,J,rfl,t,i,_⟩:=k.wd.ay (k.mem rfl) (rfl:listOf (.fz (.list f))=some f);rw[j]at i;exact⟨a,J,rfl,i,j▸q _ l _ d [.ref a] [.val (.fz (.list f))] rfl (λr G=>.inl ⟨_,aas.mp G⟩) k (oh b a f) A⟩⟩
def f6(ds es:List PyData):List PyData:=List.zipWith (λd e=>PyData.tuple [d,e]) ds es
theorem ql{ds es:List PyData}{k:Nat}(h:(f6 ds es)[k]?=some d):∃x y,ds[k]?=some x/\es[k]?=some y/\d=.tuple [x,y]:=by
 unfold f6 at h;rw[List.getElem?_zipWith]at h;cases f:ds[k]? with
 |none=>rw[f]at h;simp at h
 |some x=>
  cases g:es[k]? with
  |none=>rw[f,g]at h;simp at h
  |some y=>rw[f,g]at h;exact⟨x,y,rfl,rfl,(aaD h).symm⟩
def AE:PyData->Option (Bool×List PyData)
 |.list ds=>some (true,ds)
 |.tuple ds=>some (false,ds)
 |_=>none
def kP(l:Bool)(a:Addr)(xs:List V):ZS:=if l then .lst a xs else .tup a xs
theorem cS{a:Addr}(h:if l then SqL K H a xs else SqT K H a xs):(kP l a xs).ok K H:=by cases l<;>exact h
theorem jJ(l:Bool)(a:Addr)(xs:List V):(kP l a xs).val=.ref a:=by cases l<;>rfl
theorem bD(l:Bool)(a:Addr)(xs:List V):(kP l a xs).items=xs:=by cases l<;>rfl
theorem qm(h:AE d=some (l,ds)):d=if l then .list ds else .tuple ds:=by cases d<;>simp only[AE]at h<;>cases h<;>rfl
theorem qo(b:Bs)(a c:Addr)(l g:Bool)(xs ys:List V)(ds es:List PyData):iN b (Dn b.K (kP l a xs) (kP g c ys)) [.ref a,.ref c] [.val (.pin l xs ds),.val (.pin g ys es)] (f6 ds es):=λF G H I L M R k=>by
 obtain⟨J,e,N,n,w⟩:=R.wd.pinned (v:=.ref a) (l:=l) (xs:=xs) (ds:=ds) (by simp[stk]);cases e;obtain⟨D,e,t,f,j⟩:=w.pinned (v:=.ref c) (l:=g) (xs:=ys) (ds:=es) (by simp[stk]);cases e;have u:(f6 ds es).length=min ds.length es.length:=by simp[f6]
 rw[u];refine⟨λh=>⟨⟨cS n,cS f,by rw[bD];omega,by rw[bD];omega⟩,λx C d ⟨T,y,z,m,i,B,A,r⟩ s=>?_⟩,λe=>⟨cS n,cS f,by rw[bD,bD];omega⟩⟩;subst A r;rw[bD]at m i;obtain⟨d1,d2,q,o,rfl⟩:=ql s;rw[<-aaf]at j;refine Rel.r4 R j (aad _ (bX m ?_)) (aae _ (bX i ?_)) B
 ·rw[aaq,q];rfl
 ·rw[aaq,o];rfl
def D0(t:DA):DI:=λh Q=>t h λi f=>∃x y l k g es d,frzL f i=some ([x,y],d)/\AE x=some (l,g)/\AE y=some (k,es)/\Q (f6 g es) d
theorem tX{N}{g:Pos} (U:Gl X "zip") (Z:X.mg "zip"=none) (j:starEach [a,b] X.env=[(false,eval a X.env),(false,eval b X.env)]:=by rfl) (C:starEach [b] X.env=[(false,eval b X.env)]:=by rfl):PDa X [a,b] dt->PDi X (.Tuple es N g) (.Call (.Name "zip" p) [a,b] [] pos) (D0 dt)
 |⟨_,h,s⟩=>⟨_,xi U Z h j C,λb F o H M A B Qd Q t R h q=>s b F o H M A B _ _ t R h λvs n rs T el L ⟨x,y,l,k,ds,es,d,e,Y,ey,S⟩=>by
  obtain⟨G,J⟩:=iJ L el e;obtain⟨v,u,rfl⟩:=len2 J;have w:Wd b n ((v,.fz x)::(u,.fz y)::(stk A B++(flat o d++ff F))):=G.wd;have z:Rel b F o n d A B:=Rel.drops G rfl;obtain⟨xs,O⟩:=w.pin (qm Y);obtain⟨i,I⟩:=(O.perm (List.Perm.swap _ _ _)).pin (qm ey);have m:=I.perm (List.Perm.swap _ _ _);obtain⟨a,rfl,_,j,_⟩:=m.pinned (v:=v) (l:=l) (xs:=xs) (ds:=ds) (by simp);obtain⟨c,rfl,_,f,_⟩:=m.pinned (v:=u) (l:=k) (xs:=i) (ds:=es) (by simp);rw[t]at j f;refine⟨kP l a xs,kP k c i,by rw[jJ,jJ],cS j,cS f,t▸q _ n _ d [.ref a,.ref c] [.val (.pin l xs ds),.val (.pin k i es)] rfl (λr D=>by simp at D;rcases D with rfl|rfl<;>exact .inl ⟨_,rfl⟩) ?_ (qo b a c l k xs i ds es) S⟩;exact⟨z.wf,z.al,z.wff,m⟩⟩
end
end
section
def bZ:DEnv->List Nat->Option (DEnv×DEnv)
 |ρ,[]=>some ([],ρ)
 |ρ,j::js=>match ρ[j]?.join with
  |some (.fz d)=>match bZ ρ js with|some z=>some (some (.fz d)::z.1,z.2)|none=>none
  |some x=>match bZ (ρ.set j none) js with|some z=>some (some x::z.1,z.2)|none=>none
  |none=>none
def fB:DEnv->List Nat->DEnv->DEnv
 |ρ,j::js,some x::os=>fB (ρ.set j (some x)) js os
 |ρ,_::js,none::os=>fB ρ js os
 |ρ,_,_=>ρ
def capV(σ:St)(js:List Nat):St:=js.map λj=>(σ[j]?).join
section
variable{b:Bs}{F:List Fr}{σ σ':St}{H H':Hp}{τ vs:List V}{θ rs:List OR}{v u:V}{x y:OD}{d:PyData}{ds:List PyData}{i:Nat}{L:List (V×OD)}
theorem tY(h:o=some (some v)):o.join=some v:=by rw[h];rfl
theorem lV:∀{js:List Nat}{ρ a ρ2:DEnv}{L1 L2:List (V×OD)},Wd b H (L1++(flat σ ρ++L2))->Wf σ ρ->bZ ρ js=some (a,ρ2)->Wd b H (flat (capV σ js) a++(L1++(flat σ ρ2++L2)))/\Wf σ ρ2/\Wf (capV σ js) a
 |[],ρ,a,ρ2,L1,L2,w,wf,e=>by simp only[bZ]at e;cases e;exact⟨w,wf,trivial⟩
 |j::js,ρ,a,ρ2,L1,L2,w,wf,e=>by
  cases h:ρ[j]?.join with
  |none=>simp[bZ,h]at e
  |some x=>
   have m:=join_some h;obtain⟨v,o⟩:=wf.get m;have s:Wd b H ((v,x)::(L1++(flat σ (ρ.set j none)++L2))):=w.perm ((((aZ m o).append_right _).append_left _).trans aap);have k:∀{y:OD}{c:DEnv}{z:DEnv×DEnv},Wd b H ((v,y)::(L1++(flat σ c++L2)))->Wf σ c->bZ c js=some z->(some y::z.1,z.2)=(a,ρ2)->Wd b H (flat (capV σ (j::js)) a++(L1++(flat σ ρ2++L2)))/\Wf σ ρ2/\Wf (capV σ (j::js)) a:=λ{y c z} n wf1 g f=>by
    cases f;obtain⟨C,p,r⟩:=lV (L1:=(v,y)::L1) n wf1 (show bZ c js=some (z.1,z.2) from g);have B:capV σ (j::js)=some v::capV σ js:=by unfold capV;rw[aan,tY o]
    rw[B];exact⟨C.perm aap,p,r⟩
   have G:∀{z:DEnv×DEnv},bZ (ρ.set j none) js=some z->(some x::z.1,z.2)=(a,ρ2)->Wd b H (flat (capV σ (j::js)) a++(L1++(flat σ ρ2++L2)))/\Wf σ ρ2/\Wf (capV σ (j::js)) a:=λ{z} g f=>k s wf.off g f;have l:∀{c:DEnv}{y:OD},(match bZ c js with|some z=>some (some y::z.1,z.2)|none=>none)=some (a,ρ2)->∃z,bZ c js=some z/\(some y::z.1,z.2)=(a,ρ2):=λ{c y} q=>by
    cases t:bZ c js with
    |none=>rw[t]at q;cases q
    |some z=>rw[t]at q;exact⟨z,rfl,aaD q⟩
   cases x with
   |fz d=>simp only[bZ,h]at e;obtain⟨z,g,f⟩:=l e;have n:=s.dup;have I:j<ρ.length:=(aah.mp m).1;have D:σ.set j (some v)=σ:=set_self o;have A:=bO (v:=v) (x:=.fz d) I wf.len;rw[D,set_self m]at A;exact k (n.perm (List.Perm.cons _ (aap.symm.trans ((A.symm.append_right _).append_left _)))) wf g f
   |_=>simp only[bZ,h]at e;obtain⟨z,g,f⟩:=l e;exact G g f
theorem iO:∀{js:List Nat}{ρ a:DEnv}{L1 L2:List (V×OD)},Wd b H (L1++(flat (capV σ js) a++(flat σ ρ++L2)))->Wf σ ρ->Wf (capV σ js) a->Wd b H (L1++(flat σ (fB ρ js a)++L2))/\Wf σ (fB ρ js a)
 |[],ρ,a,L1,L2,w,wf,wf2=>by
  cases a with
  |nil=>exact⟨w,wf⟩
  |cons _ _=>simp[capV,Wf]at wf2
 |j::js,ρ,[],L1,L2,w,wf,wf2=>by simp[capV,Wf]at wf2
 |j::js,ρ,o::a,L1,L2,w,wf,wf2=>by
  have m:capV σ (j::js)=(σ[j]?).join::capV σ js:=rfl;rw[m]at w wf2;cases o with
  |none=>rw[aV]at w;exact iO (js:=js) w wf (by cases h:(σ[j]?).join<;>(rw[h]at wf2;exact wf2))
  |some x=>
   cases h:(σ[j]?).join with
   |none=>rw[h]at wf2;simp[Wf]at wf2
   |some v=>
    rw[h]at w wf2;have l:Wd b H ((v,x)::(L1++(flat (capV σ js) a++(flat σ ρ++L2)))):=w.perm (aap )
    ·have g:=join_some h;have n:j<ρ.length:=by rw[<-wf.len];exact(aah.mp g).1
     have f:σ.set j (some v)=σ:=set_self g;have e:=bO (v:=v) (x:=x) n wf.len;rw[f]at e;have c:Wf σ (ρ.set j (some x)):=by have:=wf.put (i:=j) (v:=v) (x:=x);rw[f]at this;exact this
     refine iO (ρ:=ρ.set j (some x)) ?_ c wf2;have k:Wd b H (((v,x)::L1++flat (capV σ js) a)++(flat σ (ρ.set j none)++L2)):=Wd.mn (by simpa using l) wf j;refine k.perm ?_;rw[<-aaf L1];refine List.Perm.trans ?_ ((e.symm.append_right _).append_left _);simp only[aaL];exact aap.symm
theorem Wf.drop:∀{n:Nat}{σ:St}{ρ:DEnv},Wf σ ρ->Wf (σ.drop n) (ρ.drop n)
 |0,_,_,h=>h
 |_+1,[],[],_=>trivial
 |_+1,[],_::_,h=>by simp[Wf]at h
 |_+1,_::_,[],h=>by simp[Wf]at h
 |n+1,o::σ,none::ρ,h=>Wf.drop (n:=n) h
 |n+1,some _::σ,some _::ρ,h=>Wf.drop (ρ:=ρ) h
 |_+1,none::_,some _::_,h=>by simp[Wf]at h
theorem eG:∀{n:Nat}{σ:St}{ρ:DEnv},Wf σ ρ->∃L,flat σ ρ=L++flat (σ.drop n) (ρ.drop n)
 |0,σ,ρ,_=>⟨[],rfl⟩
 |_+1,[],[],_=>⟨[],rfl⟩
 |_+1,[],_::_,h=>by simp[Wf]at h
 |_+1,_::_,[],h=>by simp[Wf]at h
 |n+1,o::σ,none::ρ,h=>by obtain⟨L,e⟩:=eG (ρ:=ρ) h;exact⟨L,by rw[aV];exact e⟩
 |n+1,some v::σ,some x::ρ,h=>by obtain⟨L,e⟩:=eG (ρ:=ρ) h;exact⟨(v,x)::L,by simp only[flat,aaL,List.drop_succ_cons];rw[e]⟩
 |_+1,none::_,some _::_,h=>by simp[Wf]at h
theorem qp:flat (List.replicate n none++σ) (List.replicate n none++ρ)=flat σ ρ:=by
 induction n with
 |zero=>rfl
 |succ n a=>rw[aaK,aaK,aaL,aaL,aV,a]
theorem x9(h:Wf σ ρ):Wf (List.replicate n none++σ) (List.replicate n none++ρ):=by
 induction n with
 |zero=>exact h
 |succ n a=>rw[aaK,aaK];exact a
theorem Rel.grow(R:Rel b F σ H ρ (v::(vs++[.ref D])) (.val (.fz d)::(rs++[.val (.lst (out.map OD.fz))])))(e:vs.length=rs.length):
  ∃ys,H D=some (.lst ys)/\ys.length=out.length/\Rel b F σ (upd H D (.lst (ys++[v]))) ρ (vs++[.ref D]) (rs++[.val (.lst ((out++[d]).map OD.fz))]):=by
 have f:=R.drop;have q:stk (vs++[.ref D]) (rs++[.val (.lst (out.map OD.fz))])=stk vs rs++[(.ref D,.lst (out.map OD.fz))]:=by rw[aC e];rfl
 have w:Wd b H ((v,.fz d)::((stk vs rs++[(.ref D,.lst (out.map OD.fz))])++(flat σ ρ++ff F))):=by have:=R.wd;simp only[stk]at this;rw[q]at this;exact this
 have g:Wd b H ([v].zip [OD.fz d]++((.ref D,.lst (out.map OD.fz))::(stk vs rs++(flat σ ρ++ff F)))):=w.perm (by
  refine List.Perm.cons _ ?_;rw[aaf];exact aap)
 obtain⟨a,ys,o,t,m,h⟩:=g.rd (ks:=[]) rfl rfl;cases o;refine⟨ys,t,by simpa using m,f.wf,?_,f.wff,?_⟩
 ·obtain⟨r,_⟩:=(aS e).mp f.al;exact(aS e).mpr ⟨r,trivial⟩
 ·have j:=h (ys++[v]) ((out++[d]).map OD.fz) λS H A C z n l p=>⟨A++C,by rw[aay];exact Ows.append n l,p,λc s=>aaj.mp s⟩
  have k:stk (vs++[.ref D]) (rs++[.val (.lst ((out++[d]).map OD.fz))])=stk vs rs++[(.ref D,.lst ((out++[d]).map OD.fz))]:=by rw[aC e];rfl
  rw[k];refine j.perm ?_;rw[aaf];exact aap.symm
end
theorem ya{a:Type}(A B C T F:List a):(A++(B++(C++(T++F)))).Perm (B++(A++((T++C)++F))):=by refine(abP A B _).trans (aa4 _ (aa4 _ ?_));rw[<-aaf];exact aa2.append_right _
abbrev DC:=DEnv->(List PyData->DEnv->Prop)->Prop
def oi(K:Waa)(i:TC)(j:DC):Prop:=∀(b:Bs) (F:List Fr) (e:St) (H:Hp) (f:DEnv) (vs:List V) (d:List OR) (D:Addr) (a:List PyData) (g:List PyData->DEnv->Prop) (Q:Hp->Prop),b.K=K->vs.length=d.length->a.length<1000000->Rel b F e H f (vs++[.ref D]) (d++[.val (.lst (a.map OD.fz))])->j f g ->
 (∀h c o,Rel b F e h c (vs++[.ref D]) (d++[.val (.lst ((a++o).map OD.fz))])->o.length<=1->g o c->Q h)->i D e H Q
inductive PDc (Y:Cx)(ifs:List Expr)(elt:Expr)(dc:DC):Prop|mk (tc:TC) (h:∀D,jy Y D ifs elt tc) (s:oi Y.K tc dc)
section
variable{X Y:Cx}{K:Waa}{a b c e elt iter tg:Expr}{es ifs:List Expr}{da db:DE}{dT:DT}{pos p:Pos}{x:Str}
def qq(a:DE):DC:=λh Q=>a h λr g=>∃d f,frz1 g r=some (d,f)/\Q [d] f
theorem jK(s:bG K ta da):oi K (lL ta) (qq da):=λb F g H j G y D o C Q m u B R h q=>s b F g H j _ _ _ _ m R h λv z r n i ⟨d,f,e,k⟩=>by obtain⟨l,w,A,t⟩:=(i.frz1 e).grow u;exact⟨l,w,aar (by omega) (by decide:1000001<=sizeLine),q _ _ _ t (aac _) k⟩
theorem oj:PDe Y elt da->PDc Y [] elt (qq da)
 |⟨_,h,s⟩=>⟨_,λD=>nH h,jK s⟩
def tZ(t:DT)(a:DE):DC:=λf Q=>t f λk d=>if k=true then qq a d Q else Q [] d
theorem qr:PDt Y c dT->PDe Y elt da->PDc Y [c] elt (tZ dT da)
 |⟨_,d,s1⟩,⟨_,h2,s2⟩=>⟨_,λD=>pE d h2,λb F σ H ρ vs rs D out l Q i j hz R h q=>s1 b F σ H ρ _ _ _ _ i R h λk f ρ1 g d=>by
  cases k with
  |true=>rw[if_pos rfl]at d ⊢;exact jK s2 b F σ f ρ1 vs rs D out _ _ i j hz g d q
  |false=>rw[if_neg aab]at d ⊢;exact q f ρ1 [] (by rw[aaA];exact g) (aaE _) d⟩
def lW(t:DI)(nt:Nat)(fr:List Nat)(g:DG)(n:DC):DE:=λi Q=>t i λr s=>r.length<1000000/\∃h j,bZ s fr=some (h,j)/\∃m:Nat->List PyData->DEnv->Prop,m 0 [] (List.replicate nt none++h) /\
 (∀k d f i,r[k]?=some d->m k f i->g (.fz d) i λq=>n q λo l=>m (k+1) (f++o) l)/\∀f i,m r.length f i->Q (.val (.lst (f.map OD.fz))) (fB j fr (i.drop nt))
theorem yb{d:Type}(x:d)(S L P T C F:List d):(x::(S++((L++P)++((T++C)++F)))).Perm (L++((x::(S++T))++(P++(C++F)))):=by
 have e:x::(S++((L++P)++((T++C)++F)))=x::(S++(L++(P++(T++(C++F))))):=by simp only[aaf]
 rw[e];refine List.Perm.trans ?_ aap.symm;refine List.Perm.cons _ ((abP S L _).trans (aa4 _ ?_));show (S++(P++(T++(C++F)))).Perm ((S++T)++(P++(C++F)));rw[aaf];exact aa4 _ (abP P T _)
def AF{f:Type}(g:f->OD)(k:f->Nat)(K:Waa)(q:TC)(da:f->DEnv->(f->DEnv->Prop)->Prop):Prop:=∀(b:Bs) (F:List Fr) (j:St) (H:Hp) (l:DEnv) (vs:List V) (i:List OR) (D:Addr) (d:f) (m:f->DEnv->Prop) (Q:Hp->Prop),b.K=K->vs.length=i.length->k d<1000000->Rel b F j H l (vs++[.ref D]) (i++[.val (g d)])->da d l m ->
 (∀n h o,Rel b F j n h (vs++[.ref D]) (i++[.val (g o)])->k o<=k d+1->m o h->Q n)->q D j H Q
def tCG(o0:HO)(J:It)(nt:Nat)(fr:List Nat)(g:CC->TG)(n:CC->TC)(σ:St)(k:Hp)(Q:VK):Prop:=∀(c:CC) D,k D=none->∃W:Nat->Nat->St->Hp->Prop,(∃m,W 0 m (a9 nt fr σ) (upd k D o0)) /\
 ∀i m f d,W i m f d->(J.stop i d/\Q (.ref D) d)\/(J.go i d/\∀x j,J.yld i d x j->g c x f j λh q=>n c D h q λo=>∃l,l<m/\W (i+1) l h o)
theorem jL{v:Type}{l:v->OD}{S:v->Nat}{a0:v}{da:v->DEnv->(v->DEnv->Prop)->Prop}(M:∀{b:Bs}{H:Hp}{L:List (V×OD)}{D:Addr},Wd b H L->H D=none->Wd b (upd H D o0) ((.ref D,l a0)::L))(l0:S a0=0)(s2:∀c,n5 K Ff nt (g c) dg)(s3:∀c,AF l S K (tc c) da){b:Bs}{Iv:Nat->v->DEnv->Prop}(hK:b.K=K)(t:vs.length=rs.length)(nr:NoRf Ff rs)
  (w:Rel b F σ H1 ρ1 (vs++τ) (rs++θ)) (it:iN b J vs rs ds) (a2:ds.length<1000000) (hc:bZ ρ1 fr=some (inner,ρ2)) (i0:Iv 0 a0 (List.replicate nt none++inner)) (step:∀k d out ρ,ds[k]?=some d->Iv k out ρ->dg (.fz d) ρ λh=>da out h λo z=>Iv (k+1) o z)
  (q:∀s D out h,Rel b F σ s (fB ρ2 fr (h.drop nt)) (.ref D::(vs++τ)) (.val (l out)::(rs++θ))->Iv ds.length out h->Q (.ref D) s):tCG o0 J nt fr g tc σ H1 Q:=by
 intro cc D hD;have w1:Wd b H1 (stk vs rs++(flat σ ρ1++(stk τ θ++ff F))):=w.wd.perm (by
  rw[aC t,aaf];refine aa4 _ ?_;rw[<-aaf,<-aaf];exact aa2.append_right _)
 obtain⟨w2,A,O⟩:=lV w1 w.wf hc;have al:=(aS t).mp w.al;have w3:=M w2 hD;have R2:Rel b (⟨σ,ρ2,τ,θ⟩::F) (a9 nt fr σ) (upd H1 D o0) (List.replicate nt none++inner) (vs++[.ref D]) (rs++[.val (l a0)]):=by
  refine⟨x9 O,(aS t).mpr ⟨nr.al0 al.1,trivial⟩,λf U=>?_,?_⟩
  ·rcases aaa.mp U with rfl|U
   ·exact⟨A,al.2⟩
   ·exact w.wff f U
  ·have ec:flat (a9 nt fr σ) (List.replicate nt none++inner)=flat (capV σ fr) inner:=qp;rw[ec,aC t];refine w3.perm ?_;have ef:ff (⟨σ,ρ2,τ,θ⟩::F)=(stk τ θ++flat σ ρ2)++ff F:=rfl;rw[ef];have e0:stk [V.ref D] [OR.val (l a0)]=[(V.ref D,l a0)]:=rfl;rw[e0];refine List.Perm.trans (List.Perm.cons _ (ya (flat (capV σ fr) inner) (stk vs rs) (flat σ ρ2) (stk τ θ) (ff F))) ?_;rw[aaf (stk vs rs)];exact aap.symm
 refine⟨λi m n s=>m=ds.length-i/\i<=ds.length/\(∀j,nt<=j->n[j]?=(a9 nt fr σ)[j]?)/\∃out h,S out<=i/\Rel b (⟨σ,ρ2,τ,θ⟩::F) n s h (vs++[.ref D]) (rs++[.val (l out)])/\Iv i out h,⟨_,rfl,aaE _,λ_ _=>rfl,a0,_,abp l0,R2,i0⟩,?_⟩;rintro i m n s ⟨rfl,hi,y,out,h,ho,G,iv⟩;obtain⟨go,C⟩:=it _ n s h [.ref D] [.val (l out)] G i;by_cases u:i<ds.length
 ·obtain⟨g1,g2⟩:=go u;refine .inr ⟨g1,λx H2 hy=>?_⟩;have B:ds[i]?=some ds[i]:=aao u;have nn:NoRf Ff (rs++[.val (l out)]):=NoRf.app nr λr hr=>.inl ⟨_,aas.mp hr⟩;refine s2 cc b _ n H2 h _ _ x _ _ _ hK nn (g2 x H2 _ hy B) (step i _ out h B iv) λN H3 a1 R3 k3 h3=>?_;exact s3 cc b _ N H3 a1 vs rs D out _ _ hK t (by omega) R3 h3 λH4 T o R4 lo h4=>⟨_,by omega,rfl,u,λj hj=>(k3 j hj).1.trans (y j hj),o,T,by omega,R4,h4⟩
 ·have e:i=ds.length:=by omega
  subst e;refine .inl ⟨C rfl,q s D out h ?_ iv⟩;have B:n.drop nt=capV σ fr:=by apply abQ;intro j;rw[abv,y _ (by omega)];unfold a9 capV;rw[abq (by simp),abt,abI]
  have w4:Wd b s ((.ref D,l out)::(stk vs rs++(flat n h++((stk τ θ++flat σ ρ2)++ff F)))):=G.wd.perm (by
   rw[aC t];have e0:stk [V.ref D] [OR.val (l out)]=[(V.ref D,l out)]:=rfl;rw[e0,aaf];exact aap)
  obtain⟨L0,eL⟩:=eG G.wf;rw[eL,B]at w4;have w5:Wd b s (((.ref D,l out)::stk (vs++τ) (rs++θ))++(flat (capV σ fr) (h.drop nt)++(flat σ ρ2++ff F))):=by refine Wd.drops (L1:=L0) (w4.perm ?_);rw[aC t];exact yb (.ref D,l out) (stk vs rs) L0 (flat (capV σ fr) (h.drop nt)) (stk τ θ) (flat σ ρ2) (ff F)
  have Z:Wf (capV σ fr) (h.drop nt):=B▸G.wf.drop;obtain⟨w6,I⟩:=iO w5 A Z;exact⟨I,w.al,w.wff,w6⟩
theorem om{n:DC}(z:∀c,n5 K Ff nt (g c) dg)(u:∀c,oi K (tc c) n){b:Bs}{F:List Fr}{Iv:Nat->List PyData->DEnv->Prop}(l:b.K=K)(r:vs.length=rs.length)(G:NoRf Ff rs)
  (s:Rel b F σ H1 ρ1 (vs++τ) (rs++θ)) (it:iN b J vs rs ds) (m:ds.length<1000000) (B:bZ ρ1 fr=some (inner,ρ2)) (C:Iv 0 [] (List.replicate nt none++inner)) (step:∀k d out ρ,ds[k]?=some d->Iv k out ρ->dg (.fz d) ρ λf=>n f λo i=>Iv (k+1) (out++o) i)
  (q:∀j D out f,Rel b F σ j (fB ρ2 fr (f.drop nt)) (.ref D::(vs++τ)) (.val (.lst (out.map OD.fz))::(rs++θ))->Iv ds.length out f->Q (.ref D) j):jx (λ_ _ k=>k J H1) nt fr g tc σ H1 Q:=
 jL (da:=λout ρ Q=>n ρ λo f=>Q (out++o) f) (λw h=>Wd.eg w rfl h) rfl z (λc b F σ H ρ vs rs D out v Q l r t R h q=>u c b F σ H ρ vs rs D out (λo f=>v (out++o) f) Q l r t R h λj f o y I A=>q j f (out++o) y (by rw[aaw];omega) A) l r G s it m B C step q
theorem jM(o:AA K wi di)(G:∀c,n5 K Ff nt (g c) dg)(z:∀c,oi K (tc c) dc):bG K (jx wi nt fr g tc) (lW di nt fr dg dc):=by intro b F s H v I L Qd Q n R h q;refine o b F s H v I L _ _ n R h λJ T Z y vs S m O u B w=>?_;obtain⟨l,j,r,M,U,N,d,i⟩:=w;exact om G z n m O u B l M N d λt D k f C A=>q _ t _ _ (Rel.drops (Rel.x4 C m) m) (i k f A)
end
end
section
section
variable{X:Cx}{K:Waa}{a b c e elt iter tg:Expr}{es ifs:List Expr}{da db dc':DE}{dt:DA}{dT:DT}{pos p:Pos}{x:Str}{N:List Str}{nt:Nat}{fr:List Nat}{scope:Scope}{di:DI}{dg:DG}{dc:DC}
theorem PDg.ex{Y:CC->Cx}(j:∀c,(Y c).K=K)(h:∀c,PDg (Y c) Ff m tg dg):∃g:CC->TG,∀c,PG (Y c) tg (g c)/\n5 K Ff m (g c) dg:=
 abR (r:=λc g=>PG (Y c) tg g/\n5 K Ff m g dg) λc=>(by obtain⟨i,d,f⟩:=h c;exact⟨i,d,j c▸f⟩)
theorem PDc.ex{Y:CC->Cx}(j:∀c,(Y c).K=K)(h:∀c,PDc (Y c) ifs elt dc):∃g:CC->TC,∀c,(∀D,jy (Y c) D ifs elt (g c))/\oi K (g c) dc:=
 abR (r:=λc g=>(∀D,jy (Y c) D ifs elt g)/\oi K g dc) λc=>(by obtain⟨i,d,f⟩:=h c;exact⟨i,d,j c▸f⟩)
theorem t9(h:X.calm=true)(S:CompScope N nt fr X.N scope X.env.scope)(l:∀x,foldedSetIterable iter X.env x=pure x:=by intro _;rfl)(n:PDi X tg iter di)(i:∀c:CC,PDg (cQ X N scope c) Ff nt tg dg)(m:∀c:CC,PDc (cQ X N scope c) ifs elt dc):
  PDe X (.ListComp elt [⟨tg,iter,ifs,0⟩] scope pos) (lW di nt fr dg dc):=by
 obtain⟨q,j,k⟩:=n;obtain⟨g,f⟩:=PDg.ex (K:=X.K) (Y:=λc=>cQ X N scope c) (λ_=>rfl) i;obtain⟨o,d⟩:=PDc.ex (Y:=λc=>cQ X N scope c) (λ_=>rfl) m;exact⟨_,sV h S j (λc=>(f c).1) (λc D=>(d c).1 D) l,jM k (λc=>(f c).2) λc=>(d c).2⟩
end
def aX:List Bool->DEnv->List OR->Option (List OD×DEnv)
 |[],ρ,[]=>some ([],ρ)
 |true::ios,ρ,r::rs=>match mv1 ρ r with
  |some (x,ρ1)=>match aX ios ρ1 rs with|some (xs,ρ2)=>some (x::xs,ρ2)|none=>none
  |none=>none
 |false::ios,ρ,r::rs=>match frz1 ρ r with
  |some (d,ρ1)=>match aX ios ρ1 rs with|some (xs,ρ2)=>some (.fz d::xs,ρ2)|none=>none
  |none=>none
 |_,_,_=>none
def hV:List Bool->List OR->List OD->DEnv->DEnv
 |true::ios,.rf j::rs,y::ys,ρ=>hV ios rs ys (ρ.set j (some y))
 |_::ios,_::rs,_::ys,ρ=>hV ios rs ys ρ
 |_,_,_,ρ=>ρ
section
variable{b:Bs}{F:List Fr}{σ:St}{H H':Hp}{ρ ρ':DEnv}{τ vs:List V}{θ rs:List OR}{v u:V}{r:OR}{x y:OD}{d:PyData}{i j:Nat}
theorem argsR_ok:∀{ios:List Bool}{vs:List V}{rs:List OR}{ρ ρ':DEnv}{xs:List OD}{τ:List V}{θ:List OR},Rel b F σ H ρ (vs++τ) (rs++θ)->vs.length=rs.length->aX ios ρ rs=some (xs,ρ')->Rel b F σ H ρ' (vs++τ) (xs.map OR.val++θ)/\vs.length=xs.length
 |[],[],[],_,_,_,_,_,R,_,e=>by simp only[aX]at e;cases e;exact⟨R,rfl⟩
 |true::ios,v::vs,r::rs,ρ,ρ',ds,τ,θ,R,e,h=>by
  simp only[aX]at h;split at h
  ·rename_i x ρ1 g;split at h
   ·rename_i xs ρ2 k;cases h;have l:Rel b F σ H ρ1 (v::(vs++τ)) (.val x::(rs++θ)):=Rel.mv1 R g;have c:vs.length=rs.length:=by simpa using e
    obtain⟨f,a⟩:=argsR_ok (Rel.x4 l c) c k;exact⟨Rel.rot f (by rw[a,aag]),by simp[a]⟩
   ·cases h
  ·cases h
 |false::ios,v::vs,r::rs,ρ,ρ',ds,τ,θ,R,e,h=>by
  simp only[aX]at h;split at h
  ·rename_i x ρ1 g;split at h
   ·rename_i xs ρ2 k;cases h;have l:Rel b F σ H ρ1 (v::(vs++τ)) (.val (.fz x)::(rs++θ)):=Rel.frz1 R g;have c:vs.length=rs.length:=by simpa using e
    obtain⟨f,a⟩:=argsR_ok (Rel.x4 l c) c k;exact⟨Rel.rot f (by rw[a,aag]),by simp[a]⟩
   ·cases h
  ·cases h
 |_,[],_::_,_,_,_,_,_,_,e,_=>by simp at e
 |_,_::_,[],_,_,_,_,_,_,e,_=>by simp at e
 |[],_::_,_::_,_,_,_,_,_,_,_,h=>by simp[aX]at h
 |true::_,[],[],_,_,_,_,_,_,_,h=>by simp[aX]at h
 |false::_,[],[],_,_,_,_,_,_,_,h=>by simp[aX]at h
theorem Rel.give(R:Rel b F σ H ρ (v::τ) (.val y::θ))(ev:σ[j]?=some (some v)):Rel b F σ H (ρ.set j (some y)) τ θ:=
 Rel.back R.wf (Rel.drop R).al R.wff ev (Wd.mn R.wd R.wf j)
theorem bR:∀{ios:List Bool}{vs:List V}{rs:List OR}{ys:List OD}{ρ:DEnv},Al σ vs rs->vs.length=ys.length->Rel b F σ H ρ (vs++τ) (ys.map OR.val++θ)->Rel b F σ H (hV ios rs ys ρ) τ θ
 |ios,[],[],[],ρ,_,_,R=>by cases ios with|nil=>exact R|cons i ios=>cases i<;>exact R
 |[],v::vs,r::rs,y::ys,ρ,al,e,R=>by
  have a:Al σ vs rs:=by cases r with|val _=>exact al|rf _=>exact al.2
  have:=bR (ios:=[]) a (by simpa using e) (Rel.drop R);cases vs<;>cases rs<;>cases ys<;>exact this
 |true::ios,v::vs,.rf j::rs,y::ys,ρ,al,e,R=>bR (ys:=ys) al.2 (by simpa using e) (Rel.give R al.1)
 |true::ios,v::vs,.val x::rs,y::ys,ρ,al,e,R=>bR (ys:=ys) al (by simpa using e) (Rel.drop R)
 |false::ios,v::vs,.rf j::rs,y::ys,ρ,al,e,R=>bR (ys:=ys) al.2 (by simpa using e) (Rel.drop R)
 |false::ios,v::vs,.val x::rs,y::ys,ρ,al,e,R=>bR (ys:=ys) al (by simpa using e) (Rel.drop R)
 |_,[],_::_,_,_,al,_,_=>by simp[Al]at al
 |_,_::_,[],_,_,al,_,_=>by simp[Al]at al
 |_,[],_,_::_,_,_,e,_=>by simp at e
 |_,_::_,_,[],_,_,e,_=>by simp at e
end
structure FnD (P:Program)(w:World)(K:Waa)(mg:Str->Option Value)(base:Heap)(k:Nat)(f:Addr)(fd:FuncData)(ps:List Str)(sp:DSp):Prop where
 ok:FnOk P w K mg base CX0 k f fd ps (toSp K sp)
 mono:tD sp
section
variable{X:Cx}{K:Waa}{a b c e:Expr}{es:List Expr}{da db dc:DE}{dt:DA}{pos p:Pos}{x:Str}{k:Nat}{f:Addr}{fd:FuncData}{ps:List Str}{sp:DSp}
def vA(sp:DSp)(ios:List Bool)(t:DA):DE:=λj Q=>t j λi g=>∃h d,aX ios g i=some (h,d)/\sp h λx l=>Q (.val x) (hV ios i l d)
theorem qt(G:FnD X.prog X.w X.K X.mg X.base k f fd ps sp)(C:xC X.K ta dt):bG X.K (vm (toSp X.K sp) [] E0 ta) (vA sp ios dt):=λb F o H D l m U Q t R h q=>C b F o H D l m _ _ t R h λu S O L z r ⟨T,i,M,I⟩=>by
  obtain⟨y,g⟩:=argsR_ok r z M;have J:=((aS z).mp r.al).1;have w:=y.vals g;rw[aaA,<-t];refine w.call g G.mono (G.mono _ _ _ (λx s B d v j A=>q v j _ _ ?_ B) I);have N:Rel b F o j i (v::(u++l)) (.val x::(s.map OR.val++m)):=by have n:=y.drops (by simpa using g);refine⟨n.wf,(aS (by simpa using d)).mpr ⟨iM d,n.al⟩,n.wff,?_⟩;show Wd b j ((v,x)::(stk (u++l) (s.map OR.val++m)++_));rw[aC (by simpa using d),cD d,aaf];exact A
  exact bR J d (Rel.x4 N (by simpa using d))
theorem uc{ios:List Bool} (G:FnD X.prog X.w X.K X.mg X.base k f fd ps sp) (l:Room k X.A) (j:Gl X x) (h:X.mg x=some (.ref f)) (hk:PySem.W.keepIn X.K (.ref f)=true) (m:Binds X.K fd ps []) (d:(x==("__debug__":Str))=false:=by decide)
  (i:starEach (e::es) X.env=(false,eval e X.env)::starEach es X.env:=by rfl) (g:(backTo pos (starEach es X.env)).any (·.1)=false:=by rfl):PDa X (e::es) dt->PDe X (.Call (.Name x p) (e::es) [] pos) (vA sp ios dt)
 |⟨_,h1,s1⟩=>⟨_,sP (E:=E0) G.ok l j h hk m .nil zY h1 d i g,qt G s1⟩
end
def Cu:PyData->Bool
 |.int _=>true
 |.bool _=>true
 |.str _=>true
 |.none=>true
 |_=>false
theorem Fz.sc{K:Waa}(h:Fz K S H v d)(e:Cu d=true):Sc v d:=by cases h<;>first|constructor|cases e
section
variable{X:Cx}{K:Waa}{a b c e:Expr}{es:List Expr}{da db dc:DE}{dt:DA}{pos p:Pos}{x:Str}{k:Nat}{f:Addr}{fd:FuncData}{ps:List Str}{sp:DSp}
def D1(sp:DSp)(t:DA):DE:=λi Q=>t i λj g=>∃h,cx g j=some h/\sp (h.map OD.fz) λx _=>∃d,x=.fz d/\Cu d=true/\Q (.val (.fz d)) g
end
section
variable{P:Program}{w:World}{K:Waa}{mg:Str->Option Value}{base:Heap}
theorem bp:∀{vs:List V}{n:Nat}{ρ:DEnv},flat (vs.map some++List.replicate n none) ρ=flat (vs.map some) ρ
 |[],0,_=>rfl
 |[],n+1,[]=>rfl
 |[],n+1,o::ρ=>by
  rw[aaQ,aaN,aaK];have:flat (none::List.replicate n none) (o::ρ)=flat (List.replicate n none) ρ:=by cases o<;>rfl
  rw[this];have:=bp (vs:=[]) (n:=n) (ρ:=ρ);simpa[flat] using this
 |v::vs,n,[]=>by simp[flat]
 |v::vs,n,none::ρ=>by simp only[aan,aaL,aV];exact bp
 |v::vs,n,some x::ρ=>by simp only[aan,aaL,flat];rw[bp]
theorem f7:∀{vs:List V}{xs:List OD}{k:Nat},vs.length=xs.length->flat (vs.map some) (xs.map some++List.replicate k none)=vs.zip xs
 |[],[],0,_=>rfl
 |[],[],_+1,_=>rfl
 |v::vs,x::xs,k,e=>by simp only[aan,aaL,flat,abu];rw[f7 (by simpa using e)]
 |[],_::_,_,e=>by simp at e
 |_::_,[],_,e=>by simp at e
theorem f9:∀{vs:List V}{xs:List OD}{k:Nat},vs.length=xs.length->Wf (vs.map some++List.replicate k none) (xs.map some++List.replicate k none)
 |[],[],0,_=>trivial
 |[],[],k+1,_=>by have:=f9 (vs:=[]) (xs:=[]) (k:=k) rfl;exact this
 |v::vs,x::xs,k,e=>f9 (xs:=xs) (by simpa using e)
 |[],_::_,_,e=>by simp at e
 |_::_,[],_,e=>by simp at e
def gb(N:Nat)(xs:List OD):DEnv:=xs.map some++List.replicate (N-xs.length) none
def aU:Nat->List Bool->List OD->DEnv->Option (List OD)
 |_,[],[],_=>some []
 |i,true::ios,_::xs,ρ=>match ρ[i]?.join with
  |some y=>match aU (i+1) ios xs ρ with|some ys=>some (y::ys)|none=>none
  |none=>none
 |i,false::ios,.fz d::xs,ρ=>match aU (i+1) ios xs ρ with|some ys=>some (.fz d::ys)|none=>none
 |_,_,_,_=>none
def WS(ios:List Bool):Nat->Prop:=λj=>ios[j]?=some true
def dJ:Nat->List Bool->List V->List V
 |i,true::ios,v::vs=>v::dJ (i+1) ios vs
 |i,false::ios,_::vs=>dJ (i+1) ios vs
 |_,_,_=>[]
def cj:Nat->List Bool->List OR
 |i,true::ios=>.rf i::cj (i+1) ios
 |i,false::ios=>cj (i+1) ios
 |_,[]=>[]
theorem iP:∀{ios:List Bool}{vs:List V}{i:Nat},ios.length=vs.length->(∀k v,vs[k]?=some v->σ[i+k]?=some (some v))->Al σ (dJ i ios vs) (cj i ios)
 |[],[],_,_,_=>trivial
 |true::ios,v::vs,i,e,h=>⟨h 0 v rfl,iP (ios:=ios) (by simpa using e) λk u a=>by have:=h (k+1) u (by simpa using a);rwa [show i+1+k=i+(k+1) by omega]⟩
 |false::ios,v::vs,i,e,h=>iP (i:=i+1) (by simpa using e) λk u a=>by have:=h (k+1) u (by simpa using a);rwa [show i+1+k=i+(k+1) by omega]
 |[],_::_,_,e,_=>by simp at e
 |true::_,[],_,e,_=>by simp at e
 |false::_,[],_,e,_=>by simp at e
theorem iQ:∀{ios:List Bool}{i:Nat}{W:Nat->Prop},(∀k,ios[k]?=some true->W (i+k))->NoRf W (cj i ios)
 |[],_,_,_=>λr a=>by simp[cj]at a
 |true::ios,i,W,h=>λr a=>by
  simp only[cj]at a;rcases aaa.mp a with rfl|a
  ·exact .inr ⟨i,h 0 rfl,rfl⟩
  ·exact iQ (ios:=ios) (λk b=>by have:=h (k+1) (by simpa using b);rwa [show i+1+k=i+(k+1) by omega]) r a
 |false::ios,i,W,h=>λr a=>iQ (i:=i+1) (λk b=>by have:=h (k+1) (by simpa using b);rwa [show i+1+k=i+(k+1) by omega]) r a
theorem dM:∀{ios:List Bool}{vs:List V}{i:Nat},stk (dJ i ios vs) (cj i ios)=[]
 |[],[],_=>rfl
 |[],_::_,_=>rfl
 |true::ios,[],i=>by simp[dJ,cj,stk]
 |false::ios,[],i=>by have:dJ i (false::ios) ([]:List V)=[]:=rfl;rw[this];cases h:cj i (false::ios)<;>rfl
 |true::ios,v::vs,i=>dM (i:=i+1)
 |false::ios,v::vs,i=>dM (i:=i+1)
end
end
section
section
variable{P:Program}{w:World}{K:Waa}{mg:Str->Option Value}{base:Heap}{b:Bs}{σ:St}{H:Hp}
theorem Wd.addF(w:Wd b H L)(f:Fz b.K (λa=>b.C a\/b.S0 a) b.H0 v d):Wd b H ((v,.fz d)::L):=by
 obtain⟨A,h,g,e⟩:=w.out;refine⟨⟨A,Ows.cons (.fz (f.step (w.fr.weak λc z=>.inl (.inl z)) λc z=>?_)) h,g,e⟩,w.fr,w.s0,w.nt⟩;rcases z with z|z
 ·exact(e c z).elim .inr λz=>.inl (.inl z)
 ·exact .inl (.inr z)
theorem eI:∀{ios:List Bool}{xs:List OD}{i j:Nat}{ρ:DEnv},j<i->aU i ios xs (ρ.set j none)=aU i ios xs ρ
 |[],[],_,_,_,_=>rfl
 |true::ios,_::xs,i,j,ρ,h=>by simp only[aU];rw[aa6 (by omega),eI (by omega)]
 |false::ios,.fz d::xs,i,j,ρ,h=>by simp only[aU];rw[eI (by omega)]
 |[],_::_,_,_,_,_=>rfl
 |true::_,[],_,_,_,_=>rfl
 |false::_,[],_,_,_,_=>rfl
 |false::_,.lst _::_,_,_,_,_=>rfl
 |false::_,.tup _::_,_,_,_,_=>rfl
 |false::_,.dic _ _::_,_,_,_,_=>rfl
 |false::_,.obj _ _ _::_,_,_,_,_=>rfl
 |false::_,.pin _ _ _::_,_,_,_,_=>rfl
 |false::_,.hole _::_,_,_,_,_=>rfl
theorem iR:∀{ios:List Bool}{vs:List V}{xs ys:List OD}{i:Nat}{ρ:DEnv}{L1:List (V×OD)},vs.length=xs.length->(∀(k:Nat) v d,vs[k]?=some v->xs[k]?=some (.fz d)->Fz b.K (λa=>b.C a\/b.S0 a) b.H0 v d)->aU i ios xs ρ=some ys ->
  Al σ (dJ i ios vs) (cj i ios)->Wf σ ρ->Wd b H (L1++flat σ ρ)->vs.length=ys.length/\∃R,Wd b H (L1++(vs.zip ys++R))
 |[],[],[],ys,i,ρ,L1,_,_,e,_,_,w=>by simp only[aU]at e;cases e;exact⟨rfl,_,w⟩
 |true::ios,v::vs,x::xs,ys,i,ρ,L1,el,hf,e,al,wf,w=>by
  simp only[aU]at e;split at e
  ·rename_i y o;split at e
   ·rename_i l f;cases e;have n:σ[i]?=some (some v):=al.1;have h:Wd b H ((L1++[(v,y)])++flat σ (ρ.set i none)):=w.perm (by
     rw[aaf];exact(aZ (join_some o) n).append_left _)
    obtain⟨m,R,c⟩:=iR (by simpa using el) (λk u d j g=>hf (k+1) u d (by simpa using j) (by simpa using g)) (by rw[eI (by omega)];exact f) al.2 wf.off h;exact⟨by simp[m],R,by rw[aaf]at c;exact c⟩
   ·cases e
  ·cases e
 |false::ios,v::vs,.fz d::xs,ys,i,ρ,L1,el,hf,e,al,wf,w=>by
  simp only[aU]at e;split at e
  ·rename_i l f;cases e;have h:Wd b H ((L1++[(v,.fz d)])++flat σ ρ):=(w.addF (hf 0 v d rfl rfl)).perm (by
    rw[aaf];exact aap.symm)
   obtain⟨m,R,c⟩:=iR (by simpa using el) (λk u d j g=>hf (k+1) u d (by simpa using j) (by simpa using g)) f al wf h;exact⟨by simp[m],R,by rw[aaf]at c;exact c⟩
  ·cases e
 |[],_::_,_::_,_,_,_,_,_,_,e,_,_,_=>by simp[aU]at e
 |true::_,[],[],_,_,_,_,_,_,e,_,_,_=>by simp[aU]at e
 |false::_,[],[],_,_,_,_,_,_,e,_,_,_=>by simp[aU]at e
 |false::_,_::_,.lst _::_,_,_,_,_,_,_,e,_,_,_=>by simp[aU]at e
 |false::_,_::_,.tup _::_,_,_,_,_,_,_,e,_,_,_=>by simp[aU]at e
 |false::_,_::_,.dic _ _::_,_,_,_,_,_,_,e,_,_,_=>by simp[aU]at e
 |false::_,_::_,.obj _ _ _::_,_,_,_,_,_,_,e,_,_,_=>by simp[aU]at e
 |false::_,_::_,.pin _ _ _::_,_,_,_,_,_,_,e,_,_,_=>by simp[aU]at e
 |false::_,_::_,.hole _::_,_,_,_,_,_,_,e,_,_,_=>by simp[aU]at e
 |_,[],_::_,_,_,_,_,e,_,_,_,_,_=>by simp at e
 |_,_::_,[],_,_,_,_,e,_,_,_,_,_=>by simp at e
theorem Ows.fzAt:∀{vs:List V}{xs:List OD}{A:List Addr}{k:Nat}{v:V}{d:PyData},Ows b S H vs xs A->vs[k]?=some v->xs[k]?=some (.fz d)->Fz b.K S H v d
 |_,_,_,0,_,_,.cons r _,e,e'=>by simp at e e';subst e e';cases r with|fz f=>exact f
 |_,_,_,k+1,_,_,.cons _ t,e,e'=>Ows.fzAt (k:=k) t (by simpa using e) (by simpa using e')
 |_,_,_,_,_,_,.nil,e,_=>by simp at e
theorem Fun.okD{C:Stmt}(F:Fun K x qual C f fd)(S:FnScope N ps (aD C))(D:tD sp)(a3:ios.length=ps.length)(I:∀xs Q,sp xs Q->xs.length=ps.length)
  (p:∀(n:Value) (A:Around) (g:List Env) (s:Shared) (H:Hp) (E:XK),Room k (A.deeper (envOfC qual (aD C) s.heap.objs.size f n))->∀(xs:List OD) (Q:OD->List OD->Prop),sp xs Q ->
   ∃O,PDss (iB CX0 P w K mg base N qual (aD C) f n A g s H E).u1 (WS ios) (bo C) O/\O { nx:=λU=>∃l,aU 0 ios xs U=some l/\Q (.fz .none) l,rt:=λx U=>∃l,aU 0 ios xs U=some l/\Q x l } (gb N.length xs)):FnD P w K mg base (k+1) f fd ps sp:=by
 refine⟨F.ok S (λm H Q E h=>?_) (λn A g s H m Q E hr h=>?_),D⟩
 ·obtain⟨S,xs,A,_,_,y,_,h⟩:=h;rw[y.len];exact I _ _ h
 ·obtain⟨S',xs,T,al,nt,y,nA,h⟩:=h;obtain⟨O,⟨ts,Y,s1⟩,hd⟩:=p n A g s H E hr xs _ h;refine⟨ts,Y,?_⟩
  let b:Bs:=⟨K,H,S',λa=>a∈T⟩
  have L:=y.len;have a4:=I _ _ h;have w0:Wd b H (m.zip xs):=⟨⟨T,OwL.j1 y,nA,λa ha=>.inr ha⟩,Kp.refl _ _,λa z=>⟨(al a z).1,(al a z).2⟩,nt⟩
  have sg:∀(k:Nat) v,m[k]?=some v->(start N m)[0+k]?=some (some v):=λk v e=>by have X:=(aah.mp e).1;unfold start;rw[abj,abr (by simpa using X),aaq,e];rfl
  have R:Rel b [] (start N m) H (gb N.length xs) (dJ 0 ios m) (cj 0 ios):=by unfold start gb;refine⟨by rw[L];exact f9 L,iP (by omega) sg,λf hf=>(by cases hf),?_⟩;rw[dM];show Wd b H ([]++(flat _ _++[]));rw[aaN,aaA,bp,f7 L];exact w0
  have u:∀(j:St) (o:Hp) (i:DEnv) (v:V) (x:OD),Rel b [] j o i (v::dJ 0 ios m) (.val x::cj 0 ios)->(∃l,aU 0 ios xs i=some l/\E4 K S' T m H Q x l)->Q v o:=λj o i v x G ⟨l,ey,ha⟩=>by
   have w':Wd b o ([(v,x)]++flat j i):=by have:=G.wd;simp only[stk]at this;rw[dM]at this;simpa[ff] using this
   obtain⟨M,Z,J⟩:=iR L (λk v d Y h2=>(Ows.fzAt y Y h2).sub λa z=>z) ey G.al G.wf w';have e1:[(v,x)]++(m.zip l++Z)=(v::m).zip (x::l)++Z:=rfl;rw[e1]at J;obtain⟨B0,h0,nd,a0⟩:=J.out;have a2:=J.qd h0;obtain⟨B,B2,rfl,r,t⟩:=OwL.fx h0;refine ha v o B J.fr (Ows.sub a2 (λc z=>z.imp (aae _) id) (OwL.u2 (by simp[M]) r)) (aaC.mp nd).1 λa a1=>a0 a (aae _ a1)
  refine s1 b [] (start N m) H _ _ _ _ _ rfl (iQ λk X=>?_) R hd ⟨λj o i G q=>?_,λ_ _ _ _ q=>q.elim,λ_ _ _ _ q=>q.elim,u⟩
  ·rw[abj];exact X
  ·exact u j o i .non _ (G.sc .non) q
end
end
section
def D2:PyData->Str
 |.str x=>x
 |d=>d.shown
def D3:PyData->Bool
 |.str _=>true
 |_=>false
def F7(d:PyData):Bool:=D3 d||(d.showable&&!d.hasDict&&decide (d.shown.length<=10000000)&&decide (d.depth<=40))
section
variable{X:Cx}
def E8(K:Waa):List V->Hp->VK->Prop:=λa H Q=>∃v d,a=[v]/\Dt K H v d/\F7 d=true/\Q (.str (D2 d)) H
def F8:Int->List Int->Int
 |a,[]=>a
 |a,b::r=>F8 (if b>a then b else a) r
section
variable{e st:Expr}{te:TE}{p2 pos:Pos}
def GD(K:Waa)(te:TE):TE:=λd H Q=>te d H λx b=>∃a c,x=.ref a/\SqL K b a c/\∀p,b p=none->Q (.ref p) (upd b p (.lst c.reverse))
end
end
end
section
open AutoSeq1 (wpAny_loadPart')
def D4(K:Waa)(l:Addr):It:=
 ⟨λi H=>∃a x,SqT K H l a/\a[i]?=some x,
  λi H v b=>∃T x,(∀a,SqT K H l a->a[i]?=some x)/\H T=none/\v=.ref T/\b=upd H T (.tup [.int i,x]),
  λi H=>∃a,SqT K H l a/\a.length<=i⟩
section
variable{X:Cx}{a:Expr}{es:List Expr}{p pos:Pos}
def D5(K:Waa)(e:TA):TI:=λd H R=>e d H λf b=>∃l c,f=[.ref l]/\((SqL K b l c/\R (Cp K l) b)\/(SqT K b l c/\R (D4 K l) b))
def D6(t:DA):DI:=λf Q=>t f λe c=>∃d b,(frzL c e=some ([.list d],b)\/frzL c e=some ([.tuple d],b))/\Q (cg d) b
def E9(a b:DE):DE:=λf Q=>a f λx e=>b e λy c=>∃d es,sm c x=some d/\sm c y=some es/\d≠[]/\d.length+es.length<=1000000/\Q (.val (.fz (.tuple (d++es)))) c
end
end
section
open AutoSeq1 (wpAny_loadPart')
open MeetsSeq
theorem eJ{M:Model}{A:Around}{E:Value->Shared->Prop}{s:Shared}{g:Type}(n:Nat)(f:Nat->g->Sem (ForInStep g))(I:Nat->g->Shared->Prop)(Q:g->Shared->Prop)
  (d:∀i b s,i<n->I i b s->wpAny M A (f i b) (λr k=>match r with|.yield a=>I (i+1) a k|.done a=>Q a k) E s)
  (j:∀b s,I n b s->Q b s) (b:g) (h:I 0 b s):wpAny M A (forIn [0:n] b f) Q E s:=by
 rw[Std.Legacy.Range.forIn_eq_forIn_range'];refine wpAny_forIn_list f (λl b s=>∃i,l=List.range' i (n-i)/\i<=n/\I i b s) Q ?_ ?_ _ b ⟨0,by simp[Std.Legacy.Range.size],aaE _,h⟩
 ·rintro x p b s ⟨i,e,t,m⟩;have c:i<n:=by
   by_cases q:i<n
   ·exact q
   ·rw[show n-i=0 by omega]at e;simp at e
  rw[show n-i=(n-(i+1))+1 by omega,List.range'_succ]at e;obtain⟨rfl,rfl⟩:=List.cons.inj e;refine thn (d x b s c m) λr k o=>?_;cases r with
  |yield a=>exact⟨x+1,rfl,c,o⟩
  |done a=>exact o
 ·rintro b s ⟨i,e,t,m⟩;have:n-i=0:=by have:=congrArg List.length e;simpa using this.symm
  have:i=n:=by omega
  subst this;exact j b s m
theorem jN(l:Addr)(items:Array Value)(n:Nat)(dd:Option Addr)(B:Array (Option Value))(x:Value)(e:Value->Bool)(z:∀y,y∈items->EqGives y x (e y))(j:Nat)(G:j<items.size)
  (k:e items[j]=true) (p:∀m (H:m<items.size),m<j->e items[m]=false):
  Meets (Builtin.«tuple.index» ⟨[.ref l,x],[]⟩)
   (λ_ R s=>s.heap.get? l=some { cls:=.type "tuple",dict:=dd,data:=.seq items n,slots:=B }/\R (.ok (.ret (.int j s.toks))) { s with toks:=s.toks+1 }):=
 .of_wp λc w A R s h=>by
  obtain⟨r,g,d,C,q⟩:=s;obtain⟨t,h⟩:=h
  wp_walk using wpAny_loadPart' t,eJ _ _ (λi b f=>b.1=none/\f=⟨r,g,d,C,q⟩/\i<=j) _
  ·rintro i b f D ⟨v,rfl,o⟩;have a:i<items.size:=by omega
   rw[show items[i]?=some items[i] from abd a];refine wpAny_bind (z _ (Array.getElem_mem a) c w _ _ _ _ ?_);by_cases u:i=j
   ·subst u;rw[k]
    wp_walk
    exact⟨_,rfl,h⟩
   ·rw[p i a (by omega)]
    wp_walk
    exact⟨rfl,rfl,by omega⟩
  ·rintro b f ⟨v,rfl,o⟩;omega
  ·exact⟨rfl,rfl,aaE _⟩
end
section
section
variable{X:Cx}{K:Waa}{o e:Expr}{da db:DE}{pos pos' apos cpos:Pos}
def vB(n:Int):Value->Bool
 |.int a _=>a==n
 |_=>false
theorem oo:MtR X "tuple.index" (λx vs H Q=>∃(l:Addr) (ns:List Int) (n:Int) (j:Nat),x=.ref l/\vs=[.int n]/\SqT X.K H l (ns.map V.int)/\ns[j]?=some n/\(∀m,m<j->ns[m]?≠some n)/\Q (.int j) H):=by
 intro M s σ H x vs v us Q I O Y h;obtain⟨l,ns,n,j,rfl,rfl,hS,N,G,q⟩:=h;cases O;obtain⟨u,rfl,D⟩:=Y.one;obtain⟨t,rfl⟩:=D;obtain⟨c,r,S,_⟩:=I.tuple hS;have L:c.length=ns.length:=by rw[<-r.length,aag]
 have d:∀m (f:m<c.length),∃a t',c[m]=.int a t'/\ns[m]?=some a:=λm f=>by
  have w:m<ns.length:=by omega
  obtain⟨u,Z,D⟩:=r.get (i:=m) (x:=.int ns[m]) (by rw[aaq,aao w];rfl);obtain⟨t',rfl⟩:=D;refine⟨ns[m],t',?_,aao w⟩;have:=(aah.mp Z).2;exact this
 have A:j<c.length:=by have:=(aah.mp N).1;omega
 have C:vB n c.toArray[j]=true:=by obtain⟨a,t',B,g⟩:=d j A;rw[N]at g;cases g;show vB n c[j]=true;rw[B];simp[vB]
 have k:∀m (f:m<c.toArray.size),m<j->vB n c.toArray[m]=false:=λm f J=>by obtain⟨a,t',B,g⟩:=d m f;show vB n c[m]=false;rw[B];have:a≠n:=λz=>G m J (z▸g);simp[vB,this]
 have he:∀y,y∈c.toArray->MeetsSeq.EqGives y (.int n t) (vB n y):=λy hy=>by obtain⟨m,f,rfl⟩:=List.getElem_of_mem (List.mem_toArray.mp hy);obtain⟨a,t',B,g⟩:=d m f;rw[B];exact MeetsSeq.EqGives.int a n t' t
 obtain⟨⟨oc,od,dt,sl⟩,p,T,U,ed⟩:=S;cases T;cases ed;refine call_meets F.slot_tuple_index ⟨_,p,rfl⟩ F.entry_tuple_index (F.args_tuple_index_2 _ _) (jN l c.toArray U od sl (.int n t) (vB n) he j A C k) ⟨p,?_⟩;exact⟨.int j,H,I.kept (t':=s.toks+1) λb o e=>e,⟨_,rfl⟩,q⟩
end
end
section
def rn2(i j:Int):Nat:=((j-i+1)/2).toNat
theorem qu{a b:Int}(h:a<=b):Builtin.Range.rangeSize a b 2=(rn2 a b:Int):=by unfold Builtin.Range.rangeSize rn2;rw[if_pos (by decide)];split<;>omega
def oq(lo:Int)(n:Nat):List PyData:=(List.range n).map λ(i:Nat)=>PyData.int (lo+(i:Int)*2)
theorem qw(lo:Int)(n:Nat):(oq lo n).length=n:=by simp[oq]
theorem ou(b:Bs)(lo:Int)(n:Nat):iN b (Dw lo 2 n) [] [] (oq lo n):=λF o H p q r R k=>by rw[qw];refine⟨λh=>⟨h,λx m d ⟨l,f⟩ a=>?_⟩,λe=>by subst e;exact aac _⟩;subst l f;unfold oq at a;rw[aaq]at a;obtain⟨j,i,rfl⟩:=aaJ.mp a;obtain⟨g,c⟩:=aah.mp i;simp at g c;subst c;exact Rel.sc R (.int _)
section
variable{X:Cx}{tg:Expr}{a b c:Expr}{p pos:Pos}
def AG(t:DA):DI:=λe Q=>t e λf d=>∃i j,cx d f=some [.int i,.int j,.int 2]/\(0<=i/\i<=j/\j<=1000000)/\Q (oq i (rn2 i j)) d
theorem kQ{k:DA} (u:Gl X "range") (z:X.mg "range"=none) (w:starEach [a,b,c] X.env=[(false,eval a X.env),(false,eval b X.env),(false,eval c X.env)]) (f:starEach [b,c] X.env=[(false,eval b X.env),(false,eval c X.env)]):PDa X [a,b,c] k->PDi X tg (.Call (.Name "range" p) [a,b,c] [] pos) (AG k)
 |⟨_,h,s⟩=>⟨_,nR u z h w f,λb F σ H ρ τ θ B Q o R h q=>s b F σ H ρ τ θ _ _ o R h λvs m rs ρ1 l g ⟨i,j,e,y,n⟩=>by
  have v:=g.dtL l e;cases v with
  |cons r t=>cases t with|cons A t=>cases t with|cons d t=>cases t;cases r;cases A;cases d;exact⟨i,j,2,rn2 i j,rfl,by omega,qu y.2.1,q _ m _ ρ1 [] [] rfl (λr x=>by cases x) (g.drops l) (ou b i _) n⟩⟩
end
end
end L2
namespace Np
open PySem
def Fb(L:List Nat)(j r:Nat):Prop:=r<=L.length/\(∀(i x:Nat),L[i]?=some x->i<r->x<j)/\∀(i x:Nat),L[i]?=some x->r<=i->j<=x
theorem gf{xs:Array Nat}{j:Nat}(m:xs.toList.Pairwise (·<·)):∀(f lo hi:Nat),hi-lo<=f->lo<=hi->hi<=xs.size ->
  (∀(i x:Nat),xs.toList[i]?=some x->i<lo->x<j)->(∀(i x:Nat),xs.toList[i]?=some x->hi<=i->j<=x)->Fb xs.toList j (SetTable.below.go xs j f lo hi)
 |0,lo,hi,hf,hl,hh,h1,h2=>by
  have e:lo=hi:=by omega
  subst e;exact⟨by rw[aaH];exact hh,h1,h2⟩
 |f+1,lo,hi,hf,hl,hh,h1,h2=>by
  unfold SetTable.below.go;by_cases g:lo<hi
  ·rw[if_pos g];have p:(lo+hi)/2<xs.size:=by omega
   have k:xs.toList[(lo+hi)/2]?=some xs[(lo+hi)/2]:=by simp[p]
   have t:xs.getD ((lo+hi)/2) j=xs[(lo+hi)/2]:=by simp[Array.getD,p]
   have o:∀(a b x y:Nat),a<b->xs.toList[a]?=some x->xs.toList[b]?=some y->x<y:=λa b x y n u v=>by obtain⟨r,s⟩:=aah.mp u;obtain⟨w,q⟩:=aah.mp v;rw[<-s,<-q];exact abS.mp m a b r w n
   dsimp only;rw[t];by_cases d:xs[(lo+hi)/2]<j
   ·rw[if_pos d];refine gf m f _ hi (by omega) (by omega) hh (λi x c l=>?_) h2;rcases abk i ((lo+hi)/2) with h|h
    ·exact aba (o _ _ _ _ h c k) d
    ·have e:i=(lo+hi)/2:=by omega
     subst e;rw[k]at c;cases c;exact d
   ·rw[if_neg d];refine gf m f lo _ (by omega) (by omega) (by omega) h1 λi x c l=>?_;rcases abk ((lo+hi)/2) i with h|h
    ·exact aat (Nat.not_lt.mp d) (aaO (o _ _ _ _ h k c))
    ·have e:i=(lo+hi)/2:=by omega
     subst e;rw[k]at c;cases c;exact Nat.not_lt.mp d
  ·rw[if_neg g];have e:lo=hi:=by omega
   subst e;exact⟨by simpa using hh,h1,h2⟩
theorem gg{xs:Array Nat}{j:Nat}(a:xs.toList.Pairwise (·<·)):Fb xs.toList j (SetTable.below xs j):=
 gf a xs.size 0 xs.size (aac _) (aaE _) (aac _) (λ_ _ _ h=>absurd h (abT _)) λi x b c=>by have:=(aah.mp b).1;rw[aaH]at this;omega
structure Tab (B:Bool)(t:SetTable):Prop where
 led:t.led=!B
 dum:t.dummies=#[]
 ris:t.place.toList.Pairwise (·<·)
section
variable{B:Bool}{t:SetTable}
theorem Tab.fresh:Tab B (.fresh 0 0 (!B)):=⟨rfl,rfl,.nil⟩
theorem Tab.standIn(h:Tab B t)(n:Nat):Tab B (t.standIn n):=⟨h.led,rfl,by
 show (Array.range n).toList.Pairwise _;rw[Array.toList_range];exact acf⟩
theorem Tab.orStandIn(h:Tab B t)(n:Nat):Tab B (t.orStandIn n):=by
 unfold SetTable.orStandIn;split
 ·exact h
 ·exact h.standIn n
theorem Tab.off(h:Tab B t):Tab B { t with plain:=false }:=⟨h.led,h.dum,h.ris⟩
theorem Tab.slot(h:Tab B t)(j:Nat):t.slot j≠.dummy/\(t.slot j=.empty->∀x∈t.place.toList,x≠j):=by
 have g:SetTable.has t.dummies j=false:=by rw[h.dum];rfl
 have b:=gg (j:=j) h.ris;unfold SetTable.slot;dsimp only;rw[g];by_cases e:(t.place[SetTable.below t.place j]?==some j)=true
 ·rw[if_pos e];exact⟨(λh=>by cases h),λh=>by cases h⟩
 ·rw[if_neg e];refine⟨(λh=>by cases h),λ_ x k l=>e ?_⟩;subst l;obtain⟨i,a⟩:=abU k;have p:¬ i<SetTable.below t.place x:=λh=>aaM _ (b.2.1 i x a h);have o:¬ SetTable.below t.place x<i:=λc=>by obtain⟨f,m⟩:=aah.mp a;have d:=aba c f;have:=abS.mp h.ris _ _ d f c;rw[m]at this;exact aaM _ (abh (b.2.2 _ _ (aao d) (aac _)) this)
  have n:i=SetTable.below t.place x:=by omega
  rw[beq_iff_eq,<-n,<-aaR];exact a
theorem Tab.q5(h:Tab B t){g:Nat->Int}{k:Int}:∀(f:Nat) (p:SetTable.Probe) (j:Nat) (d:Option Nat),p.dummy=none->SetTable.probe.go t g k f p=some (.empty j d)->d=none/\t.slot j=.empty
 |0,_,_,_,_,e=>by cases e
 |f+1,p,j,d,hp,e=>by
  unfold SetTable.probe.go at e;have b:=h.slot p.j;have c:(t.advance p).dummy=none:=by unfold SetTable.advance;split<;>exact hp
  cases a:t.slot p.j with
  |empty=>rw[a]at e;cases e;exact⟨hp,a⟩
  |dummy=>exact absurd a b.1
  |live i=>
   rw[a]at e;dsimp only at e;split at e
   ·cases e
   ·exact Tab.q5 h f _ j d c e
theorem Tab.freeSlot(h:Tab B t){k:Int}{j:Nat}{b:Bool}(e:t.freeSlot k=some (j,b)):∀x∈t.place.toList,x≠j:=by
 unfold SetTable.freeSlot at e;cases a:t.probe (λ_=>k+1) k (t.probeStart k) with
 |none=>rw[a]at e;cases e
 |some m=>
  rw[a]at e;cases m with
  |candidate _ _ _=>cases e
  |empty c d=>obtain⟨f,g⟩:=h.q5 _ _ c d rfl a;subst f;cases e;exact(h.slot c).2 g
theorem Tab.put(h:Tab B t){j:Nat}(n:∀x∈t.place.toList,x≠j):Tab B (t.put j).1:=by
 have b:=gg (j:=j) h.ris;refine⟨h.led,?_,?_⟩
 ·show (if SetTable.has t.dummies j=true then _ else t.dummies)=#[];rw[h.dum];rfl
 ·show (SetTable.insertAt t.place (SetTable.below t.place j) j).toList.Pairwise _;rw[SetTable.toList_insertAt];have f:=h.ris;rw[<-acg (SetTable.below t.place j) t.place.toList,ach]at f;have m:∀x∈t.place.toList.take (SetTable.below t.place j),x<j:=λx e=>by
   obtain⟨i,d⟩:=abU e;rw[List.getElem?_take]at d;split at d
   ·exact b.2.1 i x d (by assumption)
   ·cases d
  have o:∀x∈t.place.toList.drop (SetTable.below t.place j),j<x:=λx e=>by have l:=n x (ace e);obtain⟨i,d⟩:=abU e;rw[abv]at d;have:=b.2.2 _ x d (abb _ _);omega
  refine ach.mpr ⟨f.1,abe.mpr ⟨o,f.2.1⟩,λa k c g=>?_⟩;rcases aaa.mp g with rfl|g
  ·exact m a k
  ·exact f.2.2 a k c g
theorem Tab.laid{d c g:Nat}{f:Bool}{j:Array Int}{o:Array Nat}(e:SetTable.laid d c g (!B) f j=some (t,o)):Tab B t:=by
 unfold SetTable.laid at e;cases h:SetTable.layClean d j with
 |none=>rw[h]at e;cases e
 |some i=>
  rw[h]at e;cases e;refine⟨rfl,rfl,?_⟩;show (List.map _ _).Pairwise _;rw[List.pairwise_map,List.pairwise_filterMap];refine acf.imp λ{a b} hab x hx y hy=>?_;cases k:i.getD a none with
  |none=>rw[k]at hx;cases hx
  |some _=>cases l:i.getD b none with
   |none=>rw[l]at hy;cases hy
   |some _=>rw[k]at hx;rw[l]at hy;cases hx;cases hy;exact hab
theorem Tab.layNew(h:Tab B t)(es:Array (Int×Value))(k:Int)(x:Value):Tab B (layNew t es k x).2.1:=by
 unfold PySem.layNew;cases a:t.freeSlot k with
 |none=>exact h.standIn _
 |some p=>exact(h.put (h.freeSlot (b:=p.2) a)).orStandIn _
theorem Tab.relayAll(h:Tab B t)(es:Array (Int×Value))(n:Nat):Tab B (relayAll t es n).2.1:=by
 unfold PySem.relayAll;cases a:t.relaid (es.map (·.1)) n with
 |none=>exact h.standIn _
 |some p=>
  unfold SetTable.relaid at a;rw[h.led]at a;dsimp only;split
  ·exact Tab.laid a
  ·exact h.standIn _
end
end Np
namespace Np
open PySem
def gS(es:Array (Int×Value))(ep:Nat)(t:SetTable):Obj:={ cls:=.type "set",dict:=none,data:=.set es ep t }
def unI(e:Int×Value):Int:=match e.2 with|.int m _=>m|_=>0
def SetI(P:Program)(w:World)(h:Heap)(a:Addr)(B:Bool)(ns:List Int):Prop:=∃b c t,h.get? a=some (gS b c t)/\ElemsOf (intKind P w) b.toList/\(b.toList.map unI).Perm ns/\b.size<scanBound/\t.fits b.size=true/\Tab B t
def ddI(ns:List Int)(m:Int):List Int:=if m∈ns then ns else ns++[m]
section
variable{P:Program}{w:World}{A:Around}{E:Value->Shared->Prop}{s:Shared}{a:Addr}{B:Bool}{ns:List Int}
theorem kR{e:Int×Value}{k:Int}(h:(intKind P w).is k e.2=true):unI e=k:=by obtain⟨t,b⟩:=Value.isInt_shape h;unfold unI;rw[b]
theorem SetI.at{h h':Heap}(I:SetI P w h a B ns)(k:∀o,h.get? a=some o->h'.get? a=some o):SetI P w h' a B ns:=
 let ⟨b,d,t,c,r⟩:=I;⟨b,d,t,k _ c,r⟩
theorem jO{h:Heap}{es es':Array (Int×Value)}{ep:Nat}{t t':SetTable}(b:h.get? a=some (gS es ep t)):(h.update a (Obj.putSet es' t')).get? a=some (gS es' (ep+1) t'):=
 Heap.get?_update_self (Obj.putSet es' t') b rfl
theorem add_int{m:Int}{J:Tok}{Q:Bool->Shared->Prop}(hS:SetI P w s.heap a B ns)(C:ns.length+1<scanBound)
  (h:∀(b:Bool) (h':Heap),Heap.SameBut a s.heap h'->SetI P w h' a B (ddI ns m)->Q b { s with heap:=h' }):wpAny (model P w) A (setAddHashed a (.int m J) (hashInt m)) Q E s:=by
 obtain⟨z,ep,t,O,p,i,hb,Y,hT⟩:=hS;have M:z.size=ns.length:=by rw[<-i.length_eq,aag,aaH]
 have u:=intKind_is P w m J;unfold setAddHashed setAddHashedIn;refine wpAny_holding (wpAny_bind (wpAny_setState_of O rfl Y ?_));dsimp only;rw[byScan_of (knd:=intKind P w) rfl hb p];simp only[↓reduceIte];unfold setAddByScan;refine wpAny_bind (wpAny_bind (wpAny_rule (wpAny_bind (wpAny_setScan_of (knd:=intKind P w) u O rfl Y p ?_))));cases hr:List.findIdx? (λe=>(intKind P w).is m e.2) z.toList with
 |some j=>dsimp only;obtain⟨hj,a0,_⟩:=aci.mp hr;have X:m∈ns:=i.mem_iff.mp (aaZ.mpr ⟨_,List.getElem_mem hj,kR a0⟩);refine wpAny_pure (wpAny_pure ?_);refine h false s.heap (Heap.SameBut.refl a s.heap) ⟨z,ep,t,O,p,?_,hb,Y,hT⟩;rw[ddI,if_pos X];exact i
 |none=>
  dsimp only;have X:m ∉ ns:=λX=>by obtain⟨e,he,e1⟩:=aaZ.mp (i.mem_iff.mpr X);obtain⟨⟨k,hk,_⟩,_⟩:=p e he;have:=acj.mp hr e he;rw[kR hk]at e1;subst e1;rw[hk]at this;exact Bool.noConfusion this
  have N:∀(b:Bool) {n:Shared}{Q':Unit->Shared->Prop},Q' () n->wpAny (model P w) A (match b with|true=>rule "set.scan.the-table-gave-way" |false=>pure ()) Q' E n:=
   λb n Q' hq=>by cases b<;>first|exact wpAny_pure hq|exact wpAny_rule hq
  have d:=layNew_perm t z (hashInt m) (.int m J);have f:=layNew_fits t z (hashInt m) (.int m J);have r:=hT.layNew z (hashInt m) (.int m J);generalize layNew t z (hashInt m) (.int m J)=L at d f r ⊢;obtain⟨c,l,g,a2⟩:=L;dsimp only at d f r ⊢;rw[Array.toList_push]at d;have v:ElemsOf (intKind P w) c.toList:=(p.push u rfl).perm d;have x:(c.toList.map unI).Perm (ddI ns m):=by rw[ddI,if_neg X];refine(d.map unI).trans ?_;rw[aay];exact i.append_right _
  have I:c.size<scanBound:=by rw[<-aaH,d.length_eq,aaw,aaH,M];exact C
  have D:=jO (es':=c) (t':=l) O;have U:=Heap.SameBut.update s.heap a (Obj.putSet c l);have tail:wpAny (model P w) A (do
    storeSet a c l
    if (!g&&l.tooFull)=true then do
      (match (relayAll l c (SetTable.grown c.size)).2.2 with|true=>rule "set.scan.the-table-gave-way" |false=>pure ())
      storeSet a (relayAll l c (SetTable.grown c.size)).1 (relayAll l c (SetTable.grown c.size)).2.1
      pure (some true)
     else pure (some true)) (λo s'=>o=some true/\Q true s') E s:=by
   refine wpAny_bind (wpAny_storeSet_of O rfl ?_ (fits_of_scanBound I));split
   ·have S:=relayAll_perm l c (SetTable.grown c.size);have G:=relayAll_fits l c (SetTable.grown c.size);have H:=r.relayAll c (SetTable.grown c.size);generalize relayAll l c (SetTable.grown c.size)=R at S G H ⊢;obtain⟨y,t2,a1⟩:=R;dsimp only at S G H ⊢;have Z:y.size=c.size:=by rw[<-aaH,S.length_eq,aaH]
    have T:y.size<scanBound:=by rw[Z];exact I
    refine wpAny_bind (N _ (wpAny_bind (wpAny_storeSet_of D rfl ?_ (fits_of_scanBound T))));exact wpAny_pure ⟨rfl,h true _ (U.trans (Heap.SameBut.update _ a _)) ⟨y,_,t2,jO D,v.perm S,(S.map unI).trans x,T,G,H⟩⟩
   ·exact wpAny_pure ⟨rfl,h true _ U ⟨c,_,l,D,v,x,I,f,r⟩⟩
  refine wpAny_bind (N _ ?_);split
  ·exact wpAny_bind (wpAny_pure (wpAny_mono tail (λo s' q=>by obtain⟨rfl,q⟩:=q;exact wpAny_pure q) λ_ _ e=>e))
  ·exact wpAny_bind (wpAny_pure (wpAny_mono tail (λo s' q=>by obtain⟨rfl,q⟩:=q;exact wpAny_pure q) λ_ _ e=>e))
end
end Np
namespace Np
open PySem PySem.Spec PyProof.Rows
theorem yc(ns:List Int)(m:Int):(ddI ns m).length<=ns.length+1:=by unfold ddI;split<;>simp
theorem lX:∀(l ns:List Int),(l.foldl ddI ns).length<=ns.length+l.length
 |[],ns=>aac _
 |m::l,ns=>by have:=lX l (ddI ns m);have:=yc ns m;simp only[abG,aav];omega
section
variable{P:Program}{w:World}{A:Around}{R:Result->Shared->Prop}{I S:Addr}{fp wr:List Addr}{Pp:Nat->Value->Prop}{St:Nat->Heap->Prop}{B:Bool}{vals:List Int}
theorem set_loop(W:Walks P w A.in1 I fp wr vals.length Pp St)(g:S ∉ fp)(j:∀i v,Pp i v->∃t,v=.int (vals.getD i 0) t)(a:vals.length+1<scanBound):
  ∀(k i:Nat) (s:Shared),vals.length-i=k->i<=vals.length->St i s.heap->SetI P w s.heap S B ((vals.take i).foldl ddI []) ->
   (∀(h':Heap) (H:Nat),(∀b o,b ∉ S::wr->s.heap.get? b=some o->h'.get? b=some o)->SetI P w h' S B (vals.foldl ddI [])->R (.ok (.ret .none)) { s with heap:=h',toks:=H }) ->
   codeAny (model P w) A (.builtin "set.update.loop" ⟨[.ref S,.ref I],[]⟩) R s:=by
 have p:S ∉ wr:=λh=>g (W.sub _ h);intro k;induction k with
 |zero=>
  intro i s N Q f q u;have y:i=vals.length:=by omega
  subst y;refine codeAny_builtin F.entry_set_update_loop ?_;rw[Around.under_plainId F.plain_set_update_loop _];show wpAny _ A.in1 (pyNext (.ref I) >>= _) _ _ s;refine wpAny_bind (W.done s _ _ f λh' H L=>?_);rw[List.take_length]at q;exact wpAny_pure (u h' H (λb o a e=>L b o (λh=>a (aak _ h)) e) (q.at λo e=>L S o p e))
 |succ k T=>
  intro i s N Q f q u;have c:i<vals.length:=by omega
  refine codeAny_builtin F.entry_set_update_loop ?_;rw[Around.under_plainId F.plain_set_update_loop _];show wpAny _ A.in1 (pyNext (.ref I) >>= _) _ _ s;refine wpAny_bind (W.item i s _ _ c f λv O U Y m l=>?_);obtain⟨t,rfl⟩:=j i v Y;have C:SetI P w O S B ((vals.take i).foldl ddI []):=q.at λo e=>l S o p e;show wpAny _ A.in1 (holding [Value.int (vals.getD i 0) t] (setAdd S (.int (vals.getD i 0) t)) >>= _) _ _ _;refine wpAny_bind (wpAny_holding ?_);unfold setAdd;refine wpAny_holding (wpAny_bind ((intKind P w).pyHash (k:=vals.getD i 0) (intKind_is _ _ _ _) ?_));have d:((vals.take i).foldl ddI []).length+1<scanBound:=by have:=lX (vals.take i) [];rw[aa0]at this;simp at this;omega
  refine add_int C d λb J n z=>?_;have X:vals.take (i+1)=vals.take i++[vals.getD i 0]:=by rw[List.take_succ,aa3,aao c];rfl
  have x:SetI P w J S B ((vals.take (i+1)).foldl ddI []):=by rw[X,List.foldl_append];exact z
  refine wpAny_pure ⟨plainId_quiet F.plain_set_update_loop _,T (i+1) _ (by omega) c (W.frame _ _ _ m λb a o e=>?_) x λM G D r=>u M G (λb o a e=>D b o a ?_) r⟩
  ·rw[n.2 b (λh:b=S=>g (by rw[<-h];exact a))];exact e
  ·show J.get? b=some o;rw[n.2 b (λh:b=S=>a (by rw[h];exact aal))];exact l b o (λh=>a (aak _ h)) e
end
section
variable{P:Program}{w:World}{A:Around}{E:Value->Shared->Prop}{s:Shared}
abbrev byT(w:World):Bool:=w.params.followText "set-order"
abbrev stO(w:World):Obj:={ cls:=.type "set",dict:=none,data:=.set #[] 0 (.fresh 0 0 (!byT w)) }
theorem set_new(a:Value){Q₁:Value->Shared->Prop}(h:Q₁ (.ref s.heap.objs.size) { s with heap:=s.heap.push (stO w) }):
  codeAny (model P w) A (.call (.builtin "set.__new__") ⟨[.type "set",a],[]⟩) (wants Q₁ E) s:=by
 refine codeAny_of_tree ?_;show wpAny _ A.in1 (do checkBuiltinCall "set.__new__" ⟨[.type "set",a],[]⟩;again (.builtin "set.__new__" ⟨[.type "set",a],[]⟩)) _ _ s;refine wpAny_bind (wpAny_of_eq (PySem.F.newCall_set_1 a) (wpAny_pure ⟨plainId_quiet ack _,codeAny_builtin PySem.F.entry_set_new ?_⟩));rw[Around.under_plainId ack _];unfold Builtin.«set.__new__» Builtin.Frozenset.newClass;have b:=sub_set_self;obtain⟨c,g,d,e,f⟩:=s;dsimp only
 wp_walk
 refine wpAny_askSetting (wpAny_pure ?_);dsimp only;simp only[newObj];refine wpAny_bind (wpAny_alloc (wpAny_pure ?_));exact wpAny_pure h
end
end Np
namespace PySem
open PySem.Spec
section
variable{prog:Program}{w:World}{A:Around}{E:Value->Shared->Prop}{s:Shared}
set_option maxHeartbeats 3200000 in
theorem set_list{l:Addr}{items:Array Value}{ns:List Int}{Q:Value->Shared->Prop}(hh:A.handled=none)(O:s.heap.IsList l items)(hi:PyProof.Rows.IntsAre items.toList ns)(D:ns.length+1<scanBound)
  (h:∀(h':Heap) (G:Nat),Np.SetI prog w h' s.heap.objs.size (Np.byT w) (ns.foldl Np.ddI [])->(∀b o,b<s.heap.objs.size->s.heap.get? b=some o->h'.get? b=some o)->Q (.ref s.heap.objs.size) { s with heap:=h',toks:=G }):
  wpAny (model prog w) A (call (.type "set") [.ref l]) Q E s:=by
 have p:items.size=ns.length:=by rw[<-PyProof.Rows.IntsAre.length hi,aaH]
 obtain⟨c,tl,a0⟩:=F.called_set.mro;have J:=F.called_set.made;have Z:=F.called_set.sub;refine wpAny_call (codeAny_of_tree ?_);show wpAny _ _ (callAny (.type "set") _) _ _ _;refine wpAny_pure ⟨Code.quiet_builtin _ (by decide +kernel),codeAny_builtin F.entry_type_call ?_⟩;rw[Around.under_plain (weight_type_call_type "set" [.ref l] []) rfl];have h1:=F.called_set.notType;have h2:=F.called_set.canCreate;have a2:=F.typeCall_set_1 (.ref l)
 repeat (any_goals (first|assumption|wp_step))
 refine codeAny_mono (Np.set_new (.ref l) (E:=E) (Q₁:=λt g=>t=.ref s.heap.objs.size/\g={ s with heap:=s.heap.push (Np.stO w) }) ⟨rfl,rfl⟩) λr g L=>?_;cases r with
 |error e=>exact L
 |ok fl=>
  cases fl with
  |ret t=>
   obtain⟨rfl,rfl⟩:=L;have X:(s.heap.push (Np.stO w)).get? s.heap.objs.size=some (Np.stO w):=Heap.get?_push_size _ rfl;have hT:Shared.TypeIs { s with heap:=s.heap.push (Np.stO w) } (.ref s.heap.objs.size) "set":=⟨_,X,rfl⟩
   have a4:=F.called_set.init.lookup;have a3:=F.called_set.init.bind (.ref s.heap.objs.size)
   repeat (any_goals (first|assumption|wp_step))
   refine codeAny_mono (codeAny_call_builtin (R:=wants (λr j=>r=.none/\∃h' G,j={ s with heap:=h',toks:=G }/\Np.SetI prog w h' s.heap.objs.size (Np.byT w) (ns.foldl Np.ddI [])/\(∀b o,b<s.heap.objs.size->s.heap.get? b=some o->h'.get? b=some o)) E) F.called_set.init.plain F.entry_set_init (check_set_init_1 hT ?_)) λx j a=>?_
   ·have u:(s.heap.push (Np.stO w)).IsList l items:=O.push _;obtain⟨ol,C,z,d⟩:=id O;obtain⟨nl,d⟩:=d;obtain⟨Y,k,N,f⟩:=ol;simp only at z d;subst z;subst d;have S:(s.heap.push (Np.stO w)).get? l=some { cls:=.type "list",dict:=k,data:=.seq items nl,slots:=f }:=Heap.get?_push_of_some _ C;have U:=F.sub_list_set;have T:=F.sub_list_frozenset;have a1:(Value.type "list" == Value.type "dict")=false:=by decide
    unfold Builtin.«set.__init__» noKeywords Builtin.Frozenset.updateFrom;generalize hPI:pyIter=PI
    wp_walk
    subst hPI;refine wpAny_pyIter_list u ?_;refine wpAny_bind (wpAny_runValue ?_);have y:l<s.heap.objs.size:=Heap.lt_size C;have q:l≠(s.heap.push (Np.stO w)).objs.size:=by rw[Heap.size_push];exact aai (aaW y)
    have H:s.heap.objs.size ∉ [(s.heap.push (Np.stO w)).objs.size,l]:=by rw[Heap.size_push];simp only[aaa,aas,aau,or_false,not_or];exact⟨aai (aaP _),aaI y⟩
    have W:=Walks.list (prog:=prog) (w:=w) (by simp[hh]:A.in1.in1.in1.handled=none) _ l q items;rw[p]at W;refine Np.set_loop (B:=Np.byT w) W H (λi v hv=>PyProof.Rows.IntsAre.int_at hi i v (by rw[aaR];exact hv)) D (ns.length-0) 0 _ (by omega) (aaE _) ⟨⟨_,Heap.get?_push_size _ rfl,rfl,rfl⟩,(u.push _)⟩ ?hS0 ?hR
    case hS0=>exact⟨#[],0,_,Heap.get?_push_of_some _ X,λe he=>by simp at he,.nil,by decide,rfl,Np.Tab.fresh⟩
    case hR=>intro h' I hm n;show wpAny _ _ _ _ _ _;refine wpAny_pure ?_;show wpAny _ _ (ret Value.none) _ _ _;refine wpAny_pure ⟨rfl,h',I,rfl,n,λb o D e=>hm b o ?_ (Heap.get?_push_of_some _ (Heap.get?_push_of_some _ e))⟩;simp only[aaa,aas,aau,or_false,not_or];exact⟨aai D,by rw[Heap.size_push];exact aai (aaW D)⟩
   ·cases x with
    |error e=>exact a
    |ok m=>
     cases m with
     |ret r=>
      obtain⟨rfl,h',G,rfl,n,M⟩:=a
      repeat (any_goals (first|assumption|wp_step))
      exact h _ _ n M
     |_=>exact a.elim
  |_=>exact L.elim
end
end PySem
namespace Np
open PySem PySem.Spec PyProof.Rows
theorem lY{a:Type}{l:List a}{i:Nat}(h:i<l.length):(l[i]::l.eraseIdx i).Perm l:=by rw[List.eraseIdx_eq_take_drop_succ];refine aap.symm.trans ?_;rw[<-abw h,acg]
theorem lZ{b:Type}(f:Nat->Nat):∀(n k:Nat) (l:List b) (o:Array b),l.length=n->(pickOrder.go f n k l o).toList.Perm (o.toList++l)
 |0,k,l,o,h=>by rw[acl.mp h,aaA];exact .rfl
 |n+1,k,l,o,h=>by have a:f k%l.length<l.length:=Nat.mod_lt _ (by omega);unfold pickOrder.go;rw[aao a];refine(lZ f n _ _ _ (by rw[acm a];omega)).trans ?_;rw[Array.toList_push,aaf];exact(lY a).append_left _
theorem ox{a:Type}(f:Nat->Nat)(xs:Array a):(pickOrder f xs).toList.Perm xs.toList:=lZ f _ 0 _ #[] (by simp)
section
variable{M:Model}{P:Program}{w:World}{A:Around}{E:Value->Shared->Prop}{s:Shared}
theorem kS{a:Source}{n:Nat}{Q:Nat->Shared->Prop}(b:n≠0)(h:∀i d,i<n->Q i { s with drawn:=d }):wpAny M A (choose a n) Q E s:=
 λ_ _ _=>⟨b,h _ _ (Nat.mod_lt _ (Nat.pos_of_ne_zero b))⟩
theorem gh{c:Type}:∀(n:Nat) (l:List c) (s:Shared) (Q:List c->Shared->Prop),l.length=n->(∀a d,a.Perm l->Q a { s with drawn:=d })->wpAny M A (drawOrder n l) Q E s
 |0,l,s,Q,h,q=>by have:=q [] s.drawn (by rw[acl.mp h]);exact wpAny_pure this
 |n+1,[],s,Q,h,q=>by cases h
 |n+1,x::l,s,Q,h,q=>by show wpAny _ _ (choose .order (x::l).length >>= _) _ _ _;refine wpAny_bind (kS (by simp) λi d b=>?_);rw[aao b];show wpAny _ _ (drawOrder n ((x::l).eraseIdx i) >>= _) _ _ _;refine wpAny_bind (gh n _ _ _ (by rw[acm b];omega) λa f e=>wpAny_pure (q _ f ?_));exact(List.Perm.cons _ e).trans (lY b)
theorem slot_seti_next:Slot "set_iterator" "__next__" "set_iterator.__next__" :=
 .of (owner:="set_iterator") (n:="__next__") (by rw[typeLookup_type,builtinLookup_eq_fast];kernel_rfl) (by decide +kernel) (by decide +kernel) (by decide +kernel)
  (by first|exact .inl (by decide +kernel)|exact .inr (by decide +kernel)) (by rw[isSubtype_type];kernel_rfl)
theorem ck:entryFor table "set_iterator.__next__"=some Builtin.«set_iterator.__next__»:=entryFor_of_tree (by kernel_rfl)
theorem cH(a:Value):argsOk "set_iterator.__next__" ⟨[a],[]⟩:=by unfold argsOk;kernel_rfl
theorem gi:entryFor table "set.__iter__"=some Builtin.«frozenset.__iter__»:=entryFor_alias (id':="frozenset.__iter__") (by kernel_rfl) rfl (by decide +kernel) (by kernel_rfl)
end
end Np
namespace Np
open PySem PySem.Spec PyProof.Rows
def vC(f:Value)(i:Nat)(a:Addr)(n ep:Nat):Obj:={ cls:=.type "set_iterator",data:=.fields #[f,.int i 0,.ref a,.int n 0,.int ep 0] }
def slotAt(pl:List Nat):Nat->Nat
 |0=>0
 |i+1=>pl.getD i 0+1
theorem kT{xs:Array Nat}(n:xs.toList.Pairwise (·<·)):∀{i:Nat},i<=xs.size->SetTable.below xs (slotAt xs.toList i)=i:=λ{i} hi=>by
 obtain⟨o,s,B⟩:=gg (j:=slotAt xs.toList i) n;rw[aaH]at o;have p:∀(a b x y:Nat),a<b->xs.toList[a]?=some x->xs.toList[b]?=some y->x<y:=λa b x y g z A=>by obtain⟨r,w⟩:=aah.mp z;obtain⟨C,q⟩:=aah.mp A;rw[<-w,<-q];exact abS.mp n a b r C g
 have f:∀k,k<xs.size->∃x,xs.toList[k]?=some x:=λk u=>⟨xs.toList[k]'(by simpa using u),aao _⟩
 rcases Nat.lt_trichotomy (SetTable.below xs (slotAt xs.toList i)) i with h|h|h
 ·obtain⟨x,c⟩:=f _ (aar h hi);have t:=B _ x c (aac _);cases i with
  |zero=>exact absurd h (abT _)
  |succ i=>
   obtain⟨y,d⟩:=f i (by omega);have e:slotAt xs.toList (i+1)=y+1:=by show xs.toList.getD i 0+1=_;rw[aa3,d];rfl
   rw[e]at t c h;rcases abk (SetTable.below xs (y+1)) i with l|l
   ·have:=p _ _ _ _ l c d;omega
   ·have v:SetTable.below xs (y+1)=i:=by omega
    rw[v,d]at c;cases c;omega
 ·exact h
 ·obtain⟨x,c⟩:=f i (aar h o);have m:=s i x c h;cases i with
  |zero=>exact absurd m (abT _)
  |succ i=>
   obtain⟨y,d⟩:=f i (by omega);have e:slotAt xs.toList (i+1)=y+1:=by show xs.toList.getD i 0+1=_;rw[aa3,d];rfl
   rw[e]at m;have:=p i (i+1) y x (aaP _) d c;omega
inductive MdI (w:World)(a:Addr)(es:Array (Int×Value))(ep:Nat)(t:SetTable)(L:List (Int×Value))(tp:Addr)(h:Heap)(i:Nat):Value->Prop
 |txt:byT w=true->L=(pickOrder (w.params.setOrder a ep) es).toList->MdI w a es ep t L tp h i (.int 0 0)
 |pla:byT w=false->(!t.plain&&decide (es.size>1))=false->t.led=true->t.place.toList.Pairwise (·<·)->t.place.size=es.size->L=es.toList->MdI w a es ep t L tp h i (.int (slotAt t.place.toList i) 0)
 |drw (ix:List Nat):h.get? tp=some { cls:=.type "tuple",data:=.seq (ix.map λ(j:Nat)=>rawInt j).toArray }->L.length=ix.length->(∀k j:Nat,ix[k]?=some j->∃e,es[j]?=some e/\L[k]?=some e)->MdI w a es ep t L tp h i (.ref tp)
section
variable{P:Program}{w:World}{A:Around}{E:Value->Shared->Prop}{s:Shared}{it a tp:Addr}{es:Array (Int×Value)}{ep i:Nat}{t:SetTable}{L:List (Int×Value)}{f:Value}
theorem MdI.keep{h h':Heap}(m:MdI w a es ep t L tp h i f)(k:∀o,h.get? tp=some o->h'.get? tp=some o):MdI w a es ep t L tp h' i f:=by
 cases m with
 |txt a b=>exact .txt a b
 |pla a b c d e f=>exact .pla a b c d e f
 |drw g a b c=>exact .drw g (k _ a) b c
theorem set_at{b:Value}{h:Heap}(c:h.get? it=some (vC f i a es.size ep)):((h.update it (Obj.mapFields (·.setIfInBounds 0 b))).update it (Obj.mapFields (·.setIfInBounds 1 (rawInt ((i:Int)+1))))).get? it=some (vC b (i+1) a es.size ep):=by have e:=Heap.get?_update_self (Obj.mapFields (·.setIfInBounds 0 b)) c rfl;have d:=Heap.get?_update_self (Obj.mapFields (·.setIfInBounds 1 (rawInt ((i:Int)+1)))) e rfl;exact d
theorem jP{n d:Nat}{Q:Option (Value×Nat)->Shared->Prop}(j:s.heap.get? a=some (gS es ep t))(c:t.fits es.size=true)(g:byT w=true)
  (h:Q ((pickOrder (w.params.setOrder a ep) es)[n]?.map λe=>(e.2,d)) s):wpAny (model P w) A (setNext a d n ep) Q E s:=by
 unfold setNext setsByText;refine wpAny_bind (wpAny_setState_of j rfl c ?_);dsimp only;refine wpAny_bind (wpAny_bind (wpAny_askSetting (wpAny_pure ?_)));refine wpAny_ite_split (λ_=>?_) λb=>absurd g b;rw[if_neg (by simp)];unfold setWalk setsByText;refine wpAny_bind (wpAny_bind (wpAny_setState_of j rfl c ?_));dsimp only;refine wpAny_bind (wpAny_bind (wpAny_askSetting (wpAny_pure ?_)));refine wpAny_ite_split (λ_=>?_) λb=>absurd g b;exact wpAny_bind (wpAny_askSetting (wpAny_pure (wpAny_pure h)))
theorem jQ{n:Nat}{Q:Option (Value×Nat)->Shared->Prop}(q:s.heap.get? a=some (gS es ep t))(k:t.fits es.size=true)(o:byT w=false)
  (p:(!t.plain&&decide (es.size>1))=false) (l:t.led=true) (r:t.place.toList.Pairwise (·<·)) (hz:t.place.size=es.size) (m:n<=es.size)
  (h:Q (es[n]?.map λe=>(e.2,slotAt t.place.toList (n+1))) s):wpAny (model P w) A (setNext a (slotAt t.place.toList n) i ep) Q E s:=by
 unfold setNext setsByText;refine wpAny_bind (wpAny_setState_of q rfl k ?_);dsimp only;refine wpAny_bind (wpAny_bind (wpAny_askSetting (wpAny_pure ?_)));refine wpAny_ite_split (λb=>absurd (o.symm.trans b) aab) λ_=>?_;refine wpAny_ite_split (λb=>absurd (p.symm.trans b) aab) λ_=>?_;refine wpAny_bind ?_;show wpAny _ _ (if (!t.led&&!es.isEmpty)=true then unsupported _ else pure ()) _ _ _;rw[l,if_neg (by simp)];refine wpAny_pure ?_;rw[kT r (by rw[hz];exact m)];refine wpAny_pure ?_;rcases abk n es.size with c|g
 ·have d:es[n]?=some es[n]:=abd c;have j:t.place[n]?=some (t.place[n]'(by rw[hz];exact c)):=abd _;have u:slotAt t.place.toList (n+1)=t.place[n]'(by rw[hz];exact c)+1:=by show t.place.toList.getD n 0+1=_;rw[aa3,aaR,j];rfl
  rw[d]at h ⊢;rw[j];rw[u]at h;exact h
 ·have d:es[n]?=none:=abJ g;rw[d]at h ⊢;exact h
theorem oy{e:Int×Value}{Q:Option Value->Shared->Prop}(D:it≠tp)(b:s.heap.get? it=some (vC f i a es.size ep))(n:s.heap.get? a=some (gS es ep t))(k:t.fits es.size=true)(G:MdI w a es ep t L tp s.heap i f)(c:L[i]?=some e)
  (p:∀q h',h'.get? it=some (vC q (i+1) a es.size ep)->Heap.SameBut it s.heap h'->MdI w a es ep t L tp h' (i+1) q->Q (some e.2) { s with heap:=h' }):wpAny (model P w) A (pyNext (.ref it)) Q E s:=by
 have B:s.TypeIs (.ref it) "set_iterator":=⟨_,b,rfl⟩
 unfold pyNext;refine wpAny_bind (wpAny_attempt (wpAny_callSpecial?_slot (name:=Str.ofString "__next__") B slot_seti_next (wpAny_call_entry slot_seti_next B ck ?_ (cH _))));unfold Builtin.«set_iterator.__next__»;refine wpAny_bind (m:=slotArgs "__next__" 0 _) (wpAny_pure ?_);refine wpAny_bind (wpAny_fieldsOf b rfl ?_);dsimp only;refine wpAny_bind (wpAny_setEntries_of n rfl k ?_);rw[if_neg (by simp)];cases G with
 |txt g o=>subst o;rw[aaR]at c;refine wpAny_bind (jP (ep:=ep) n k g ?_);rw[aaX i,c];refine wpAny_bind (wpAny_setField b rfl (by simp) (wpAny_bind (wpAny_setField (Heap.get?_update_self _ b rfl) rfl (by simp) ?_)));exact wpAny_pure ⟨_,rfl,wpAny_pure (p _ _ (set_at b) ((Heap.SameBut.update ..).trans (Heap.SameBut.update ..)) (.txt g rfl))⟩
 |pla g y d z u o=>
  subst o;have l:i<es.size:=by have:=(aah.mp c).1;rwa [aaH]at this
  rw[aaR]at c;refine wpAny_bind (jQ n k g y d z u (aaO l) ?_);rw[c];refine wpAny_bind (wpAny_setField b rfl (by simp) (wpAny_bind (wpAny_setField (Heap.get?_update_self _ b rfl) rfl (by simp) ?_)));exact wpAny_pure ⟨_,rfl,wpAny_pure (p _ _ (set_at b) ((Heap.SameBut.update ..).trans (Heap.SameBut.update ..)) (.pla g y d z u rfl))⟩
 |drw v r d l=>
  obtain⟨j,x⟩:∃j,v[i]?=some j:=⟨_,aao (by rw[<-d];exact(aah.mp c).1)⟩
  obtain⟨I,H,h⟩:=l i j x;rw[c]at h;cases h;refine wpAny_bind (wpAny_seqItems r rfl ?_);dsimp only;rw[aaX i,acn,aaq,x];dsimp only[Option.map,rawInt];refine wpAny_bind ?_;unfold setNextDrawn;refine wpAny_bind (wpAny_setState_of n rfl k ?_);dsimp only;rw[if_neg (by simp),aaX j,H];refine wpAny_pure (wpAny_bind (wpAny_setField b rfl (by simp) ?_));have C:=Heap.SameBut.update s.heap it (Obj.mapFields (·.setIfInBounds 1 (rawInt ((i:Int)+1))));exact wpAny_pure ⟨_,rfl,wpAny_pure (p _ _ (Heap.get?_update_self _ b rfl) C (.drw v ((C.2 _ (aaz D)).trans r) d l))⟩
theorem qx{Q:Option Value->Shared->Prop}(H:A.handled=none)(c:s.heap.get? it=some (vC f i a es.size ep))(y:s.heap.get? a=some (gS es ep t))(n:t.fits es.size=true)(O:MdI w a es ep t L tp s.heap i f)(u:L.length=es.size)(hi:i=es.size)
  (z:∀h',Heap.ExtBut it s.heap h'->Q none { s with heap:=h' }):wpAny (model P w) A (pyNext (.ref it)) Q E s:=by
 have B:s.TypeIs (.ref it) "set_iterator":=⟨_,c,rfl⟩
 have d:∀(g:Shared),(∀h',Heap.ExtBut it g.heap h'->Q none { g with heap:=h' })->wpAny (model P w) A.in1 (newExc (.type "StopIteration") [] >>= λe=>raiseNew e) (λq g=>∃v,q=Fin.done (Flow.ret v)/\wpAny (model P w) A (pure (some v)) Q E g)
   (λe g=>wpAny (model P w) A (isInstance e (.type "StopIteration") >>= λb=>if b=true then pure none else throw e) Q E g) g:=λg S=>by
  refine wpAny_bind ?_;simp only[newExc,newTuple];refine wpAny_bind (wpAny_newObj_type ?_ (by size_fits));refine wpAny_bind (m:=firstArgMember _ _) (wpAny_of_eq (a:=Value.none) (by first|rfl|(simp only[firstArgMember];rfl)) ?_);refine wpAny_newObj_type ?_ (by size_fits);simp only[raiseNew];refine wpAny_bind (wpAny_handled ?_);rw[show A.in1.handled=none from H];refine wpAny_bind (wpAny_pure (wpAny_throw ?_));refine wpAny_bind (wpAny_isInstance (T:="StopIteration") (b:=true) ⟨_,Heap.get?_push_size _ rfl,rfl⟩ isSubtype_stop ?_);exact wpAny_pure (S _ (((Heap.SameBut.refl it g.heap).extBut.push _).push _))
 have p:∀{J:Type} (l:List J),l.length=es.size->l[i]?=none:=λl k=>abx (by rw[k,hi];exact aac _);unfold pyNext;refine wpAny_bind (wpAny_attempt (wpAny_callSpecial?_slot (name:=Str.ofString "__next__") B slot_seti_next (wpAny_call_entry slot_seti_next B ck ?_ (cH _))));unfold Builtin.«set_iterator.__next__»;refine wpAny_bind (m:=slotArgs "__next__" 0 _) (wpAny_pure ?_);refine wpAny_bind (wpAny_fieldsOf c rfl ?_);dsimp only;refine wpAny_bind (wpAny_setEntries_of y rfl n ?_);rw[if_neg (by simp)];cases O with
 |txt r j=>have e:=p _ u;rw[j,aaR]at e;refine wpAny_bind (jP (ep:=ep) y n r ?_);rw[aaX i,e];exact wpAny_bind (wpAny_setField c rfl (by simp) (d _ λh' x=>z h' λb o h e=>x b o h (((Heap.SameBut.update ..).extBut) b o h e)))
 |pla r M k N G j=>have e:=p _ u;rw[j,aaR]at e;refine wpAny_bind (jQ y n r M k N G (abp hi) ?_);rw[e];exact wpAny_bind (wpAny_setField c rfl (by simp) (d _ λh' x=>z h' λb o h e=>x b o h (((Heap.SameBut.update ..).extBut) b o h e)))
 |drw I D k C=>have e:=p I (k.symm.trans u);refine wpAny_bind (wpAny_seqItems D rfl ?_);dsimp only;rw[aaX i,acn,aaq,e];refine wpAny_bind (wpAny_setField c rfl (by simp) (wpAny_bind (wpAny_setField (Heap.get?_update_self _ c rfl) rfl (by simp) ?_)));exact d _ λh' x=>z h' λb o h e=>x b o h ((((Heap.SameBut.update ..).trans (Heap.SameBut.update ..)).extBut) b o h e)
end
end Np
namespace Np
open PySem PySem.Spec PyProof.Rows
theorem cI:Slot "set_iterator" "__iter__" "set_iterator.__iter__" :=
 .of (owner:="set_iterator") (n:="__iter__") (by rw[typeLookup_type,builtinLookup_eq_fast];kernel_rfl) (by decide +kernel) (by decide +kernel) (by decide +kernel)
  (by first|exact .inl (by decide +kernel)|exact .inr (by decide +kernel)) (by rw[isSubtype_type];kernel_rfl)
theorem fD:entryFor table "set_iterator.__iter__"=some Builtin.«dict_keyiterator.__iter__»:=entryFor_alias (id':="dict_keyiterator.__iter__") (by kernel_rfl) rfl (by decide +kernel) (by kernel_rfl)
theorem gj(a:Value):argsOk "set_iterator.__iter__" ⟨[a],[]⟩:=by unfold argsOk;kernel_rfl
theorem qy(es:Array (Int×Value)):(List.range es.size).map (λj=>es.getD j (0,.none))=es.toList:=by
 refine List.ext_getElem (by simp) λi c a=>?_;have b:i<es.size:=by simpa using a
 simp[Array.getD,b]
section
variable{P:Program}{w:World}{A:Around}{E:Value->Shared->Prop}{s:Shared}{a:Addr}{es:Array (Int×Value)}{ep:Nat}{t:SetTable}
theorem qz{Q:Value->Shared->Prop}(n:s.heap.get? a=some (gS es ep t))(l:t.fits es.size=true)(B:Tab (byT w) t)(hz:es.size<=sizeLine)
  (C:∀(h':Heap) (d:Drawn) (I tp:Addr) (L:List (Int×Value)) (f:Value),L.Perm es.toList->I≠a->I≠tp->s.heap.objs.size<=I->(tp=a\/s.heap.objs.size<=tp)->h'.get? I=some (vC f 0 a es.size ep)->MdI w a es ep t L tp h' 0 f->(∀b o,s.heap.get? b=some o->h'.get? b=some o)->Q (.ref I) { s with heap:=h',drawn:=d }):
  wpAny (model P w) A (pyIter (.ref a)) Q E s:=by
 have q:s.TypeIs (.ref a) "set":=⟨_,n,rfl⟩
 have g:a<s.heap.objs.size:=Heap.lt_size n;have y:t.place.size=es.size:=by simp only[SetTable.fits,aax,beq_iff_eq]at l;exact l.1
 refine wpAny_pyIter_slot q aco (wpAny_call_entry aco q gi ?_ (PySem.F.args_set_iter_1 _));unfold Builtin.«frozenset.__iter__» Builtin.Frozenset.slot0;refine wpAny_bind (wpAny_bind (m:=slotArgs "__iter__" 0 _) (wpAny_pure ?_));refine wpAny_pure ?_;refine wpAny_bind (wpAny_bind (wpAny_setEntries_of n rfl l (wpAny_pure ?_)));refine wpAny_bind ?_;unfold setDrawn setsByText;refine wpAny_bind (wpAny_setState_of n rfl l ?_);dsimp only;refine wpAny_bind (wpAny_bind (wpAny_askSetting (wpAny_pure (wpAny_pure ?_))));refine wpAny_ite_split (λh=>?_) λh=>?_
 ·have c:(!byT w&&(!t.plain&&decide (es.size>1)))=true:=h;refine wpAny_bind (gh _ _ _ _ (abV) λv d x=>?_);have D:v.length=es.size:=by rw[x.length_eq,abV]
  refine wpAny_bind (wpAny_newObj_type ?_ (by show (v.map _).toArray.size<=sizeLine;rw[aam,aag,D];exact hz));refine wpAny_bind (wpAny_setEpoch_of (Heap.get?_push_of_some _ n) rfl l ?_);refine wpAny_bind (wpAny_newObj_type (wpAny_pure ⟨_,rfl,"set_iterator",_,⟨_,Heap.get?_push_size _ rfl,rfl⟩,slot_seti_next.lookup,?_⟩));refine C _ d _ s.heap.objs.size (v.map λj=>es.getD j (0,.none)) (.ref s.heap.objs.size) ?_ ?_ ?_ ?_ (.inr (aac _)) (Heap.get?_push_size _ rfl) (.drw v (Heap.get?_push_of_some _ (Heap.get?_push_size _ rfl)) (by rw[aag]) λk j z=>?_) λb o e=>Heap.get?_push_of_some _ (Heap.get?_push_of_some _ e)
  ·rw[<-qy es];exact x.map _
  ·rw[Heap.size_push];exact aaI (aaW g)
  ·rw[Heap.size_push];exact aaI (aaP _)
  ·rw[Heap.size_push];exact abi _
  ·have r:j<es.size:=List.mem_range.mp (x.mem_iff.mp (aaT z));refine⟨es[j],abd r,?_⟩;rw[aaq,z];simp[Array.getD,r]
 ·refine wpAny_bind (wpAny_pure ?_);refine wpAny_bind (wpAny_setEpoch_of n rfl l ?_);refine wpAny_bind (wpAny_newObj_type (wpAny_pure ⟨_,rfl,"set_iterator",_,⟨_,Heap.get?_push_size _ rfl,rfl⟩,slot_seti_next.lookup,?_⟩));have p:=λL m=>C (s.heap.push (vC (.int 0 0) 0 a es.size ep)) s.drawn s.heap.objs.size a L (.int 0 0) m (aaI g) (aaI g) (aac _) (.inl rfl) (Heap.get?_push_size _ rfl);cases u:byT w with
  |true=>exact p _ (ox _ _) (.txt u rfl) λb o e=>Heap.get?_push_of_some _ e
  |false=>have c:¬ (!byT w&&(!t.plain&&decide (es.size>1)))=true:=h;rw[u]at c;have G:(!t.plain&&decide (es.size>1))=false:=Bool.not_eq_true _▸c;exact p _ .rfl (.pla (tp:=a) (i:=0) u G (by rw[B.led,u];rfl) B.ris y rfl) λb o e=>Heap.get?_push_of_some _ e
theorem oz{I tp:Addr}{L:List (Int×Value)}(C:A.handled=none)(B:I≠a)(z:I≠tp)(q:t.fits es.size=true)(x:L.length=es.size):
  Walks P w A I [I,a,tp] [I] es.size (λi v=>∃e,L[i]?=some e/\v=e.2) (λi h=>∃f,h.get? I=some (vC f i a es.size ep)/\h.get? a=some (gS es ep t)/\MdI w a es ep t L tp h i f) where
 sub:=λb k=>by rw[aas.mp k];exact aal
 frame:=λi h m c n=>by obtain⟨f,g,d,j⟩:=c;exact⟨f,n I (by simp) _ g,n a (by simp) _ d,j.keep λo e=>n tp (by simp) o e⟩
 item:=λi s Q E D c l=>by obtain⟨f,g,d,j⟩:=c;have r:L[i]?=some (L[i]'(by rw[x];exact D)):=aao _;refine oy z g d q j r λy m G u J=>?_;exact l _ m s.toks ⟨_,r,rfl⟩ ⟨y,G,(u.2 a (aaz B)).trans d,J⟩ λb o k e=>(u.2 b (λh=>k (by rw[h];exact aas.mpr rfl))).trans e
 done:=λs Q E c l=>by obtain⟨f,g,d,j⟩:=c;exact qx C g d q j x rfl λm H=>l m s.toks λb o k e=>H b o (λh=>k (by rw[h];exact aas.mpr rfl)) e
 self:=λi s Q E c l=>by
  obtain⟨f,g,d,j⟩:=c;have p:s.TypeIs (.ref I) "set_iterator":=⟨_,g,rfl⟩
  refine wpAny_pyIter_slot p cI (wpAny_call_entry cI p fD ?_ (gj _));show wpAny _ _ (ret (.ref I)) _ _ s;exact wpAny_pure ⟨_,rfl,"set_iterator",_,p,slot_seti_next.lookup,l⟩
theorem qA{Q:Bool->Shared->Prop} (d:s.TypeIs (.ref a) "set") (h:Q false s):wpAny (model P w) A (Builtin.List.listLengthHint (.ref a)) Q E s:=by
 unfold Builtin.List.listLengthHint;refine wpAny_bind (wpAny_specialOf d PySem.F.slot_set_len.lookup ?_);generalize hid:("set.__len__":String)=id0
 wp_delta
 rw[show splitId id0=some ("set","__len__") from by subst hid;decide +kernel];subst hid;refine wpAny_bind (wpAny_isInstance (T:="set") (b:=true) d sub_set_self ?_);refine wpAny_ite_split (λc=>absurd c (by decide)) (λ_=>?_);refine wpAny_ite_split (λ_=>?_) (λc=>absurd (by decide +kernel) c);refine wpAny_bind (wpAny_typeOf d ?_);exact wpAny_pure h
end
end Np
namespace Np
open PySem PySem.Spec PyProof.Rows PySem.W
theorem ints_map{L:List (Int×Value)}:(∀e∈L,∃t,e.2=.int (unI e) t)->IntsAre (L.map (·.2)) (L.map unI):=by
 induction L with
 |nil=>intro _;exact .nil
 |cons e L c=>intro h;obtain⟨t,b⟩:=h e aal;rw[aan,aan,b];exact .cons _ t (c λe a=>h e (aak _ a))
section
variable{P:Program}{w:World}{A:Around}{E:Value->Shared->Prop}{s:Shared}{a:Addr}{ns:List Int}
theorem set_collect{R:List Value->Shared->Prop}(hh:A.handled=none)(hs:SetI P w s.heap a (byT w) ns)
  (h:∀(h':Heap) (p:Nat) (d:Drawn) (vs:List Value) (i:List Int),(∀b o,s.heap.get? b=some o->h'.get? b=some o)->IntsAre vs i->i.Perm ns->R vs { s with heap:=h',toks:=p,drawn:=d }):
  wpAny (model P w) A (collect (.ref a)) R E s:=by
 obtain⟨Y,ep,t,ho,a1,a0,hb,hf,hT⟩:=hs;have hz:Y.size<=sizeLine:=fits_of_scanBound hb;have v:=Heap.lt_size ho;unfold collect;refine wpAny_bind (wpAny_runValue (codeAny_builtin entry_proto_collect' ?_));rw[Around.under_plainId PySem.F.plain_proto_collect _];show wpAny _ A.in1 (newList [] >>= λl=>again (.builtin "list.__iadd__" ⟨[l,.ref a],[]⟩)) _ _ s;refine wpAny_bind (wpAny_newObj_type ?_);refine wpAny_pure ⟨plainId_quiet acp _,codeAny_builtin entry_list_iadd' ?_⟩;rw[Around.under_plainId acp _];show wpAny _ A.in1 (Builtin.List.listExtendWith (.ref s.heap.objs.size) (.ref a) (.ref s.heap.objs.size)) _ _ _;have hS:(s.heap.push { cls:=.type "list",data:=.seq ([]:List Value).toArray }).get? s.heap.objs.size=some { cls:=.type "list",data:=.seq #[] }:=Heap.get?_push_size _ rfl;have B:(s.heap.push { cls:=.type "list",data:=.seq ([]:List Value).toArray }).get? a=some (gS Y ep t):=Heap.get?_push_of_some _ ho;unfold Builtin.List.listExtendWith;refine wpAny_bind (wpAny_typeOf (T:="set") ⟨_,B,rfl⟩ ?_);have n1:Builtin.List.listSameRef (.ref s.heap.objs.size) (.ref a)=false:=by simp[Builtin.List.listSameRef,aaI v]
 have n2:(Value.type "set" == Value.type "list")=false:=by decide
 have n3:(Value.type "set" == Value.type "tuple")=false:=by decide
 simp only[n1,n2,n3,abE,Bool.false_eq_true,if_false];refine wpAny_bind (qz B hf hT hz λX d I tp L f hp i1 i2 i3 i4 hI hM hk=>?_);have hL:L.length=Y.size:=by rw[hp.length_eq,aaH]
 have z:=hk _ _ hS;have J:=hk _ _ B;have M:s.heap.objs.size≠I:=aai (by rw[Heap.size_push]at i3;exact i3);have W:=oz (P:=P) (w:=w) (A:=A.in1) (ep:=ep) hh i1 i2 hf hL;have C:s.heap.objs.size≠tp:=by
  rcases i4 with e|e
  ·rw[e];exact aaI v
  ·rw[Heap.size_push]at e;exact aai e
 have a2:s.heap.objs.size ∉ [I,a,tp]:=by simp only[aaa,aau,or_false,not_or];exact⟨M,aaI v,C⟩
 have G:∀b o,s.heap.get? b=some o->X.get? b=some o:=λb o e=>hk b o (Heap.get?_push_of_some _ e);have D:∀(Z:Heap) (c:Nat) (R':Result->Shared->Prop),(∀b,b≠s.heap.objs.size->∀o,X.get? b=some o->Z.get? b=some o)->Z.get? s.heap.objs.size=some { cls:=.type "list",data:=.seq #[] c } ->
   (∀(h':Heap) (p q:Nat) (g:Array Value) (i:List Int),(∀b o,s.heap.get? b=some o->h'.get? b=some o)->h'.get? s.heap.objs.size=some { cls:=.type "list",dict:=none,data:=.seq g q,slots:=#[] }->IntsAre g.toList i->i.Perm ns->R' (.ok (.ret (.ref s.heap.objs.size))) { s with heap:=h',toks:=p,drawn:=d }) ->
   codeAny (model P w) A (.builtin "list.extend.loop" ⟨[.ref s.heap.objs.size,.ref I,.ref s.heap.objs.size],[]⟩) R' { s with heap:=Z,drawn:=d }:=λZ c R' u r hR=>by
  refine codeAny_extend_loopS W.toS hz s.heap.objs.size a2 (.ref s.heap.objs.size) Y.size 0 _ #[] c rfl (aaE _) ⟨f,u _ (aaz M) _ hI,u _ (aai v) _ J,hM.keep λo e=>u _ (aaz C) o e⟩ r (ItemsOf.nil _) λs' m q hm a3 x=>?_;rw[Moved.eq_with hm];have ea:m.toList=L.map (·.2):=abQ λj=>by
   rw[aaR,aaq];rcases abk j m.size with U|U
   ·obtain⟨e,e1,e2⟩:=x.2 j m[j] (abd U);rw[abd U,e1,e2];rfl
   ·rw[abJ U,abx (by rw[hL,<-x.1];exact U)];rfl
  refine hR s'.heap s'.toks q m (L.map unI) (λb o e=>hm.heap b o (λn=>?_) (u b (aai (Heap.lt_size e)) o (G b o e))) a3 ?_ ((hp.map unI).trans a0)
  ·have hl:=Heap.lt_size e;rcases aaa.mp n with e'|n
   ·exact aaM _ (e'▸hl)
   ·rw[aas.mp n]at hl;rw[Heap.size_push]at i3;exact aaM _ (aba hl i3)
  ·rw[ea];refine ints_map λe he=>?_;obtain⟨⟨k,N,_⟩,_⟩:=a1 e (hp.mem_iff.mp he);obtain⟨tt,e1⟩:=Value.isInt_shape N;rw[kR N];exact⟨tt,e1⟩
 refine wpAny_bind (wpAny_holding (qA (s:={ s with heap:=X,drawn:=d }) ⟨_,J,rfl⟩ ?_));have y:∀(h':Heap) (p q:Nat) (g:Array Value) (i:List Int),(∀b o,s.heap.get? b=some o->h'.get? b=some o)->h'.get? s.heap.objs.size=some { cls:=.type "list",dict:=none,data:=.seq g q,slots:=#[] }->IntsAre g.toList i->i.Perm ns->wpAny (model P w) A (load s.heap.objs.size >>= λo=>match o.data with|.seq xs _=>pure xs.toList|_=>unsupported "internal:collect") R E { s with heap:=h',toks:=p,drawn:=d }:=λh' p q g i S H O Q=>
  wpAny_bind (wpAny_load H (wpAny_pure (h h' p d _ i S O Q)))
 refine wpAny_ite_split (λ_=>?_) (λ_=>wpAny_pure ⟨plainId_quiet acq _,D X 0 _ (λ_ _ _ e=>e) z λh' p q g i S H O Q=>y h' p q g i S H O Q⟩);refine wpAny_bind (wpAny_rule ?_);refine wpAny_bind ?_;show wpAny _ _ (updateSeq s.heap.objs.size (·.push .none) >>= λ_=>updateSeq s.heap.objs.size (·.pop)) _ _ _;refine wpAny_bind (wpAny_updateSeq z rfl ?_);have r:=Heap.get?_update_self (Obj.mapSeq (·.push Value.none)) z rfl;refine wpAny_updateSeq (hz:=by seq_fits) r rfl ?_;have a4:=Heap.get?_update_self (Obj.mapSeq (·.pop)) r rfl;exact wpAny_pure ⟨plainId_quiet acq _,D _ _ _ (λb hb o e=>(Heap.get?_update_other _ _ (aaz hb)).trans ((Heap.get?_update_other _ _ (aaz hb)).trans e)) a4 λh' p q g i S H O Q=>y h' p q g i S H O Q⟩
end
end Np
namespace L2
open PySem PySem.Spec PyProof.Rows
section
inductive Bo where|add|sub|mul|fdiv|mod|pow
inductive Co where|lt|le|gt|ge|eq|ne|inn|nin
inductive Bl where|len|abs|max|min|int|all
inductive Knd where|int|bool|str|list|tuple|seq
inductive Bn where|tuple|sorted
inductive Acc where|ix (k:Int)|key (j:Nat)
inductive Tg where|nm (i:Nat)|tp (ts:List Nat)
mutual
inductive E where
 |nm (i:Nat)|int (k:Int)|str (x:Str)|bl (b:Bool)|non|gc (g:Nat)
 |bop (o:Bo) (a b:E)|cat (a b:E)|catT (a b:E)|rep (a b:E)
 |cmp (o:Co) (a b:E)|cmp2 (o o':Co) (a b c:E)|isn (neg:Bool) (a:E)
 |and (a b:E)|or (a b:E)|not (a:E)|neg (a:E)|ife (c a b:E)
 |tup (es:Es)|lst (es:Es)|ix (a b:E)|sll (a:E) (lo hi:Eo)|slt (a:E) (lo hi:Eo)
 |call (f:Nat) (es:Es)|blt (f:Bl) (es:Es)|bnw (f:Bn) (e:E)|isi (k:Knd) (a:E)|sst (a:E)|frz (a:E)|idx (a b:E)|dgt (i:Nat) (e:E)
 |pg (i:Nat) (ps:List Acc)|din (neg:Bool) (e:E) (i:Nat) (ps:List Acc)
 |comp (nt:Nat) (fr:List Nat) (it:It') (tg:Tg) (ifs:Eo) (elt:E)
inductive Es where|nil|cons (e:E)(es:Es)
inductive Eo where|none|some (e:E)
inductive It' where|seq (e:E)|rg1 (e:E)|rg2 (a b:E)|rg3 (a b:E)|enm (e:E)|zip (a b:E)
end
mutual
inductive S' where
 |ex (e:E)|set (i:Nat) (e:E)|asg (t:Tg) (e:E)|par (is:List Nat) (es:Es)|aug (i:Nat) (o:Bo) (e:E)|agl (i:Nat) (e:E)
 |ret (e:E)|iff (c:E) (a b:Ss)|whl (c:E) (b:Ss)|fr (t:Tg) (it:It') (b:Ss)|cont
 |app (i:Nat) (e:E)|ext (i:Nat) (e:E)|ins (i:Nat) (k e:E)|sti (i:Nat) (k e:E)|sdk (i:Nat) (k e:E)
 |sdc (i nt:Nat) (fr:List Nat) (it:It') (tg:Tg) (ke ve:E)
inductive Ss where|nil|cons (s:S')(ss:Ss)
end
structure Fn where
 io:List Bool
 n:Nat
 body:Ss
structure Ct where
 io:Nat->List Bool
 call:Nat->List OD->Option (OD×List OD)
 mak:Nat->List OD->Option (OD×List OD)
 gv:Nat->PyData
 wf:Nat
def vD:OD->Option PyData|.fz d=>some d|_=>none
def oA:OD->Option (List OD)|.lst xs=>some xs|_=>none
def yd:OD->Option (List Key×List OD)|.dic ks xs=>some (ks,xs)|_=>none
def GE:OD->Option (Str×List Str×List OD)|.obj c ns xs=>some (c,ns,xs)|_=>none
def Fc(x:OD):Option (List OD):=match x with|.lst xs=>some xs|.tup xs=>some xs|_=>none
def cX:PyData->Option Int|.int i=>some i|_=>none
def Cv:PyData->Option Bool|.bool k=>some k|_=>none
def AH:PyData->Option (List PyData)|.list ds=>some ds|_=>none
def qB:PyData->Option (List PyData)|.list ds=>some ds|.tuple ds=>some ds|_=>none
def Cw:OR->Option (List OD)|.val x=>oA x|_=>none
def gd(c:Prop)[Decidable c]:Option Unit:=if c then some () else none
def cJ{a:Type}:List a->Option a|[x]=>some x|_=>none
def ud{a:Type}:List a->Option (a×a×a)|[x,y,z]=>some (x,y,z)|_=>none
def GF:PyData->Option (List PyData)|.tuple ds=>some ds|_=>none
def gT{a:Type}:List a->Option (a×a)|[x,y]=>some (x,y)|_=>none
def GG(w:OD×List OD):Option (OD×List OD):=(vD w.1).bind λd=>match d,w.2 with|.none,y::ys=>some (y,ys)|_,_=>none
def Fd:Bo->Int->Int->Option Int
 |.add,i,j=>some (i+j)
 |.sub,i,j=>some (i-j)
 |.mul,i,j=>(gd ((-(2^64)<i/\i<2^64)\/(-(2^64)<j/\j<2^64))).bind λ_=>some (i*j)
 |.fdiv,i,j=>(gd (0<j/\j<1073741824)).bind λ_=>some (i/j)
 |.mod,i,j=>(gd (0<j)).bind λ_=>some (i%j)
 |.pow,i,j=>(gd (0<=j/\j<=1000000/\i.natAbs<2^64)).bind λ_=>some (i^j.toNat)
def so(o:Bo)(x y:PyData):Option PyData:=(cX x).bind λi=>(cX y).bind λj=>(Fd o i j).bind λk=>some (.int k)
def eqA(x y:PyData):Option Bool:=match nW x y with
 |some k=>some k
 |none=>if SeqAt.shaped x&&SeqAt.shaped y then some (PyData.eqv x y) else none
def inA(x y:PyData):Option Bool:=(qB y).bind λa=>(gd (ze x=true)).bind λ_=>memD x a
def sq(o:Co)(x y:PyData):Option Bool:=match o with
 |.lt=>(cX x).bind λi=>(cX y).bind λj=>some (decide (i<j))
 |.le=>(cX x).bind λi=>(cX y).bind λj=>some (decide (i<=j))
 |.gt=>(cX x).bind λi=>(cX y).bind λj=>some (decide (j<i))
 |.ge=>(cX x).bind λi=>(cX y).bind λj=>some (decide (j<=i))
 |.eq=>eqA x y
 |.ne=>(eqA x y).bind λk=>some (!k)
 |.inn=>inA x y
 |.nin=>(inA x y).bind λk=>some (!k)
def qC:PyData->Option Bool
 |.none=>some false|.bool b=>some b|.int i=>some (i !=0)
 |.list ds=>some (!ds.isEmpty)|.tuple ds=>some (!ds.isEmpty)
 |_=>none
def D7:List PyData->Int->Option Int
 |[],a=>some a
 |.int i::ds,a=>D7 ds (a+i)
 |_::_,_=>none
def sr:Knd->PyData->Bool
 |.int,.int _=>true|.int,.bool _=>true|.bool,.bool _=>true|.str,.str _=>true|.list,.list _=>true|.tuple,.tuple _=>true|.seq,.list _=>true|.seq,.tuple _=>true
 |_,_=>false
def gk:List PyData->Option (List Int)
 |[]=>some []
 |d::ds=>(cX d).bind λi=>(gk ds).bind λr=>some (i::r)
def GH(ns:List Int):Nat:=(firstMet (λi=>ns.getD i 0) ns.length).length
def GI(n:Int):Bool:=decide (-1000000000000<=n)&&decide (n<=1000000000000)
def zf(f:Bl)(ds:List PyData):Option PyData:=match f with
 |.len=>(cJ ds).bind λd=>(iK d).bind λn=>some (.int n)
 |.abs=>(cJ ds).bind λd=>(cX d).bind λi=>some (.int (if i<0 then -i else i))
 |.max=>(gT ds).bind λz=>(cX z.1).bind λi=>(cX z.2).bind λj=>some (.int (if j>i then j else i))
 |.min=>(gT ds).bind λz=>(cX z.1).bind λi=>(cX z.2).bind λj=>some (.int (if j<i then j else i))
 |.int=>(cJ ds).bind λd=>(toInt d).bind λi=>some (.int i)
 |.all=>(cJ ds).bind λd=>(AH d).bind λa=>(allB a).bind λb=>some (.bool (b.all id))
def insI(i:Int):List Int->List Int
 |[]=>[i]
 |j::r=>if i<=j then i::j::r else j::insI i r
def sortI:List Int->List Int
 |[]=>[]
 |i::r=>insI i (sortI r)
def keyOf:PyData->Option Key
 |.int i=>some (.inl i)
 |.str x=>some (.inr x)
 |_=>none
def dsL(k:Key):List (Str×Int)->Option Int
 |[]=>none
 |z::r=>if (.inr z.1:Key)=k then some z.2 else dsL k r
def D8:OR->Option (List PyData)|.val (.fz (.tuple ds))=>some ds|_=>none
def dgV(ks:List Key)(xs:List OD)(k:Key):Option PyData:=match ks.findIdx? (λq=>decide (q=k)) with
 |some j=>(xs[j]?).bind vD
 |none=>some .none
def accN(ρ:DEnv)(x:OD):Acc->Option Nat
 |.ix k=>(Fc x).bind λxs=>ixN xs.length k
 |.key j=>(ρ[j]?.join).bind λy=>(vD y).bind λd=>(yd x).bind λq=>(keyOf d).bind λk=>q.1.findIdx? (λq=>decide (q=k))
def cK(ρ:DEnv)(i:Nat):List Acc->Option (OD×List Nat×OD)
 |[]=>(ρ[i]?.join).bind λx=>some (x,[],x)
 |a::ps=>(cK ρ i ps).bind λp=>(accN ρ p.2.2 a).bind λk=>(p.2.2.kids[k]?).bind λz=>some (p.1,p.2.1++[k],z)
def unpA(x:OD):Option (List OD):=match unpT x with|some a=>some a|none=>unpL x
def D9(ts:List Nat)(x:OD)(ρ:DEnv):Option DEnv:=(unpA x).bind λa=>(gd (a.length=ts.length/\∀i∈ts,i<ρ.length)).bind λ_=>some (cF ts a ρ)
def bH:Tg->OD->DEnv->Option DEnv
 |.nm i,x,ρ=>(gd (i<ρ.length)).bind λ_=>some (ρ.set i (some x))
 |.tp ts,x,ρ=>D9 ts x ρ
def cm(step:PyData->DEnv->Option (List PyData×DEnv)):List PyData->List PyData->DEnv->Option (List PyData×DEnv)
 |[],out,ρ=>some (out,ρ)
 |d::ds,out,ρ=>(step d ρ).bind λw=>cm step ds (out++w.1) w.2
def ia(step:List Key×List OD->PyData->DEnv->Option ((List Key×List OD)×DEnv)):List PyData->List Key×List OD->DEnv->Option ((List Key×List OD)×DEnv)
 |[],o,ρ=>some (o,ρ)
 |d::ds,o,ρ=>(step o d ρ).bind λw=>ia step ds w.1 w.2
inductive Fl where|nx|bk|ct|rt (x:OD)
def bS(step:PyData->DEnv->Option (Fl×DEnv)):List PyData->DEnv->Option (Fl×DEnv)
 |[],ρ=>some (.nx,ρ)
 |d::ds,ρ=>(step d ρ).bind λw=>match w.1 with
  |.nx=>bS step ds w.2
  |.ct=>bS step ds w.2
  |.bk=>some (.nx,w.2)
  |.rt x=>some (.rt x,w.2)
def l4(c:DEnv->Option (Bool×DEnv))(b:DEnv->Option (Fl×DEnv)):Nat->DEnv->Option (Fl×DEnv)
 |0,_=>none
 |n+1,ρ=>(c ρ).bind λx=>if x.1=true then (b x.2).bind λw=>match w.1 with
   |.nx=>l4 c b n w.2
   |.ct=>l4 c b n w.2
   |.bk=>some (.nx,w.2)
   |.rt x=>some (.rt x,w.2)
  else some (.nx,x.2)
def vt(f:DEnv->Option (OR×DEnv)):(DEnv->Option (OR×DEnv))×(DEnv->Option (Bool×DEnv)):=(f,λa=>(f a).bind λx=>(aq x.2 x.1).bind λd=>(qC d).bind λk=>some (k,x.2))
section
variable(C:Ct)
mutual
def bh:E->(DEnv->Option (OR×DEnv))×(DEnv->Option (Bool×DEnv))
 |.nm i=>vt λρ=>match ρ[i]?.join with
  |some (.fz d)=>some (.val (.fz d),ρ)
  |some _=>some (.rf i,ρ)
  |none=>none
 |.int k=>vt λρ=>some (.val (.fz (.int k)),ρ)
 |.str x=>vt λρ=>some (.val (.fz (.str x)),ρ)
 |.bl b=>vt λρ=>some (.val (.fz (.bool b)),ρ)
 |.non=>vt λρ=>some (.val (.fz .none),ρ)
 |.gc g=>vt λρ=>some (.val (.fz (C.gv g)),ρ)
 |.bop o a b=>vt λρ=>((bh a).1 ρ).bind λx=>((bh b).1 x.2).bind λy=>(aq y.2 x.1).bind λdx=>(aq y.2 y.1).bind λdy=>(so o dx dy).bind λd=>some (.val (.fz d),y.2)
 |.cat a b=>vt λρ=>((bh a).1 ρ).bind λx=>((bh b).1 x.2).bind λy=>(sk y.2 x.1).bind λdx=>(sk y.2 y.1).bind λdy=>(gd (dx.length+dy.length<=1000000)).bind λ_=>some (.val (.lst ((dx++dy).map OD.fz)),y.2)
 |.catT a b=>vt λρ=>((bh a).1 ρ).bind λx=>((bh b).1 x.2).bind λy=>(sm y.2 x.1).bind λdx=>(sm y.2 y.1).bind λdy=>(gd (dx≠[]/\dy≠[]/\dx.length+dy.length<=1000000)).bind λ_=>some (.val (.fz (.tuple (dx++dy))),y.2)
 |.rep a b=>vt λρ=>((bh a).1 ρ).bind λx=>((bh b).1 x.2).bind λy=>(Cw x.1).bind λxs=>(aq y.2 y.1).bind λd=>(cX d).bind λk=>(pZ xs).bind λds=>(gd (-(2^62)<=k/\k<2^62/\ds.length*k.toNat<=1000000)).bind λ_=>some (.val (.lst ((List.replicate k.toNat ds).flatten.map OD.fz)),y.2)
 |.cmp o a b=>vt λρ=>((bh a).1 ρ).bind λx=>((bh b).1 x.2).bind λy=>(aq y.2 x.1).bind λdx=>(aq y.2 y.1).bind λdy=>(sq o dx dy).bind λk=>some (.val (.fz (.bool k)),y.2)
 |.cmp2 o o' a b c=>vt λρ=>((bh a).1 ρ).bind λx=>((bh b).1 x.2).bind λy=>(aq y.2 x.1).bind λdx=>(aq y.2 y.1).bind λdy=>(sq o dx dy).bind λk=>if k=true then ((bh c).1 y.2).bind λz=>(aq z.2 y.1).bind λdy'=>(aq z.2 z.1).bind λdz=>(sq o' dy' dz).bind λr=>some (.val (.fz (.bool r)),z.2) else some (.val (.fz (.bool false)),y.2)
 |.isn neg a=>vt λρ=>((bh a).1 ρ).bind λx=>(aq x.2 x.1).bind λd=>some (.val (.fz (.bool (if neg then !isNn d else isNn d))),x.2)
 |.and a b=>(λρ=>((bh a).1 ρ).bind λx=>(aq x.2 x.1).bind λd=>(Cv d).bind λk=>if k=true then (bh b).1 x.2 else some (.val (.fz (.bool false)),x.2),λρ=>((bh a).2 ρ).bind λx=>if x.1=true then (bh b).2 x.2 else some (false,x.2))
 |.or a b=>(λρ=>((bh a).1 ρ).bind λx=>(aq x.2 x.1).bind λd=>(Cv d).bind λk=>if k=true then some (.val (.fz (.bool true)),x.2) else (bh b).1 x.2,λρ=>((bh a).2 ρ).bind λx=>if x.1=true then some (true,x.2) else (bh b).2 x.2)
 |.not a=>(λρ=>((bh a).1 ρ).bind λx=>(aq x.2 x.1).bind λd=>(Cv d).bind λk=>some (.val (.fz (.bool (!k))),x.2),λρ=>((bh a).2 ρ).bind λx=>some (!x.1,x.2))
 |.neg a=>vt λρ=>((bh a).1 ρ).bind λx=>(aq x.2 x.1).bind λd=>(cX d).bind λi=>some (.val (.fz (.int (-i))),x.2)
 |.ife c a b=>vt λρ=>((bh c).2 ρ).bind λx=>if x.1=true then (bh a).1 x.2 else (bh b).1 x.2
 |.tup es=>vt λρ=>(evs es ρ).bind λx=>(mapR own1 x.2 x.1).bind λz=>(gd (x.1.length<=1000000)).bind λ_=>some (.val (mkTup z.1),z.2)
 |.lst es=>vt λρ=>(evs es ρ).bind λx=>(mapR own1 x.2 x.1).bind λz=>(gd (x.1.length<=1000000)).bind λ_=>some (.val (.lst z.1),z.2)
 |.ix a b=>vt λρ=>((bh a).1 ρ).bind λx=>((bh b).1 x.2).bind λy=>(aq y.2 y.1).bind λd=>(cX d).bind λi=>(bb y.2 x.1 i).bind λz=>some (.val z.1,z.2)
 |.sll a lo hi=>vt λρ=>((bh a).1 ρ).bind λx=>(AI lo x.2).bind λl=>(AI hi l.2).bind λu=>(sk u.2 x.1).bind λds=>some (.val (.lst ((cutD ds l.1 u.1).map OD.fz)),u.2)
 |.slt a lo hi=>vt λρ=>((bh a).1 ρ).bind λx=>(AI lo x.2).bind λl=>(AI hi l.2).bind λu=>(sm u.2 x.1).bind λds=>(gd (¬ (HT.sIx ds.length 0 l.1=0/\HT.sIx ds.length ds.length u.1=ds.length))).bind λ_=>some (.val (.fz (.tuple (cutD ds l.1 u.1))),u.2)
 |.call f es=>vt λρ=>(evs es ρ).bind λx=>(aX (C.io f) x.2 x.1).bind λz=>(C.call f z.1).bind λw=>some (.val w.1,hV (C.io f) x.1 w.2 z.2)
 |.blt f es=>vt λρ=>(evs es ρ).bind λx=>(cx x.2 x.1).bind λds=>(zf f ds).bind λd=>some (.val (.fz d),x.2)
 |.bnw f e=>vt λρ=>((bh e).1 ρ).bind λx=>match f with
  |.tuple=>((dG x.2 x.1).bind listOf).bind λds=>some (.val (.fz (.tuple ds)),x.2)
  |.sorted=>(aq x.2 x.1).bind λd=>(AH d).bind λds=>(gk ds).bind λns=>(gd (ns.length<64)).bind λ_=>some (.val (.lst ((sortI ns).map λi=>.fz (.int i))),x.2)
 |.isi k a=>vt λρ=>((bh a).1 ρ).bind λx=>(aq x.2 x.1).bind λd=>some (.val (.fz (.bool (sr k d))),x.2)
 |.sst a=>vt λρ=>((bh a).1 ρ).bind λx=>(aq x.2 x.1).bind λd=>(AH d).bind λds=>(gk ds).bind λns=>(gd (ns.length<1000)).bind λ_=>(gd ((ns.foldl Np.ddI []).length<64)).bind λ_=>some (.val (.lst ((sortI (ns.foldl Np.ddI [])).map λi=>.fz (.int i))),x.2)
 |.idx a b=>vt λρ=>((bh a).1 ρ).bind λx=>(D8 x.1).bind λds=>((bh b).1 x.2).bind λy=>(aq y.2 y.1).bind λd=>(cX d).bind λn=>(gk ds).bind λns=>(ns.findIdx? λm=>decide (m=n)).bind λj=>some (.val (.fz (.int j)),y.2)
 |.dgt i e=>vt λρ=>(ρ[i]?.join).bind λt=>(yd t).bind λ_=>((bh e).1 ρ).bind λy=>(aq y.2 y.1).bind λd=>(keyOf d).bind λk=>(y.2[i]?.join).bind λs=>(yd s).bind λq=>(dgV q.1 q.2 k).bind λw=>some (.val (.fz w),y.2)
 |.frz a=>vt λρ=>((bh a).1 ρ).bind λx=>(frz1 x.2 x.1).bind λz=>some (.val (.fz z.1),z.2)
 |.pg i ps=>vt λρ=>(cK ρ i ps).bind λp=>(vD p.2.2).bind λd=>some (.val (.fz d),ρ)
 |.din neg e i ps=>vt λρ=>((bh e).1 ρ).bind λx=>(aq x.2 x.1).bind λdx=>(cK x.2 i ps).bind λp=>(keyOf dx).bind λk=>(yd p.2.2).bind λq=>some (.val (.fz (.bool (if neg then !(q.1.any λq=>decide (q=k)) else q.1.any λq=>decide (q=k)))),x.2)
 |.comp nt fr it tg ifs elt=>vt λρ=>(su it ρ).bind λx=>(gd (x.1.length<1000000)).bind λ_=>(bZ x.2 fr).bind λz=>
   (cm (λd h=>(bH tg (.fz d) h).bind λρ1=>(Ea ifs ρ1).bind λk=>if k.1=true then ((bh elt).1 k.2).bind λy=>(frz1 y.2 y.1).bind λq=>some ([q.1],q.2) else some ([],k.2)) x.1 [] (List.replicate nt none++z.1)).bind λw=>
    some (.val (.lst (w.1.map OD.fz)),fB z.2 fr (w.2.drop nt))
def evs:Es->DEnv->Option (List OR×DEnv)
 |.nil,ρ=>some ([],ρ)
 |.cons e es,ρ=>((bh e).1 ρ).bind λx=>(evs es x.2).bind λy=>some (x.1::y.1,y.2)
def AI:Eo->DEnv->Option (Option Int×DEnv)
 |.none,ρ=>some (none,ρ)
 |.some e,ρ=>((bh e).1 ρ).bind λx=>(aq x.2 x.1).bind λd=>(cX d).bind λi=>some (some i,x.2)
def Ea:Eo->DEnv->Option (Bool×DEnv)
 |.none,ρ=>some (true,ρ)
 |.some e,ρ=>(bh e).2 ρ
def su:It'->DEnv->Option (List PyData×DEnv)
 |.seq e,ρ=>((bh e).1 ρ).bind λx=>(frz1 x.2 x.1).bind λz=>(qB z.1).bind λds=>some (ds,z.2)
 |.rg1 e,ρ=>((bh e).1 ρ).bind λx=>(aq x.2 x.1).bind λd=>(cX d).bind λj=>(gd (-(2^62)<=j/\j<2^62)).bind λ_=>some (bY 0 j.toNat,x.2)
 |.rg2 a b,ρ=>((bh a).1 ρ).bind λx=>((bh b).1 x.2).bind λy=>(aq y.2 x.1).bind λd=>(cX d).bind λi=>(aq y.2 y.1).bind λd'=>(cX d').bind λj=>(gd (-(2^62)<=i/\i<2^62/\-(2^62)<=j/\j<2^62)).bind λ_=>some (bY i (j-i).toNat,y.2)
 |.rg3 a b,ρ=>((bh a).1 ρ).bind λx=>((bh b).1 x.2).bind λy=>(aq y.2 x.1).bind λd=>(cX d).bind λi=>(aq y.2 y.1).bind λd'=>(cX d').bind λj=>(gd (0<=i/\i<=j/\j<=1000000)).bind λ_=>some (oq i (rn2 i j),y.2)
 |.enm e,ρ=>((bh e).1 ρ).bind λx=>(frz1 x.2 x.1).bind λz=>(AH z.1).bind λds=>some (cg ds,z.2)
 |.zip a b,ρ=>((bh a).1 ρ).bind λx=>((bh b).1 x.2).bind λy=>(frz1 y.2 x.1).bind λz=>(frz1 z.2 y.1).bind λw=>(qB z.1).bind λds=>(qB w.1).bind λes=>some (f6 ds es,w.2)
end
abbrev ev(e:E)(ρ:DEnv):=(bh C e).1 ρ
abbrev bw(e:E)(ρ:DEnv):=(bh C e).2 ρ
end
example (C:Ct) (ρ:DEnv):ev C (.bop .add (.int 1) (.int 2)) ρ=some (.val (.fz (.int 3)),ρ):=rfl
example (C:Ct) (ρ:DEnv):bw C (.and (.bl true) (.not (.cmp .lt (.int 1) (.int 2)))) ρ=some (false,ρ):=rfl
end
section
theorem bnd{b c:Type}{o:Option b}{f:b->Option c}{x:c}(h:o.bind f=some x):∃a,o=some a/\f a=some x:=aaB.mp h
theorem bn2{α β γ:Type}{o:Option α}{g1:α->Option β}{f:α->β->Option γ}{r:γ}(h:(o.bind λa=>(g1 a).bind (f a))=some r):∃a b,o=some a/\g1 a=some b/\f a b=some r:=by obtain⟨a,p0,h⟩:=bnd h;obtain⟨b,p1,h⟩:=bnd h;exact⟨a,b,p0,p1,h⟩
theorem bn3{α β γ δ:Type}{o:Option α}{g1:α->Option β}{g2:α->β->Option γ}{f:α->β->γ->Option δ}{r:δ}(h:(o.bind λa=>(g1 a).bind λb=>(g2 a b).bind (f a b))=some r):∃a b c,o=some a/\g1 a=some b/\g2 a b=some c/\f a b c=some r:=by obtain⟨a,p0,h⟩:=bnd h;obtain⟨b,p1,h⟩:=bnd h;obtain⟨c,p2,h⟩:=bnd h;exact⟨a,b,c,p0,p1,p2,h⟩
theorem bn4{α β γ δ ε:Type}{o:Option α}{g1:α->Option β}{g2:α->β->Option γ}{g3:α->β->γ->Option δ}{f:α->β->γ->δ->Option ε}{r:ε}(h:(o.bind λa=>(g1 a).bind λb=>(g2 a b).bind λc=>(g3 a b c).bind (f a b c))=some r):∃a b c d,o=some a/\g1 a=some b/\g2 a b=some c/\g3 a b c=some d/\f a b c d=some r:=by obtain⟨a,p0,h⟩:=bnd h;obtain⟨b,p1,h⟩:=bnd h;obtain⟨c,p2,h⟩:=bnd h;obtain⟨d,p3,h⟩:=bnd h;exact⟨a,b,c,d,p0,p1,p2,p3,h⟩
theorem bn5{α β γ δ ε ζ:Type}{o:Option α}{g1:α->Option β}{g2:α->β->Option γ}{g3:α->β->γ->Option δ}{g4:α->β->γ->δ->Option ε}{f:α->β->γ->δ->ε->Option ζ}{r:ζ}(h:(o.bind λa=>(g1 a).bind λb=>(g2 a b).bind λc=>(g3 a b c).bind λd=>(g4 a b c d).bind (f a b c d))=some r):∃a b c d e,o=some a/\g1 a=some b/\g2 a b=some c/\g3 a b c=some d/\g4 a b c d=some e/\f a b c d e=some r:=by obtain⟨a,p0,h⟩:=bnd h;obtain⟨b,p1,h⟩:=bnd h;obtain⟨c,p2,h⟩:=bnd h;obtain⟨d,p3,h⟩:=bnd h;obtain⟨e,p4,h⟩:=bnd h;exact⟨a,b,c,d,e,p0,p1,p2,p3,p4,h⟩
theorem iS{x:OD}{d:PyData}(h:vD x=some d):x=.fz d:=by cases x<;>cases h;rfl
theorem b9{x:OD}{xs:List OD}(h:oA x=some xs):x=.lst xs:=by cases x<;>cases h;rfl
theorem iT{x:OD}{z:List Key×List OD}(h:yd x=some z):x=.dic z.1 z.2:=by cases x<;>cases h;rfl
theorem ye{x:OD}{xs:List OD}(h:Fc x=some xs):x=.lst xs\/x=.tup xs:=by cases x<;>cases h<;>first|exact .inl rfl|exact .inr rfl
theorem aH{d:PyData}{i:Int}(h:cX d=some i):d=.int i:=by cases d<;>cases h;rfl
theorem kU{d:PyData}{i:Bool}(h:Cv d=some i):d=.bool i:=by cases d<;>cases h;rfl
theorem iU{d:PyData}{i:List PyData}(h:AH d=some i):d=.list i:=by cases d<;>cases h;rfl
theorem kW{d:PyData}{i:List PyData}(h:qB d=some i):d=.list i\/d=.tuple i:=by cases d<;>cases h<;>first|exact .inl rfl|exact .inr rfl
theorem kX{r:OR}{xs:List OD}(h:Cw r=some xs):r=.val (.lst xs):=by
 cases r with
 |val x=>rw[b9 h]
 |rf _=>cases h
theorem gd_ok{c:Prop}[Decidable c]{u:Unit}(h:gd c=some u):c:=by
 by_cases a:c
 ·exact a
 ·rw[gd,if_neg a]at h;cases h
theorem one1_ok{a:Type}{l:List a}{x:a}(h:cJ l=some x):l=[x]:=by
 cases l with
 |nil=>cases h
 |cons y l=>cases l<;>cases h;rfl
theorem thr3_ok{a:Type}{l:List a}{x:a×a×a}(h:ud l=some x):l=[x.1,x.2.1,x.2.2]:=by
 cases l with
 |nil=>cases h
 |cons y l=>
  cases l with
  |nil=>cases h
  |cons z l=>
   cases l with
   |nil=>cases h
   |cons w l=>cases l<;>cases h;rfl
theorem two2_ok{a:Type}{l:List a}{x:a×a}(h:gT l=some x):l=[x.1,x.2]:=by
 cases l with
 |nil=>cases h
 |cons y l=>
  cases l with
  |nil=>cases h
  |cons z l=>cases l<;>cases h;rfl
section
variable(C:Ct)
mutual
def yf:E->DEnv->Option PyData
 |.nm i,ρ=>(ρ[i]?.join).bind vD
 |.int k,_=>some (.int k)
 |.str x,_=>some (.str x)
 |.gc g,_=>some (C.gv g)
 |.bop o a b,ρ=>match o with
  |.add=>(yf a ρ).bind λx=>(yf b ρ).bind λy=>so .add x y
  |.sub=>(yf a ρ).bind λx=>(yf b ρ).bind λy=>so .sub x y
  |_=>none
 |.ix a b,ρ=>(yf a ρ).bind λx=>(yf b ρ).bind λy=>(qB x).bind λds=>(cX y).bind λi=>atI ds i
 |.tup es,ρ=>(AJ es ρ).bind λds=>(gd (ds.length<=1000000)).bind λ_=>some (.tuple ds)
 |.pg i ps,ρ=>(cK ρ i ps).bind λp=>vD p.2.2
 |_,_=>none
def AJ:Es->DEnv->Option (List PyData)
 |.nil,_=>some []
 |.cons e es,ρ=>(yf e ρ).bind λx=>(AJ es ρ).bind λy=>some (x::y)
end
def qD(f:Str)(z:OD):List Str->List OD->List Str×List OD
 |n::ns,x::xs=>if n=f then (n::ns,z::xs) else ((n::(qD f z ns xs).1),(x::(qD f z ns xs).2))
 |_,_=>([f],[z])
def bE(k:Key)(d:PyData)(ks:List Key)(xs:List OD):List Key×List OD:=
 if (ks.any λq=>decide (q=k))=true then (ks,List.zipWith (λq x=>if q=k then .fz d else x) ks xs) else (ks++[k],xs++[.fz d])
def yg:Bo->Int->PyData->Option Int
 |.add,a,.int k=>some (a+k)
 |.sub,a,.int k=>some (a-k)
 |_,_,_=>none
def yh(i:Nat)(ks:List Nat)(j:Nat)(u:V)(ρ a:DEnv):Prop:=∃x y,ρ[i]?.join=some x/\x.at ks=some (.hole u)/\ρ[j]?.join=some y/\j≠i/\a=(ρ.set j none).set i (some (OD.put y ks x))
def vF(g:V->Option (Fl×DEnv))(i:Nat)(ks:List Nat)(j:Nat)(z:Fl×DEnv):Prop:=∀u:V,∃a,g u=some (z.1,a)/\yh i ks j u a z.2
open Classical in
def yi(g:V->Option (Fl×DEnv))(i:Nat)(ks:List Nat)(j:Nat):Option (Fl×DEnv):=if h:∃z,vF g i ks j z then some (Classical.choose h) else none
abbrev Fe(f:DEnv->Option (Fl×DEnv))(ρ:DEnv)(i:Nat)(p:OD×List Nat×OD)(xs:List OD)(j:Nat)(z:Fl×DEnv):Prop:=vF (λu=>f (ρ.set i (some (OD.put (.lst (xs++[.hole u])) p.2.1 p.1)))) i (p.2.1++[xs.length]) j z
def Eb(f:DEnv->Option (Fl×DEnv))(ρ:DEnv)(i:Nat)(p:OD×List Nat×OD)(j:Nat):Option (Fl×DEnv):=(oA p.2.2).bind λa=>(gd (a.length<1000000/\j≠i/\(ρ[j]?.join).isSome)).bind λ_=>yi (λu=>f (ρ.set i (some (OD.put (.lst (a++[.hole u])) p.2.1 p.1)))) i (p.2.1++[a.length]) j
def dAct(b d:E)(o:List Key×List OD)(ρ:DEnv):Option ((List Key×List OD)×DEnv):=(ev C b ρ).bind λx=>(ev C d x.2).bind λy=>(aq y.2 x.1).bind λa=>(keyOf a).bind λc=>(frz1 y.2 y.1).bind λz=>some (bE c z.1 o.1 o.2,z.2)
def qE(c:Tg)(e b:E)(o:List Key×List OD)(d:PyData)(ρ:DEnv):Option ((List Key×List OD)×DEnv):=(bH c (.fz d) ρ).bind λa=>dAct C e b o a
mutual
def dN:S'->DEnv->Option (Fl×DEnv)
 |.ex e,ρ=>(ev C e ρ).bind λx=>some (.nx,x.2)
 |.set i e,ρ=>(ev C e ρ).bind λx=>(own1 x.2 x.1).bind λz=>(gd (i<z.2.length)).bind λ_=>some (.nx,z.2.set i (some z.1))
 |.asg t e,ρ=>(ev C e ρ).bind λx=>(own1 x.2 x.1).bind λz=>(bH t z.1 z.2).bind λρ1=>some (.nx,ρ1)
 |.par is es,ρ=>(evs C es ρ).bind λx=>(mapR own1 x.2 x.1).bind λz=>(gd (z.1.length=is.length/\∀i∈is,i<z.2.length)).bind λ_=>some (.nx,cF is z.1 z.2)
 |.aug i o e,ρ=>(ρ[i]?.join).bind λf=>(vD f).bind λl=>(cX l).bind λa=>(ev C e ρ).bind λx=>(aq x.2 x.1).bind λd=>(yg o a d).bind λr=>some (.nx,x.2.set i (some (.fz (.int r))))
 |.agl i e,ρ=>(ρ[i]?.join).bind λf=>(oA f).bind λ_=>(ev C e ρ).bind λx=>(Cw x.1).bind λys=>(x.2[i]?.join).bind λg=>(oA g).bind λxs=>(gd (xs.length+ys.length<=1000000)).bind λ_=>some (.nx,x.2.set i (some (.lst (xs++ys))))
 |.ret e,ρ=>(ev C e ρ).bind λx=>(mv1 x.2 x.1).bind λz=>some (.rt z.1,z.2)
 |.iff c a b,ρ=>(bw C c ρ).bind λx=>if x.1=true then aW a x.2 else aW b x.2
 |.whl c b,ρ=>l4 (bw C c) (aW b) C.wf ρ
 |.fr t it b,ρ=>(su C it ρ).bind λx=>bS (λd h=>(bH t (.fz d) h).bind λρ1=>aW b ρ1) x.1 x.2
 |.cont,ρ=>some (.ct,ρ)
 |.app i e,ρ=>(ρ[i]?.join).bind λf=>(oA f).bind λ_=>(ev C e ρ).bind λx=>(own1 x.2 x.1).bind λz=>(z.2[i]?.join).bind λg=>(oA g).bind λxs=>(gd (xs.length<1000000)).bind λ_=>some (.nx,z.2.set i (some (.lst (xs++[z.1]))))
 |.ext i e,ρ=>(ρ[i]?.join).bind λf=>(oA f).bind λ_=>(ev C e ρ).bind λx=>(Cw x.1).bind λys=>(x.2[i]?.join).bind λg=>(oA g).bind λxs=>(gd (xs.length+ys.length<=1000000)).bind λ_=>some (.nx,x.2.set i (some (.lst (xs++ys))))
 |.ins i k e,ρ=>(ρ[i]?.join).bind λf=>(oA f).bind λ_=>(ev C k ρ).bind λq=>(ev C e q.2).bind λx=>(aq x.2 q.1).bind λm=>(cX m).bind λk=>(aq x.2 x.1).bind λd=>(gd (Cu d=true)).bind λ_=>(x.2[i]?.join).bind λg=>(oA g).bind λxs=>(gd (0<=k/\k<=xs.length/\xs.length<100000)).bind λ_=>some (.nx,x.2.set i (some (.lst (xs.take k.toNat++.fz d::xs.drop k.toNat))))
 |.sti i k e,ρ=>(ev C e ρ).bind λx=>(own1 x.2 x.1).bind λz=>(z.2[i]?.join).bind λf=>(oA f).bind λ_=>(ev C k z.2).bind λq=>(aq q.2 q.1).bind λd=>(cX d).bind λk=>(q.2[i]?.join).bind λg=>(oA g).bind λxs=>(ixN xs.length k).bind λj=>some (.nx,q.2.set i (some (.lst (xs.set j z.1))))
 |.sdk i k e,ρ=>(ev C e ρ).bind λx=>(frz1 x.2 x.1).bind λz=>(z.2[i]?.join).bind λf=>(yd f).bind λ_=>(ev C k z.2).bind λq=>(aq q.2 q.1).bind λn=>(keyOf n).bind λkk=>(q.2[i]?.join).bind λg=>(yd g).bind λu=>(gd (u.2.length<1000000)).bind λ_=>some (.nx,q.2.set i (some (.dic (bE kk z.1 u.1 u.2).1 (bE kk z.1 u.1 u.2).2)))
 |.sdc i nt fr it tg ke ve,ρ=>(su C it ρ).bind λx=>(gd (x.1.length<1000000)).bind λ_=>(bZ x.2 fr).bind λz=>(ia (qE C tg ke ve) x.1 ([],[]) (List.replicate nt none++z.1)).bind λw=>(gd (i<(fB z.2 fr (w.2.drop nt)).length)).bind λ_=>some (.nx,(fB z.2 fr (w.2.drop nt)).set i (some (.dic w.1.1 w.1.2)))
def aW:Ss->DEnv->Option (Fl×DEnv)
 |.nil,ρ=>some (.nx,ρ)
 |.cons s ss,ρ=>(dN s ρ).bind λx=>match x.1 with
  |.nx=>aW ss x.2
  |fl=>some (fl,x.2)
end
def ue(fn:Fn)(xs:List OD):Option (OD×List OD):=(aW C fn.body (gb fn.n xs)).bind λx=>match x.1 with
 |.nx=>(aU 0 fn.io xs x.2).bind λa=>some (.fz .none,a)
 |.rt o=>(aU 0 fn.io xs x.2).bind λa=>some (o,a)
 |_=>none
end
structure Pg where
 F:Nat->Option Fn
 gv:Nat->PyData
 wf:Nat
def Pg.io(p:Pg)(f:Nat):List Bool:=match p.F f with|some a=>a.io|none=>[]
def Pg.both(p:Pg):Nat->(Nat->List OD->Option (OD×List OD))×(Nat->List OD->Option (OD×List OD))
 |0=>(λ_ _=>none,λ_ _=>none)
 |n+1=>(λf xs=>match p.F f with
  |some fn=>if xs.length=fn.io.length then ue ⟨p.io,(Pg.both p n).1,(Pg.both p n).2,p.gv,p.wf⟩ fn xs else none
  |none=>none,(Pg.both p n).1)
def Pg.call(p:Pg)(n f:Nat)(xs:List OD):Option (OD×List OD):=(p.both n).1 f xs
def Pg.mak(p:Pg)(n f:Nat)(xs:List OD):Option (OD×List OD):=(p.both n).2 f xs
abbrev Pg.ct(p:Pg)(n:Nat):Ct:=⟨p.io,p.call n,p.mak n,p.gv,p.wf⟩
theorem Pg.ft(p:Pg)(n f:Nat)(xs:List OD):p.call (n+1) f xs=match p.F f with
  |some fn=>if xs.length=fn.io.length then ue (p.ct n) fn xs else none
  |none=>none:=rfl
end
section
def aw(C:Ct)(m:E):DE:=λa Q=>∃x,ev C m a=some x/\Q x.1 x.2
def fG(C:Ct)(m:E):DT:=λa Q=>∃x,bw C m a=some x/\Q x.1 x.2
def gU(C:Ct)(m:Es):DA:=λa Q=>∃x,evs C m a=some x/\Q x.1 x.2
def kY(C:Ct)(m:Eo):DO:=λa Q=>∃x,AI C m a=some x/\Q x.1 x.2
def eK(C:Ct)(m:It'):DI:=λa Q=>∃x,su C m a=some x/\Q x.1 x.2
section
variable{X:Cx}{e:Expr}{es:List Expr}
theorem PDe.imp:PDe X e d->(∀ρ Q,d' ρ Q->d ρ Q)->PDe X e d'
 |⟨te,h,s⟩,f=>⟨te,h,λb F σ H ρ τ θ a Q g R c q=>s b F σ H ρ τ θ a Q g R (f _ _ c) q⟩
theorem PDt.imp:PDt X e d->(∀ρ Q,d' ρ Q->d ρ Q)->PDt X e d'
 |⟨te,h,s⟩,f=>⟨te,h,λb F σ H ρ τ θ a Q g R c q=>s b F σ H ρ τ θ a Q g R (f _ _ c) q⟩
theorem PDw.imp:PDw X e d->(∀ρ Q,d' ρ Q->d ρ Q)->PDw X e d'
 |⟨te,h,s⟩,f=>⟨te,h,λb F σ H ρ τ θ a Q g R c q=>s b F σ H ρ τ θ a Q g R (f _ _ c) q⟩
theorem PDa.imp:PDa X es d->(∀ρ Q,d' ρ Q->d ρ Q)->PDa X es d'
 |⟨te,h,s⟩,f=>⟨te,h,λb F σ H ρ τ θ a Q g R c q=>s b F σ H ρ τ θ a Q g R (f _ _ c) q⟩
theorem PDi.imp:PDi X tg e d->(∀ρ Q,d' ρ Q->d ρ Q)->PDi X tg e d'
 |⟨te,h,s⟩,f=>⟨te,h,λb F σ H ρ τ θ a Q g R c q=>s b F σ H ρ τ θ a Q g R (f _ _ c) q⟩
theorem PDo.imp:PDo X o d->(∀ρ Q,d' ρ Q->d ρ Q)->PDo X o d'
 |⟨te,h,s⟩,f=>⟨te,h,λb F σ H ρ τ θ a Q g R c q=>s b F σ H ρ τ θ a Q g R (f _ _ c) q⟩
theorem SndR2.or{K:Waa}(h:SndR2 K r d)(h':SndR2 K r' d'):SndR2 K (λx y H Q=>r x y H Q\/r' x y H Q) (λx y Q=>d x y Q\/d' x y Q):=λH v u f a b Q g c z q=>z.imp (λz=>h H v u f a b Q g c z q) λz=>h' H v u f a b Q g c z q
theorem SndR2.imp{K:Waa}(h:SndR2 K r d)(f:∀x y Q,d' x y Q->d x y Q):SndR2 K r d':=λH v u g a b Q i c z q=>h H v u g a b Q i c (f _ _ _ z) q
end
def opOf:Bo->Operator
 |.add=>.Add|.sub=>.Sub|.mul=>.Mult|.fdiv=>.FloorDiv|.mod=>.Mod|.pow=>.Pow
def coOf:Co->CmpOp
 |.lt=>.Lt|.le=>.LtE|.gt=>.Gt|.ge=>.GtE|.eq=>.Eq|.ne=>.NotEq|.inn=>.In|.nin=>.NotIn
def F9(o:Bo):DR2:=λx y Q=>∃d,so o x y=some d/\Q d
def Ga(o:Co):DR2:=λx y Q=>∃k,sq o x y=some k/\Q (.bool k)
theorem cT(h:so o x y=some d):∃i j k,x=.int i/\y=.int j/\Fd o i j=some k/\d=.int k:=by obtain⟨i,j,k,b,a,c,h⟩:=bn3 h;cases h;exact⟨i,j,k,aH b,aH a,c,rfl⟩
section
variable{X:Cx}
theorem AK(o:Bo):∃e,OpR X (binaryOp (opOf o)) e/\SndR2 X.K e (F9 o):=by
 cases o with
 |add=>refine⟨_,wK,(pT λi j=>.int _).imp λx y Q c=>?_⟩;obtain⟨d,h,q⟩:=c;obtain⟨i,j,k,rfl,rfl,a,rfl⟩:=cT h;cases a;exact⟨i,j,rfl,rfl,q⟩
 |sub=>refine⟨_,wL,(pT λi j=>.int _).imp λx y Q c=>?_⟩;obtain⟨d,h,q⟩:=c;obtain⟨i,j,k,rfl,rfl,a,rfl⟩:=cT h;cases a;exact⟨i,j,rfl,rfl,q⟩
 |mul=>refine⟨_,wM,(tG λi j=>.int _).imp λx y Q c=>?_⟩;obtain⟨d,h,q⟩:=c;obtain⟨i,j,k,rfl,rfl,a,rfl⟩:=cT h;obtain⟨_,b,a⟩:=bnd a;cases a;have b:=gd_ok b;exact⟨i,j,rfl,rfl,b,q⟩
 |fdiv=>refine⟨_,sM,(tG λi j=>.int _).imp λx y Q c=>?_⟩;obtain⟨d,h,q⟩:=c;obtain⟨i,j,k,rfl,rfl,a,rfl⟩:=cT h;obtain⟨_,b,a⟩:=bnd a;cases a;have b:=gd_ok b;exact⟨i,j,rfl,rfl,b,q⟩
 |mod=>refine⟨_,wN,(tG λi j=>.int _).imp λx y Q c=>?_⟩;obtain⟨d,h,q⟩:=c;obtain⟨i,j,k,rfl,rfl,a,rfl⟩:=cT h;obtain⟨_,b,a⟩:=bnd a;cases a;have b:=gd_ok b;exact⟨i,j,rfl,rfl,b,q⟩
 |pow=>refine⟨_,wO,(tG λi j=>.int _).imp λx y Q c=>?_⟩;obtain⟨d,h,q⟩:=c;obtain⟨i,j,k,rfl,rfl,a,rfl⟩:=cT h;obtain⟨_,b,a⟩:=bnd a;cases a;have b:=gd_ok b;exact⟨i,j,rfl,rfl,b,q⟩
theorem l5(h:eqA x y=some k):nW x y=some k\/(SeqAt.shaped x=true/\SeqAt.shaped y=true/\k=PyData.eqv x y):=by
 unfold eqA at h;cases e:nW x y with
 |some d=>rw[e]at h;exact .inl h
 |none=>
  rw[e]at h;simp only at h;split at h
  ·rename_i c;cases h;obtain⟨a,b⟩:=aby.mp c;exact .inr ⟨a,b,rfl⟩
  ·cases h
theorem l6(h:inA x y=some k):∃ds,(y=.list ds\/y=.tuple ds)/\ze x=true/\memD x ds=some k:=by obtain⟨ds,_,b,a,h⟩:=bn2 h;exact⟨ds,kW b,gd_ok a,h⟩
theorem ib(p:X.A.units+64<cLine)(o:Co):∃n,OpR X (compareOp (coOf o)) n/\SndR2 X.K n (Ga o):=by
 have b:∀{x y:PyData}{k:Bool}{g:Int->Int->Bool},((cX x).bind λi=>(cX y).bind λj=>some (g i j))=some k->∃i j,x=.int i/\y=.int j/\k=g i j:=by intro x y k g h;obtain⟨i,j,s,r,h⟩:=bn2 h;cases h;exact⟨i,j,aH s,aH r,rfl⟩
 cases o with
 |lt=>refine⟨_,zL,(tH ).imp λx y Q a=>?_⟩;obtain⟨k,h,q⟩:=a;obtain⟨i,j,rfl,rfl,rfl⟩:=b h;exact⟨i,j,rfl,rfl,q⟩
 |le=>refine⟨_,zM,(tH ).imp λx y Q a=>?_⟩;obtain⟨k,h,q⟩:=a;obtain⟨i,j,rfl,rfl,rfl⟩:=b h;exact⟨i,j,rfl,rfl,q⟩
 |gt=>refine⟨_,zN,(tH ).imp λx y Q a=>?_⟩;obtain⟨k,h,q⟩:=a;obtain⟨i,j,rfl,rfl,rfl⟩:=b h;exact⟨i,j,rfl,rfl,q⟩
 |ge=>refine⟨_,zO,(tH ).imp λx y Q a=>?_⟩;obtain⟨k,h,q⟩:=a;obtain⟨i,j,rfl,rfl,rfl⟩:=b h;exact⟨i,j,rfl,rfl,q⟩
 |eq=>
  refine⟨_,op_eq.or (xj p),(sr_eq.or xF).imp λx y Q a=>?_⟩;obtain⟨k,h,q⟩:=a;rcases l5 h with h|⟨d,c,rfl⟩
  ·exact .inl ⟨k,h,q⟩
  ·exact .inr ⟨d,c,q⟩
 |ne=>
  refine⟨_,op_ne.or (xk p),(sr_ne.or xG).imp λx y Q a=>?_⟩;obtain⟨k,h,q⟩:=a;obtain⟨f,e,h⟩:=bnd h;cases h;rcases l5 e with h|⟨d,c,rfl⟩
  ·exact .inl ⟨f,h,q⟩
  ·exact .inr ⟨d,c,q⟩
 |inn=>refine⟨_,nv,(vz ).imp λx y Q a=>?_⟩;obtain⟨k,h,q⟩:=a;obtain⟨m,d,c,l⟩:=l6 h;exact⟨m,k,d,c,l,q⟩
 |nin=>refine⟨_,iD,(vz ).imp λx y Q a=>?_⟩;obtain⟨k,h,q⟩:=a;obtain⟨f,e,h⟩:=bnd h;cases h;obtain⟨m,d,c,l⟩:=l6 e;exact⟨m,f,d,c,l,q⟩
end
section
variable{X:Cx}{C:Ct}{a b c e:Expr}{es:List Expr}{ma mb mc:E}{mes:Es}{pos:Pos}
theorem AL(l:PDe X a (aw C ma))(i:PDe X b (aw C mb)):PDe X (.BinOp a (opOf o) b pos) (aw C (.bop o ma mb)):=by obtain⟨y,j,s⟩:=AK o;refine(Ag j s l i).imp λw Q k=>?_;obtain⟨x,h,q⟩:=k;obtain⟨f,p,v,m,d,r,g,t,n,u,h⟩:=bn5 h;cases h;exact⟨f,r,p,g,v,m,t,n,d,u,q⟩
theorem AM(r:X.A.units+64<cLine)(v:behindInMarks (coOf o) b=false)(l:PDe X a (aw C ma))(i:PDe X b (aw C mb)):PDe X (.Compare a [coOf o] [b] pos) (aw C (.cmp o ma mb)):=by obtain⟨B,j,t⟩:=ib r o;refine(xE j t v l i).imp λz Q k=>?_;obtain⟨x,h,q⟩:=k;obtain⟨f,p,y,m,d,s,g,u,n,w,h⟩:=bn5 h;cases h;exact⟨f,s,p,g,y,m,u,n,d,w,q⟩
theorem AN(s:X.A.units+64<cLine)(w:behindInMarks (coOf o) b=false)(m:PDe X a (aw C ma))(j:PDe X b (aw C mb)):PDt X (.Compare a [coOf o] [b] pos) (fG C (.cmp o ma mb)):=by obtain⟨G,k,u⟩:=ib s o;refine(tK k u w m j).imp λD Q l=>?_;obtain⟨x,h,q⟩:=l;obtain⟨y,h,f⟩:=bnd h;obtain⟨g,r,B,n,d,t,i,v,p,z,h⟩:=bn5 h;cases h;cases f;exact⟨g,t,r,i,B,n,v,p,d,z,d,rfl,q⟩
theorem yj(i:X.A.units+64<cLine)(M:lastMarks [coOf o,coOf o'] [b,c]=false)(w:PDe X a (aw C ma))(p:PDe X b (aw C mb))(t:PDe X c (aw C mc)):PDe X (.Compare a [coOf o,coOf o'] [b,c] pos) (aw C (.cmp2 o o' ma mb mc)):=by
 obtain⟨U,s,J⟩:=ib i o;obtain⟨z,g,d⟩:=ib i o';refine(pU s J g d M w p t).imp λT Q v=>?_;obtain⟨x,h,q⟩:=v;obtain⟨j,G,S,y,k,H,l,L,B,O,h⟩:=bn5 h;refine⟨j,H,G,l,S,y,L,B,k,O,k,rfl,?_⟩;cases k with
 |false=>rw[if_neg aab]at h;cases h;rw[if_neg aab];exact q
 |true=>rw[if_pos rfl]at h ⊢;obtain⟨m,f,n,r,N,I,u,D,h⟩:=bn4 h;cases h;exact⟨m,N,f,n,I,u,r,D,q⟩
end
end
section
def isStar:Expr->Bool
 |.Starred _ _=>true
 |_=>false
theorem au(h:isStar e=false):starEach (e::es) env=(false,eval e env)::starEach es env:=by cases e<;>first|rfl|cases h
theorem bJ:∀{es:List Expr},es.any isStar=false->(backTo pos (starEach es env)).any (·.1)=false
 |[],_=>rfl
 |e::es,h=>by rw[aaU,acr]at h;rw[au h.1];show (false||(backTo pos (starEach es env)).any (·.1))=false;rw[bJ h.2];rfl
def plainT:Expr->Bool
 |.UnaryOp .Not _ _=>false
 |.BoolOp _ _ _=>false
 |.IfExp _ _ _ _=>false
 |.Compare _ _ _ _=>false
 |_=>true
theorem plainT_ok(h:plainT e=true):∀a,isTrue e env a=(do let v <-a;standAt e.pos;holding [v] (truthy v)):=by
 intro a;cases e with
 |UnaryOp b x p=>cases b<;>first|rfl|cases h
 |_=>first|rfl|cases h
section
variable{X:Cx}{C:Ct}{a b c e:Expr}{es:List Expr}{ma mb mc:E}{mes:Es}{pos p:Pos}{x:Str}{i:Nat}
theorem AO:ev C (.nm i) ρ=(match ρ[i]?.join with|some (.fz d)=>some (.val (.fz d),ρ)|some _=>some (.rf i,ρ)|none=>none):=rfl
theorem Ec(j:X.N[i]?=some x) (l:Vis X.env.scope x) (k:(x==("__debug__":Str))=false) (d:(x==("__classdict__":Str))=false):PDe X (.Name x pos) (aw C (.nm i)):=by
 refine(xD j l k d).imp λf Q g=>?_;obtain⟨y,h,q⟩:=g;unfold dVar;rw[AO]at h;cases e:f[i]?.join with
 |none=>rw[e]at h;cases h
 |some z=>rw[e]at h;cases z<;>(simp only at h;cases h;exact q)
theorem vG{j pos}:PDe X (.Constant (.int k) j pos) (aw C (.int k)):=pd_int.imp λd Q ⟨y,h,q⟩=>by cases h;exact q
theorem AQ{j pos}:PDe X (.Constant (.str k) j pos) (aw C (.str k)):=pd_str.imp λd Q ⟨y,h,q⟩=>by cases h;exact q
theorem Ed{j pos}:PDe X (.Constant (.bool k) j pos) (aw C (.bl k)):=pd_bl.imp λd Q ⟨y,h,q⟩=>by cases h;exact q
theorem AR{j pos}:PDe X (.Constant .none j pos) (aw C .non):=pd_non.imp λd Q ⟨y,h,q⟩=>by cases h;exact q
theorem Ee(f:Gl X x) (d:X.mg x=some u) (r:RelV v u) (s:∀S H,Fz X.K S H v (C.gv g)) (j:(x==("__debug__":Str))=false):PDe X (.Name x pos) (aw C (.gc g)):=
 (pS f d r s j).imp λk Q ⟨y,h,q⟩=>by cases h;exact q
theorem AS{j g}(l:PDe X a (aw C ma)):PDe X (.Compare a [if neg then .IsNot else .Is] [.Constant .none j g] pos) (aw C (.isn neg ma)):=by
 have f:∀k Q,aw C (.isn neg ma) k Q->nX neg (aw C ma) k Q:=λk Q ⟨y,h,q⟩=>by obtain⟨m,d,o,n,h⟩:=bn2 h;cases h;exact⟨m,o,d,n,q⟩
 cases neg with
 |false=>exact(xI l).imp f
 |true=>exact(tJ l).imp f
theorem AU{j g}(l:PDe X a (aw C ma)):PDt X (.Compare a [if neg then .IsNot else .Is] [.Constant .none j g] pos) (fG C (.isn neg ma)):=by
 have f:∀k Q,fG C (.isn neg ma) k Q->fb (nX neg (aw C ma)) k Q:=λk Q ⟨y,h,q⟩=>by obtain⟨z,h,m⟩:=bnd h;obtain⟨n,d,r,o,h⟩:=bn2 h;cases h;cases m;exact⟨n,r,d,o,_,rfl,q⟩
 cases neg with
 |false=>exact(tL l).imp f
 |true=>exact(pW l).imp f
theorem v_and(l:PDe X a (aw C ma))(m:PDe X (.BoolOp .And (b::es) pos) (aw C mb)):PDe X (.BoolOp .And (a::b::es) pos) (aw C (.and ma mb)):=by
 refine(xK l m).imp λr Q j=>?_;obtain⟨y,h,q⟩:=j;obtain⟨g,d,k,n,f,o,h⟩:=bn3 h;rw[kU o]at f;refine⟨g,n,k,f,?_⟩;cases k with
 |false=>rw[if_neg aab]at h ⊢;cases h;exact q
 |true=>rw[if_pos rfl]at h ⊢;exact⟨y,h,q⟩
theorem v_or(l:PDe X a (aw C ma))(m:PDe X (.BoolOp .Or (b::es) pos) (aw C mb)):PDe X (.BoolOp .Or (a::b::es) pos) (aw C (.or ma mb)):=by
 refine(Ak l m).imp λr Q j=>?_;obtain⟨y,h,q⟩:=j;obtain⟨g,d,k,n,f,o,h⟩:=bn3 h;rw[kU o]at f;refine⟨g,n,k,f,?_⟩;cases k with
 |false=>rw[if_neg aab]at h ⊢;exact⟨y,h,q⟩
 |true=>rw[if_pos rfl]at h ⊢;cases h;exact q
theorem v_not(j:PDe X a (aw C ma)):PDe X (.UnaryOp .Not a pos) (aw C (.not ma)):=by refine(xM j).imp λo Q g=>?_;obtain⟨y,h,q⟩:=g;obtain⟨f,d,k,m,l,n,h⟩:=bn3 h;cases h;exact⟨f,m,k,by rw[l,kU n],q⟩
theorem AV(j:PDe X a (aw C ma)):PDe X (.UnaryOp .USub a pos) (aw C (.neg ma)):=by refine(xJ j).imp λo Q g=>?_;obtain⟨y,h,q⟩:=g;obtain⟨f,d,k,m,l,n,h⟩:=bn3 h;cases h;exact⟨f,m,d,l,k,aH n,q⟩
theorem AW(g:PDt X a (fG C ma))(j:PDw X (.BoolOp .And (b::es) pos) (fG C mb)):PDw X (.BoolOp .And (a::b::es) pos) (fG C (.and ma mb)):=by
 refine(tN g j).imp λm Q f=>?_;obtain⟨y,h,q⟩:=f;obtain⟨d,l,h⟩:=bnd h;refine⟨d,l,?_⟩;split at h
 ·rename_i k;rw[if_pos k];exact⟨y,h,q⟩
 ·rename_i k;rw[if_neg k];cases h;exact q
theorem Ef(g:PDt X a (fG C ma))(j:PDw X (.BoolOp .Or (b::es) pos) (fG C mb)):PDw X (.BoolOp .Or (a::b::es) pos) (fG C (.or ma mb)):=by
 refine(xN g j).imp λm Q f=>?_;obtain⟨y,h,q⟩:=f;obtain⟨d,l,h⟩:=bnd h;refine⟨d,l,?_⟩;split at h
 ·rename_i k;rw[if_pos k];cases h;exact q
 ·rename_i k;rw[if_neg k];exact⟨y,h,q⟩
theorem AX(g:PDt X a (fG C ma)):PDt X (.UnaryOp .Not a pos) (fG C (.not ma)):=by refine(tO g).imp λk Q f=>?_;obtain⟨y,h,q⟩:=f;obtain⟨d,j,h⟩:=bnd h;cases h;exact⟨d,j,q⟩
theorem AY(m:PDt X c (fG C mc))(g:PDe X a (aw C ma))(j:PDe X b (aw C mb)):PDe X (.IfExp c a b pos) (aw C (.ife mc ma mb)):=by
 refine(Ao m g j).imp λn Q f=>?_;obtain⟨y,h,q⟩:=f;obtain⟨d,l,h⟩:=bnd h;refine⟨d,l,?_⟩;split at h
 ·rename_i k;rw[if_pos k];exact⟨y,h,q⟩
 ·rename_i k;rw[if_neg k];exact⟨y,h,q⟩
theorem uf(h:Dt X.K H v d)(e:qC d=some k):wR X.K v H k:=by
 cases h with
 |non=>cases e;rfl
 |bl b=>cases e;rfl
 |int i=>cases e;rfl
 |str x=>simp[qC]at e
 |lst s t=>cases e;exact .inl ⟨_,s,by rw[DtAll.emp t]⟩
 |tup s t=>cases e;exact .inr (.inl ⟨_,s,by rw[DtAll.emp t]⟩)
theorem AZ(B:bw C m=(vt (ev C m)).2)(D:plainT e=true):PDe X e (aw C m)->PDt X e (fG C m)
 |⟨te,g,s1⟩=>⟨_,pf g (plainT_ok D),λb F σ H ρ τ θ I Q j R ⟨y,h,q⟩ k=>by
  have h':((ev C m ρ).bind λx=>(aq x.2 x.1).bind λd=>(qC d).bind λk=>some (k,x.2))=some y:=by rw[<-h,B];rfl
  obtain⟨z,d,t,w,o,A,h'⟩:=bn3 h';cases h';refine s1 b F σ H ρ τ θ (λr f=>r=z.1/\f=z.2) _ j R ⟨z,w,rfl,rfl⟩ λv G r f n u=>?_;obtain⟨g,s⟩:=u;subst g s;have l:=n.dt o;rw[j]at l;exact⟨t,uf l A,k _ _ _ n.drop q⟩⟩
theorem dm:PDa X [] (gU C .nil):=pda_nil.imp λd Q ⟨y,h,q⟩=>by cases h;exact q
theorem bc(m:isStar e=false)(g:PDe X e (aw C ma))(k:PDa X es (gU C mes)):PDa X (e::es) (gU C (.cons ma mes)):=by refine(pY (au m) g k).imp λo Q f=>?_;obtain⟨y,h,q⟩:=f;obtain⟨d,n,l,j,h⟩:=bn2 h;cases h;exact⟨d,l,n,j,q⟩
theorem A6{d}(j:PDa X es (gU C mes)):PDe X (.Tuple es d pos) (aw C (.tup mes)):=by refine(xO Aq j).imp λn Q g=>?_;obtain⟨y,h,q⟩:=g;obtain⟨f,z,_,m,l,k,h⟩:=bn3 h;cases h;exact⟨f,m,z.1,z.2,l,gd_ok k,q⟩
theorem A7(g:PDa X es (gU C mes)):PDe X (.List es pos) (aw C (.lst mes)):=by refine(xP Aq g).imp λm Q f=>?_;obtain⟨y,h,q⟩:=f;obtain⟨d,z,_,l,j,k,h⟩:=bn3 h;cases h;exact⟨d,l,z.1,z.2,j,gd_ok k,q⟩
def bz:Expr->Bool
 |.Slice _ _ _ _=>true
 |_=>false
theorem l7(h:bz b=false):PlainIx b:=λo i=>by cases b<;>first|rfl|cases h
theorem Eg(s:bz b=false)(m:PDe X a (aw C ma))(j:PDe X b (aw C mb)):PDe X (.Subscript a b pos) (aw C (.ix ma mb)):=by refine(Ar (l7 s) m j).imp λv Q l=>?_;obtain⟨y,h,q⟩:=l;obtain⟨f,o,d,k,z,r,g,t,u,n,h⟩:=bn5 h;cases h;exact⟨f,r,o,g,k,z.1,z.2,by rw[t,aH u],n,q⟩
theorem ug:PDo X none (kY C .none):=pdo_none.imp λd Q ⟨y,h,q⟩=>by cases h;exact q
theorem uh(j:PDe X e (aw C ma)):PDo X (some e) (kY C (.some ma)):=by refine(qe j).imp λo Q g=>?_;obtain⟨y,h,q⟩:=g;obtain⟨f,d,k,m,l,n,h⟩:=bn3 h;cases h;exact⟨f,m,k,by rw[l,aH n],q⟩
theorem A8{lo hi:Option Expr}(m:PDe X e (aw C ma))(g:PDo X lo (kY C ml))(j:PDo X hi (kY C mh)):PDe X (.Subscript e (.Slice lo hi none p2) pos) (aw C (.sll ma ml mh)):=by refine(xT m g j).imp λt Q k=>?_;obtain⟨y,h,q⟩:=k;obtain⟨d,l,u,o,r,f,s,n,h⟩:=bn4 h;cases h;exact⟨d,r,l,f,u,s,o,n,q⟩
theorem A9{lo hi:Option Expr}(n:PDe X e (aw C ma))(g:PDo X lo (kY C ml))(j:PDo X hi (kY C mh)):PDe X (.Subscript e (.Slice lo hi none p2) pos) (aw C (.slt ma ml mh)):=by refine(xU n g j).imp λv Q m=>?_;obtain⟨y,h,q⟩:=m;obtain⟨d,l,u,r,_,s,f,t,o,k,h⟩:=bn5 h;cases h;exact⟨d,s,l,f,u,t,r,o,gd_ok k,q⟩
theorem Ba(j:PDe X a (aw C ma))(n:PDe X b (aw C mb)):PDe X (.BinOp a .Add b pos) (aw C (.cat ma mb)):=by refine(xS j n).imp λu Q g=>?_;obtain⟨y,h,q⟩:=g;obtain⟨d,t,r,m,_,o,l,f,s,k,h⟩:=bn5 h;cases h;exact⟨d,o,t,l,r,m,f,s,gd_ok k,q⟩
theorem yk(j:PDe X a (aw C ma))(n:PDe X b (aw C mb)):PDe X (.BinOp a .Add b pos) (aw C (.catT ma mb)):=by refine(tP j n).imp λu Q g=>?_;obtain⟨y,h,q⟩:=g;obtain⟨d,t,r,m,_,o,l,f,s,k,h⟩:=bn5 h;cases h;have k:=gd_ok k;exact⟨d,o,t,l,r,m,f,s,k.1,k.2.1,k.2.2,q⟩
theorem Bb(g:PDe X a (aw C ma)):PDe X a (aw C (.frz ma)):=by obtain⟨A,h,s⟩:=g;refine⟨A,h,λb F m H o D G I Q u R ⟨y,h,q⟩ k=>?_⟩;obtain⟨f,z,w,j,h⟩:=bn2 h;cases h;refine s b F m H o D G (λr d=>r=f.1/\d=f.2) _ u R ⟨f,w,rfl,rfl⟩ λv n r d B t=>?_;obtain⟨g,l⟩:=t;subst g l;exact k v n _ _ (B.frz1 j) q
theorem yl(G:FnD X.prog X.w X.K X.mg X.base k fa fd ps (λxs Q=>∃w,C.call f xs=some w/\Q w.1 w.2)) (s:Room k X.A) (o:Gl X x) (v:X.mg x=some (.ref fa)) (hk:PySem.W.keepIn X.K (.ref fa)=true) (u:Binds X.K fd ps []) (g:(x==("__debug__":Str))=false)
  (B:isStar e=false) (d:es.any isStar=false) (n:PDa X (e::es) (gU C mes)):PDe X (.Call (.Name x p) (e::es) [] pos) (aw C (.call f mes)):=by
 refine(uc (ios:=C.io f) G s o v hk u g (au B) (bJ d) n).imp λD Q m=>?_;obtain⟨y,h,q⟩:=m;obtain⟨j,z,w,r,l,t,h⟩:=bn3 h;cases h;exact⟨j,r,z.1,z.2,l,w,t,q⟩
end
end
end L2
namespace PySem
open PySem.Spec
section
variable{prog:Program}{w:World}{A:Around}{E:Value->Shared->Prop}{s:Shared}
abbrev stN(led:Bool):Obj:={ cls:=.type "set",dict:=none,data:=.set #[] 0 (.fresh 0 0 led) }
set_option maxHeartbeats 3200000 in
end
end PySem
namespace L2
open PySem PySem.Spec PyProof.Rows
section
section
variable{X:Cx}{K:Waa}
theorem ic:bootBuiltins "sorted"=some (.builtin "sorted"):=by decide +kernel
def Gb:DRn:=λc Q=>∃a b,c=[.list a]/\allB a=some b/\Q (.bool (b.any id))
theorem ints_vals:∀{ns:List Int}{us:List Value},Vals (ns.map V.int) us->IntsAre us ns
 |[],_,r=>by rw[aaQ]at r;cases r;exact .nil
 |n::ns,_,r=>by
  rw[aan]at r;cases r with
  |cons a b=>obtain⟨t,rfl⟩:=a;exact .cons n t (ints_vals b)
def ui(K:Waa):List V->Hp->VK->Prop:=λd H Q=>∃(p:Addr) (c:List Int),d=[.ref p]/\SqL K H p (c.map V.int)/\c.length<64/\∀(b:List Int) (a:Addr),b.Perm c->b.Pairwise (·<=·)->H a=none->Q (.ref a) (upd H a (.lst (b.map V.int)))
theorem jR:CallR X (.builtin "sorted") (ui X.K):=by
 intro j s A H B G Q I r h;obtain⟨p,w,rfl,z,C,q⟩:=h;obtain⟨u,rfl,l⟩:=vals1 r;cases l;obtain⟨d,k,t,D⟩:=I.list z;have x:=ints_vals k;have g:d.length=w.length:=by have:=k.length;rw[aag]at this;exact this.symm
 refine sorted_ints t.isList x (by omega) λf c n i m=>?_;obtain⟨e,y⟩:=sortedAll_at s.heap d f;have J:64<=sizeLine:=by decide
 refine⟨.ref _,_,I.laid (t':=s.toks) (a:=s.heap.objs.size+1) (o:=.lst (c.map V.int)) (λb u v=>sortedAll_old v) (abi _) ⟨?_,f.toList,e,vals_ints n,y⟩,rfl,q c _ i m (I.hok.fresh (abi _))⟩;rw[aag,i.length_eq];omega
theorem ym:bootBuiltins "set"=some (.type "set"):=by decide +kernel
end
def Fg(T:String):PyData->Bool
 |.bool _=>T == "bool" || T == "int"
 |.int _=>T == "int"
 |.str _=>T == "str"
 |.list _=>T == "list"
 |.tuple _=>T == "tuple"
 |_=>false
inductive KindT:String->Prop
 |int:KindT "int" |bool:KindT "bool" |str:KindT "str" |list:KindT "list" |tuple:KindT "tuple"
theorem Dt.kind{K:Waa}{H:Hp}{v:V}{d:PyData}{T:String}(h:Dt K H v d)(k:KindT T):∃n,Ty K H v n/\PySem.W.kitOne K (.type n) (.type T)=some (Fg T d):=by
 cases h with
 |non=>exact⟨_,.non,by cases k<;>first|exact kit_ni K|exact kit_nb K|exact kit_ns K|exact kit_nl K|exact kit_nt K⟩
 |bl b=>exact⟨_,.bl b,by cases k<;>first|exact kit_bi K|exact kit_same K _|exact kit_bs K|exact kit_bl K|exact kit_bt K⟩
 |int i=>exact⟨_,.int i,by cases k<;>first|exact kit_same K _|exact kit_ib K|exact kit_is K|exact kit_il K|exact kit_it K⟩
 |str x=>exact⟨_,.str x,by cases k<;>first|exact kit_same K _|exact kit_si K|exact kit_sb K|exact kit_sl K|exact kit_st K⟩
 |lst s t=>exact⟨_,.lst s,by cases k<;>first|exact kit_same K _|exact kit_li K|exact kit_lb K|exact kit_ls K|exact kit_lt K⟩
 |tup s t=>exact⟨_,.tup s,by cases k<;>first|exact kit_same K _|exact kit_ti K|exact kit_tb K|exact kit_ts K|exact kit_tl K⟩
theorem l8{b c:Type}{us:List b}{ds:List c}(a:us.length=ds.length):∀(k:Nat),∀z∈(List.replicate k us).flatten.zip (List.replicate k ds).flatten,z∈us.zip ds
 |0,z,h=>by simp at h
 |k+1,z,h=>by rw[aaK,aaK,aa9,aa9,List.zip_append a]at h;exact(aaj.mp h).elim id (l8 a k z)
def Gc(f:Bl):DRn:=λa Q=>∃d,zf f a=some d/\Q d
theorem SndCB.imp{K:Waa}{a:List V->Hp->VK->Prop}{r b:DRn}(h:SndCB K a r)(f:∀ds Q,b ds Q->r ds Q):SndCB K a b:=λH e ds d Q c z q=>h H e ds d Q c (f _ _ z) q
theorem DtAll.ints'{K:Waa}{H:Hp}{vs:List V}{ns:List Int}(h:DtAll K H vs (ns.map PyData.int)):vs=ns.map V.int:=by
 induction ns generalizing vs with
 |nil=>cases h;rfl
 |cons n ns a=>cases h with|cons r t=>cases r;rw[aan,a t]
section
variable{X:Cx}{K:Waa}
theorem dInts_map:∀{ds:List PyData}{ns:List Int},gk ds=some ns->ds=ns.map PyData.int
 |[],_,h=>by cases h;rfl
 |d::ds,ns,h=>by obtain⟨i,r,b,a,h⟩:=bn2 h;cases h;rw[aH b,dInts_map a,aan]
end
def yn:Bl->Str
 |.len=>"len" |.abs=>"abs" |.max=>"max" |.min=>"min" |.int=>"int" |.all=>"all"
def Eh(x:Str):Bool:=decide (x≠"__name__")&&!(x==("__debug__":Str))
section
variable{X:Cx}{C:Ct}{a b c e:Expr}{es:List Expr}{ma mb mc:E}{mes:Es}{pos p p1 p2 p3:Pos}{x:Str}{i:Nat}
theorem Bc{f:Bl}(B:X.calm=true)(s:Gl X (yn f))(t:X.mg (yn f)=none)(u:isStar e=false)(g:es.any isStar=false)(r:PDa X (e::es) (gU C mes)):PDe X (.Call (.Name (yn f) p) (e::es) [] pos) (aw C (.blt f mes)):=by
 have A:PDe X (.Call (.Name (yn f) p) (e::es) [] pos) (Cq (Gc f) (gU C mes))->PDe X (.Call (.Name (yn f) p) (e::es) [] pos) (aw C (.blt f mes)):=λh=>h.imp λI Q ⟨y,h,q⟩=>by obtain⟨D,o,d,k,v,H,h⟩:=bn3 h;cases h;exact⟨D,k,o,v,d,H,q⟩
 refine A ?_;cases f with
 |len=>refine cE pj (sc_len.imp λo Q m=>?_) s t xl (by decide) (by decide) (au u) (bJ g) r;obtain⟨d,h,q⟩:=m;obtain⟨z,n,l,k,h⟩:=bn2 h;cases h;exact⟨z,n,one1_ok l,k,q⟩
 |abs=>refine cE ph (sc_abs.imp λo Q m=>?_) s t xm (by decide) (by decide) (au u) (bJ g) r;obtain⟨d,h,q⟩:=m;obtain⟨z,i,l,k,h⟩:=bn2 h;cases h;exact⟨i,by rw[one1_ok l,aH k],q⟩
 |max=>refine cE (nj B) (sc_max.imp λo Q m=>?_) s t xn (by decide) (by decide) (au u) (bJ g) r;obtain⟨d,h,q⟩:=m;obtain⟨z,i,j,l,k,v,h⟩:=bn3 h;cases h;exact⟨i,j,by rw[two2_ok l,aH k,aH v],q⟩
 |min=>refine cE (nk B) (sc_min.imp λo Q m=>?_) s t xo (by decide) (by decide) (au u) (bJ g) r;obtain⟨d,h,q⟩:=m;obtain⟨z,i,j,l,k,v,h⟩:=bn3 h;cases h;exact⟨i,j,by rw[two2_ok l,aH k,aH v],q⟩
 |int=>refine qb nq (sc_int.imp λo Q m=>?_) s t pJ (by decide) (by decide) (au u) (bJ g) r;obtain⟨d,h,q⟩:=m;obtain⟨z,n,l,k,h⟩:=bn2 h;cases h;exact⟨z,n,one1_ok l,k,q⟩
 |all=>refine cE (pH B) (sc_all.imp λo Q m=>?_) s t xp (by decide) (by decide) (au u) (bJ g) r;obtain⟨d,h,q⟩:=m;obtain⟨w,z,n,l,G,k,h⟩:=bn3 h;cases h;exact⟨z,n,by rw[one1_ok l,iU G],k,q⟩
theorem uj(j:Gl X "tuple") (g:X.mg "tuple"=none) (f:isStar e=false) (l:PDe X e (aw C ma)):PDe X (.Call (.Name "tuple" p) [e] [] pos) (aw C (.bnw .tuple ma)):=by refine(qc j g fS (by decide) (by decide) (au f) rfl (bc f l dm)).imp λr Q k=>?_;obtain⟨y,h,q⟩:=k;obtain⟨d,o,n,m,h⟩:=bn2 h;cases h;exact⟨([d.1],d.2),by simp only[evs,n];rfl,d.1,o,rfl,m,q⟩
theorem insI_perm(i:Int):∀l,(insI i l).Perm (i::l)
 |[]=>.refl _
 |j::r=>by
  unfold insI;split
  ·exact .refl _
  ·exact((insI_perm i r).cons j).trans (List.Perm.swap _ _ _)
theorem jS(i:Int):∀{l:List Int},l.Pairwise (·<=·)->(insI i l).Pairwise (·<=·)
 |[],_=>by simp[insI]
 |j::r,h=>by
  obtain⟨g,m⟩:=abe.mp h;unfold insI;split
  ·rename_i f;exact abe.mpr ⟨λk d=>(aaa.mp d).elim (λe=>e▸f) λd=>abM f (g k d),h⟩
  ·rename_i f;refine abe.mpr ⟨λk d=>?_,jS i m⟩;rcases aaa.mp ((insI_perm i r).mem_iff.mp d) with rfl|d
   ·omega
   ·exact g k d
theorem sortI_perm:∀l,(sortI l).Perm l
 |[]=>.refl _
 |i::r=>(insI_perm i _).trans ((sortI_perm r).cons i)
theorem eM:∀l,(sortI l).Pairwise (·<=·)
 |[]=>.nil
 |i::r=>jS i (eM r)
theorem gm:∀{l d:List Int},l.Perm d->l.Pairwise (·<=·)->d.Pairwise (·<=·)->l=d
 |[],d,p,_,_=>by have:=p.length_eq;cases d with|nil=>rfl|cons _ _=>simp at this
 |a::l,[],p,_,_=>by have:=p.length_eq;simp at this
 |a::l,b::d,p,h,h'=>by
  obtain⟨m,n⟩:=abe.mp h;obtain⟨j,k⟩:=abe.mp h';have e:a=b:=by
   have f:a∈b::d:=p.mem_iff.mp aal;have g:b∈a::l:=p.mem_iff.mpr aal;rcases aaa.mp f with e|f
   ·exact e
   ·rcases aaa.mp g with e|g
    ·exact e.symm
    ·have:=m b g;have:=j a f;omega
  subst e;rw[gm (List.Perm.cons_inv p) n k]
theorem qF(T:Gl X "sorted") (Z:X.mg "sorted"=none) (B:isStar e=false) (n:PDe X e (aw C ma)):PDe X (.Call (.Name "sorted" p) [e] [] pos) (aw C (.bnw .sorted ma)):=by
 obtain⟨te,h,s⟩:=n;refine⟨_,cz jR T Z ic (aQ h bC (au B)) (by decide) (by decide) (au B) rfl,λb F I H L τ θ Qd Q z R ⟨y,h,q⟩ k=>?_⟩;obtain⟨j,d,ds,f,_,U,t,N,Y,m,h⟩:=bn5 h;cases h;have m:=gd_ok m;rw[iU N]at t;refine s b F I H L τ θ (λr g=>r=j.1/\g=j.2) _ z R ⟨j,U,rfl,rfl⟩ λv H' r g o M=>?_;obtain⟨n,G⟩:=M;subst n G;have D:=dInts_map Y;subst D;have A:=o.dt t;rw[z]at A;cases A with
 |lst u O=>rw[DtAll.ints' O]at u;refine⟨_,f,rfl,u,m,λl a p1 p2 J=>?_⟩;have:l=sortI f:=gm (p1.trans (sortI_perm f).symm) p2 (eM f);subst this;refine k _ _ _ _ (o.drop.push ?_) q;have w:=o.drop.wd.adds (vs:=(sortI f).map V.int) (ds:=(sortI f).map PyData.int) λS _=>FzA.ints _;have:=Wd.eg w (by simp) J;rw[aa5]at this;exact this
theorem gn{k:Knd}{T:String} (g:match k with|.int=>T="int" |.bool=>T="bool" |.str=>T="str" |.list=>T="list" |.tuple=>T="tuple" |.seq=>False) (hy:PE X b (tC (.ty T))) (U:Gl X "isinstance") (Z:X.mg "isinstance"=none) (A:isStar a=false) (B:isStar b=false)
  (o:PDe X a (aw C ma)):PDe X (.Call (.Name "isinstance" p) [a,b] [] pos) (aw C (.isi k ma)):=by
 obtain⟨te,h,s⟩:=o;refine⟨_,cz (pI T) U Z cY (aQ h (aQ hy bC (au B)) (au A)) (by decide) (by decide) (au A) (bJ (by simp[B])),λb F L H M τ θ Qd Q u R ⟨y,h,q⟩ S=>?_⟩;obtain⟨l,d,Y,G,h⟩:=bn2 h;cases h;refine s b F L H M τ θ (λr j=>r=l.1/\j=l.2) _ u R ⟨l,Y,rfl,rfl⟩ λv m r j D O=>?_;obtain⟨o,J⟩:=O;subst o J;have z:=D.dt G;rw[u]at z;have f:∀(t:KindT T),Fg T d=sr k d->∃x n b,[v,V.ty T]=[x,V.ty T]/\Ty X.K m x n/\PySem.W.kitOne X.K (.type n) (.type T)=some b/\Q (.bl b) m:=λt I=>by obtain⟨n,N,w⟩:=z.kind t;rw[I]at w;exact⟨v,n,_,rfl,N,w,S _ m _ _ (D.drop.sc (.bl _)) q⟩
 cases k with
 |int=>subst g;exact f .int (by cases d<;>rfl)
 |bool=>subst g;exact f .bool (by cases d<;>rfl)
 |str=>subst g;exact f .str (by cases d<;>rfl)
 |list=>subst g;exact f .list (by cases d<;>rfl)
 |tuple=>subst g;exact f .tuple (by cases d<;>rfl)
 |seq=>exact g.elim
theorem Dt.kind2{K:Waa}{H:Hp}{v:V}{d:PyData}(h:Dt K H v d):∃n,Ty K H v n/\PySem.W.kitAny K (.type n) [.type "list",.type "tuple"]=some (sr .seq d):=by
 cases h with
 |non=>exact⟨_,.non,cR K (kit_nl K) (kit_nt K)⟩
 |bl b=>exact⟨_,.bl b,cR K (kit_bl K) (kit_bt K)⟩
 |int i=>exact⟨_,.int i,cR K (kit_il K) (kit_it K)⟩
 |str x=>exact⟨_,.str x,cR K (kit_sl K) (kit_st K)⟩
 |lst s t=>exact⟨_,.lst s,fR K (.inl (kit_same K _))⟩
 |tup s t=>exact⟨_,.tup s,fR K (.inr ⟨kit_tl K,kit_same K _⟩)⟩
theorem yo{N} (hy:PE X b (tC (.ty "list"))) (hz:PE X c (tC (.ty "tuple"))) (U:Gl X "isinstance") (hm:X.mg "isinstance"=none) (z:isStar a=false) (Z:isStar b=false) (hc:isStar c=false)
  (k:PDe X a (aw C ma)):PDe X (.Call (.Name "isinstance" p) [a,.Tuple [b,c] N p1] [] pos) (aw C (.isi .seq ma)):=by
 obtain⟨te,h,s⟩:=k;refine⟨_,cz (nK "list" "tuple") U hm cY (aQ h (aQ (pk (aQ hy (aQ hz bC (au hc)) (au Z))) bC (au rfl)) (au z)) (by decide) (by decide) (au z) (bJ rfl),λb F o H O B D Qd Q t R ⟨y,h,q⟩ T=>?_⟩;obtain⟨f,d,Y,G,h⟩:=bn2 h;cases h;refine s b F o H O B D (λr g=>r=f.1/\g=f.2) _ t R ⟨f,Y,rfl,rfl⟩ λv L r g j S=>?_;obtain⟨k,J⟩:=S;subst k J;refine⟨by show 2<=sizeLine;decide,λu M=>?_⟩;have A:Rel b F o (upd L u (.tup [.ty "list",.ty "tuple"])) f.2 (v::B) (f.1::D):=⟨j.wf,j.al,j.wff,j.wd.new M⟩
 have w:=A.dt G;rw[t]at w;obtain⟨n,l,I⟩:=w.kind2;have m:=T (.bl (sr .seq d)) _ (.val (.fz (.bool (sr .seq d)))) _ (A.drop.sc (.bl _)) q;exact⟨v,_,_,u,rfl,av,l,I,m⟩
end
end
section
def gW(t:Tg):DG:=λx b Q=>∃a,bH t x b=some a/\Q a
structure Sto (X:Cx)(W:Nat->Prop)(m:Nat)(i:Nat)(x:Str):Prop where
 hN:X.N[i]?=some x
 loc:Loc X.env.scope x
 fn:X.fn x=true\/X.env.scope.names.lookup x=some .local
 lt:i<m
 nw:¬ W i
section
variable{X:Cx}{W:Nat->Prop}{m:Nat}{C:Ct}{a b c e:Expr}{es:List Expr}{ma mb mc:E}{mes:Es}{pos p p1 p2 p3:Pos}{x:Str}{i:Nat}
theorem PDg.imp:PDg X W m e d->(∀x ρ Q,d' x ρ Q->d x ρ Q)->PDg X W m e d'
 |⟨te,h,s⟩,f=>⟨te,h,λb F σ H ρ τ θ v x g Q k n R j q=>s b F σ H ρ τ θ v x g Q k n R (f _ _ _ j) q⟩
theorem PDgs.imp:PDgs X W m es d->(∀x ρ Q,d' x ρ Q->d x ρ Q)->PDgs X W m es d'
 |⟨te,h,s⟩,f=>⟨te,h,λb F σ H ρ τ θ v x j Q l n g R k q=>s b F σ H ρ τ θ v x j Q l n g R (f _ _ _ k) q⟩
theorem PDg.or:PDg X W m e d->PDg X W m e d'->PDg X W m e (λx ρ Q=>d x ρ Q\/d' x ρ Q)
 |⟨te,h,s⟩,⟨te',h',s'⟩=>⟨λv σ H Q=>te v σ H Q\/te' v σ H Q,λf s σ H v u Q I r z=>z.elim (h f s σ H v u Q I r) (h' f s σ H v u Q I r),λb F σ H ρ τ θ v x k Q j n R g q=>g.imp (λg=>s b F σ H ρ τ θ v x k Q j n R g q) λg=>s' b F σ H ρ τ θ v x k Q j n R g q⟩
theorem Ei(f:X.N.Nodup)(s:Sto X W m i x):PDg X W m (.Name x pos) (gW (.nm i)):=by refine(jH s.nw f s.hN s.loc s.lt s.fn).imp λy k Q d=>?_;obtain⟨g,h,q⟩:=d;obtain⟨_,j,h⟩:=bnd h;cases h;exact⟨gd_ok j,q⟩
inductive Stos (X:Cx)(W:Nat->Prop)(m:Nat):List Nat->List Expr->Prop
 |nil:Stos X W m [] []
 |cons {i is x pos es}:Sto X W m i x->Stos X W m is es->Stos X W m (i::is) (.Name x pos::es)
theorem kZ(g:X.N.Nodup):∀{ts:List Nat}{es:List Expr},Stos X W m ts es->PDgs X W m es (λxs ρ Q=>xs.length=ts.length/\(∀i∈ts,i<ρ.length)/\Q (cF ts xs ρ))
 |[],_,.nil=>pdgs_nil.imp λxs ρ Q ⟨d,f,q⟩=>by
   cases xs with
   |nil=>exact⟨rfl,q⟩
   |cons _ _=>simp at d
 |i::is,_,.cons s t=>(n6 rfl (jH s.nw g s.hN s.loc s.lt s.fn) (kZ g t)).imp λxs ρ Q ⟨d,f,q⟩=>by
   cases xs with
   |nil=>simp at d
   |cons z zs=>exact⟨z,zs,rfl,f i aal,by simpa using d,λj h=>by rw[abF];exact f j (aak _ h),q⟩
theorem dO(h:Stos X W m ts es):(assignEach es X.env).length=ts.length/\(assignEach es X.env).findIdx? (·.1)=none:=by
 induction h with
 |nil=>exact⟨rfl,rfl⟩
 |@cons i is x pos es s t ih=>have e:assignEach (.Name x pos::es) X.env=(false,assign (.Name x pos) X.env)::assignEach es X.env:=rfl;rw[e];refine⟨by simp[ih.1],?_⟩;rw[List.findIdx?_cons];simp[ih.2]
theorem qG(h:unpA y=some xs):unpT y=some xs\/unpL y=some xs:=by
 unfold unpA at h;cases d:unpT y with
 |some f=>rw[d]at h;exact .inl h
 |none=>rw[d]at h;exact .inr h
theorem Ej(j:X.calm=true)(l:X.N.Nodup)(h:Stos X W m ts es):PDg X W m (.Tuple es k pos) (gW (.tp ts)):=by
 refine((tT j (dO h).1 (dO h).2 (kZ l h)).or (tU j (dO h).1 (dO h).2 (kZ l h))).imp λy r Q n=>?_;obtain⟨o,h,q⟩:=n;obtain⟨g,_,f,d,h⟩:=bn2 h;cases h;have d:=gd_ok d;rcases qG f with f|f
 ·exact .inl ⟨g,f,d.1,d.1,d.2,q⟩
 ·exact .inr ⟨g,f,d.1,d.1,d.2,q⟩
theorem PI.or(h:PI X tg e t)(h':PI X tg e t'):PI X tg e (λσ H R=>t σ H R\/t' σ H R):=λd s σ H R I z=>z.elim (h d s σ H R I) (h' d s σ H R I)
theorem PDi.or:PDi X tg e d->PDi X tg e d'->PDi X tg e (λρ Q=>d ρ Q\/d' ρ Q)
 |⟨te,h,s⟩,⟨te',h',s'⟩=>⟨_,PI.or h h',λb F σ H ρ τ θ g Q j R f q=>f.imp (λf=>s b F σ H ρ τ θ g Q j R f q) λf=>s' b F σ H ρ τ θ g Q j R f q⟩
theorem yp(d:ev C ma ρ=some xa):evs C (.cons ma .nil) ρ=some ([xa.1],xa.2):=by show ((ev C ma ρ).bind _)=_;rw[d];rfl
theorem Bd(f:ev C ma ρ=some xa)(d:ev C mb xa.2=some xb):evs C (.cons ma (.cons mb .nil)) ρ=some ([xa.1,xb.1],xb.2):=by show ((ev C ma ρ).bind _)=_;rw[f];show ((evs C (.cons mb .nil) xa.2).bind _)=_;rw[yp d];rfl
theorem vH(e:aq ρ r=some d):cx ρ [r]=some [d]:=by show ((aq ρ r).bind _)=_;rw[e];rfl
theorem vI(e:aq ρ r=some d)(f:aq ρ r'=some d'):cx ρ [r,r']=some [d,d']:=by show ((aq ρ r).bind _)=_;rw[e];show ((cx ρ [r']).map _)=_;rw[vH f];rfl
theorem vJ(e:frz1 ρ r=some z)(h:z.1=d):frzL ρ [r]=some ([d],z.2):=by show ((frz1 ρ r).bind _)=_;rw[e,<-h];rfl
theorem Be(e:frz1 ρ r=some z)(d:frz1 z.2 r'=some w):frzL ρ [r,r']=some ([z.1,w.1],w.2):=by show ((frz1 ρ r).bind _)=_;rw[e];show ((frzL z.2 [r']).map _)=_;rw[vJ d rfl];rfl
theorem vK(h:qB d=some ds):∃l:Bool,AE d=some (l,ds):=(kW h).elim (λh=>⟨true,h▸rfl⟩) λh=>⟨false,h▸rfl⟩
theorem Bf(j:PDe X e (aw C ma)):PDi X tg e (eK C (.seq ma)):=by
 refine((qj j).or (tW j)).imp λr Q n=>?_;obtain⟨y,h,q⟩:=n;obtain⟨g,z,s,l,k,f,h⟩:=bn3 h;obtain⟨d,o⟩:=z;cases h;rcases kW f with f|f<;>simp only at f<;>subst f
 ·exact .inl ⟨g,l,_,_,k,q⟩
 ·exact .inr ⟨g,l,_,_,k,q⟩
theorem Bg(o:Gl X "range") (n:X.mg "range"=none) (l:isStar a=false) (s:PDe X a (aw C ma)):PDi X tg (.Call (.Name "range" p) [a] [] pos) (eK C (.rg1 ma)):=by refine(kN o n (au l) (bc l s dm)).imp λv Q r=>?_;obtain⟨y,h,q⟩:=r;obtain⟨g,d,j,_,t,k,u,f,h⟩:=bn4 h;cases h;have f:=gd_ok f;rw[aH u]at k;exact⟨([g.1],g.2),yp t,j,vH k,f.1,f.2,q⟩
theorem Bh(z:Gl X "range") (B:X.mg "range"=none) (o:isStar a=false) (f:isStar b=false) (v:PDe X a (aw C ma)) (t:PDe X b (aw C mb)):PDi X tg (.Call (.Name "range" p) [a,b] [] pos) (eK C (.rg2 ma mb)):=by refine(kO z B (by rw[au o,au f];rfl) (au f) (bc o v (bc f t dm))).imp λG Q u=>?_;obtain⟨y,h,q⟩:=u;obtain⟨s,n,d,i,H,A,g,l,w,r,h⟩:=bn5 h;obtain⟨j,_,D,k,h⟩:=bn2 h;cases h;rw[aH w]at l;rw[aH D]at r;have k:=gd_ok k;exact⟨([s.1,n.1],n.2),Bd A g,i,j,vI l r,k,q⟩
theorem Bi{I:Expr}{c:Expr} (A:Gl X "range") (G:X.mg "range"=none) (r:isStar a=false) (k:isStar b=false) (g:isStar c=false) (w:PDe X a (aw C ma)) (t:PDe X b (aw C mb)) (u:PDe X c (aw C (.int 2))):PDi X I (.Call (.Name "range" p) [a,b,c] [] pos) (eK C (.rg3 ma mb)):=by
 refine(kQ A G (by rw[au r,au k,au g];rfl) (by rw[au k,au g];rfl) (bc r w (bc k t (bc g u dm)))).imp λJ Q v=>?_;obtain⟨y,h,q⟩:=v;obtain⟨l,f,d,i,L,B,n,o,z,s,h⟩:=bn5 h;obtain⟨j,_,H,D,h⟩:=bn2 h;cases h;rw[aH z]at o;rw[aH H]at s;refine⟨([l.1,f.1,.val (.fz (.int 2))],f.2),?_,i,j,?_,gd_ok D,q⟩
 ·exact aaB.mpr ⟨l,B,aaB.mpr ⟨([f.1,.val (.fz (.int 2))],f.2),aaB.mpr ⟨f,n,rfl⟩,rfl⟩⟩
 ·show ((aq f.2 l.1).bind _)=_;rw[o];show ((cx f.2 [f.1,.val (.fz (.int 2))]).map _)=_;rw[vI s rfl];rfl
theorem Bj{j} (k:Gl X "enumerate") (g:X.mg "enumerate"=none) (f:isStar a=false) (o:PDe X a (aw C ma)):PDi X (.Tuple es j tpos) (.Call (.Name "enumerate" p) [a] [] pos) (eK C (.enm ma)):=by refine(qk k g (au f) (bc f o dm)).imp λu Q n=>?_;obtain⟨y,h,q⟩:=n;obtain⟨d,z,s,r,l,t,h⟩:=bn3 h;cases h;exact⟨([d.1],d.2),yp r,s,z.2,vJ l (iU t),q⟩
theorem Bk{o} (A:Gl X "zip") (G:X.mg "zip"=none) (g:isStar a=false) (d:isStar b=false) (t:PDe X a (aw C ma)) (l:PDe X b (aw C mb)):PDi X (.Tuple es o tpos) (.Call (.Name "zip" p) [a,b] [] pos) (eK C (.zip ma mb)):=by refine(tX A G (by rw[au g,au d];rfl) (au d) (bc g t (bc d l dm))).imp λL Q s=>?_;obtain⟨y,h,q⟩:=s;obtain⟨J,M,z,w,v,B,f,j,D,u,h⟩:=bn5 h;obtain⟨es,H,h⟩:=bnd h;cases h;obtain⟨k,I⟩:=vK u;obtain⟨n,r⟩:=vK H;exact⟨_,Bd B f,_,_,k,n,v,es,w.2,Be j D,I,r,q⟩
def cL(C:Ct)(j:Tg)(f:Eo)(g:E)(d:PyData)(ρ:DEnv):Option (List PyData×DEnv):=
 (bH j (.fz d) ρ).bind λh=>(Ea C f h).bind λk=>if k.1=true then (ev C g k.2).bind λy=>(frz1 y.2 y.1).bind λq=>some ([q.1],q.2) else some ([],k.2)
def yq(C:Ct)(d:Eo)(f:E):DC:=λg Q=>∃w,((Ea C d g).bind λk=>if k.1=true then (ev C f k.2).bind λy=>(frz1 y.2 y.1).bind λq=>some (([q.1]:List PyData),q.2) else some ([],k.2))=some w/\Q w.1 w.2
theorem PDc.imp:PDc Y ifs elt d->(∀ρ Q,d' ρ Q->d ρ Q)->PDc Y ifs elt d'
 |⟨te,h,s⟩,f=>⟨te,h,λb F σ H ρ vs rs D out j Q l g hz R k q=>s b F σ H ρ vs rs D out j Q l g hz R (f _ _ k) q⟩
theorem um(g:PDe Y elt (aw C me)):PDc Y [] elt (yq C .none me):=(oj g).imp λd Q ⟨w,h,q⟩=>by have h:((ev C me d).bind λy=>(frz1 y.2 y.1).bind λq=>some (([q.1]:List PyData),q.2))=some w:=h;obtain⟨y,z,j,f,h⟩:=bn2 h;cases h;exact⟨y,j,z.1,z.2,f,q⟩
theorem yr(n:PDt Y c (fG C mc))(j:PDe Y elt (aw C me)):PDc Y [c] elt (yq C (.some mc) me):=(qr n j).imp λo Q ⟨w,h,q⟩=>by
 obtain⟨k,f,h⟩:=bnd h;refine⟨k,f,?_⟩;by_cases d:k.1=true
 ·rw[if_pos d]at h ⊢;obtain⟨y,z,l,g,h⟩:=bn2 h;cases h;exact⟨y,l,z.1,z.2,g,q⟩
 ·rw[if_neg d]at h ⊢;cases h;exact q
theorem qH(step:PyData->DEnv->Option (List PyData×DEnv))(ds:List PyData)(w:List PyData×DEnv)(k:Nat)(f:ds[k]?=some d)(h:cm step (ds.drop k) out ρ=some w):∃z,step d ρ=some z/\cm step (ds.drop (k+1)) (out++z.1) z.2=some w:=by
 have g:=(aah.mp f).1;have e:ds.drop k=d::ds.drop (k+1):=by rw[abw g,(aah.mp f).2]
 rw[e]at h;exact bnd h
theorem l9(C:Ct){j:Tg}:∀ρ Q,aw C (.comp nt fr mi j mif me) ρ Q->lW (eK C mi) nt fr (gW j) (yq C mif me) ρ Q:=λρ Q ⟨y,h,q⟩=>by
 obtain⟨x,_,z,w,v,s,r,B,h⟩:=bn4 h;cases h;refine⟨x,v,gd_ok s,z.1,z.2,r,λk f ρ=>cm (cL C j mif me) (x.1.drop k) f ρ=some w,B,λk d f ρ A g=>?_,λf ρ g=>?_⟩
 ·obtain⟨u,o,l⟩:=qH _ _ _ k A g;obtain⟨n,t,o⟩:=bnd o;exact⟨n,t,u,o,l⟩
 ·have g:cm (cL C j mif me) (x.1.drop x.1.length) f ρ=some w:=g;rw[abW]at g;cases g;exact q
theorem yt{d:Tg}(f:X.calm=true)(S:CompScope N nt fr X.N scope X.env.scope)(h:∀x,foldedSetIterable iter X.env x=pure x)(hi:PDi X tg iter (eK C mi))(g:∀c:CC,PDg (cQ X N scope c) Ff nt tg (gW d))(j:∀c:CC,PDc (cQ X N scope c) ifs elt (yq C mif me)):
  PDe X (.ListComp elt [⟨tg,iter,ifs,0⟩] scope pos) (aw C (.comp nt fr mi d mif me)):=(t9 f S h hi g j).imp (l9 C)
theorem Bm(g:PDe X a (aw C ma))(f:PDe X c (aw C mb)):PDe X (.BinOp a .Mult c pos) (aw C (.rep ma mb)):=by
 obtain⟨_,g,s1⟩:=g;obtain⟨_,f,s2⟩:=f;refine⟨_,lF xg g f,λb F G H ρ T U Qd Q N R ⟨y,h,q⟩ k=>?_⟩;obtain⟨B,o,xs,dn,n,e1,Z,D,M,en,h⟩:=bn5 h;obtain⟨s,_,e3,j,h⟩:=bn2 h;cases h;have j:=gd_ok j;have D:=kX D;rw[aH en]at M;refine s1 b F G H ρ T U (λr d=>r=B.1/\d=B.2) _ N R ⟨B,e1,rfl,rfl⟩ λv H1 r d R1 I=>?_;obtain⟨g,f⟩:=I;subst g f;refine s2 b F G H1 _ _ _ (λr d=>r=o.1/\d=o.2) _ N R1 ⟨o,Z,rfl,rfl⟩ λu Y r d S I=>?_;obtain⟨g,f⟩:=I;subst g f;have hk:=S.dt M;cases hk;have t:=S.drop;rw[D]at t;obtain⟨A,h0,nd,J⟩:=t.wd.out;have hx:=fzL_map e3;subst hx;cases h0 with
 |cons r0 t0=>
  cases r0 with
  |@lst l us _ A' hH tt=>
   have O:=Ows.fzs tt;have w:Wd b Y (us.zip (s.map OD.fz)++((V.ref l,OD.lst (s.map OD.fz))::(stk T U++(flat G o.2++ff F)))):=Wd.exp t.wd (Ows.cons (.lst hH tt) t0) nd J O;have L:=O.length;refine⟨l,n,us,rfl,rfl,hH,by omega,by omega,aat (by rw[L];exact j.2.2) (by decide),λpp hp=>k _ _ _ _ (Rel.ez (t.eg w (by rw[len_rep,len_rep,L]) (λz j=>?_) hp)) q⟩;refine aae _ (l8 (by simpa using L) n.toNat z ?_);have e:(List.replicate n.toNat s).flatten.map OD.fz=(List.replicate n.toNat (s.map OD.fz)).flatten:=by rw[List.map_flatten,List.map_replicate]
   rw[e]at j;exact j
end
end
section
def Bp(D:DEnds)(ρ:DEnv):Fl->Prop
 |.nx=>D.nx ρ|.bk=>D.bk ρ|.ct=>D.ct ρ|.rt x=>D.rt x ρ
def gp(C:Ct)(s:S'):DS:=λD a=>∃x,dN C s a=some x/\Bp D x.2 x.1
def jU(C:Ct)(s:Ss):DS:=λD a=>∃x,aW C s a=some x/\Bp D x.2 x.1
section
variable{b:Bs}{F:List Fr}{σ:St}{H H':Hp}{ρ:DEnv}{τ us:List V}{θ:List OR}{zs:List OD}{v u:V}{x y:OD}{i:Nat}{ks:List Nat}
theorem Rel.open(R:Rel b F σ H ρ (us++τ) (zs.map OR.val++θ))(a:us.length=zs.length)(e:ρ[i]?.join=some x):∃v,σ[i]?=some (some v)/\Wd b H (us.zip zs++((v,x)::(stk τ θ++(flat σ (ρ.set i none)++ff F)))):=by obtain⟨v,c,w⟩:=R.slot (join_some e);refine⟨v,c,w.perm ?_⟩;rw[aC (by simpa using a),cD a,aaf];exact aap.symm
theorem Rel.close(R:Rel b F σ H ρ τ θ)(ev:σ[i]?=some (some v))(w:Wd b H' ((v,x)::(stk τ θ++(flat σ (ρ.set i none)++ff F)))):Rel b F σ H' (ρ.set i (some x)) τ θ:=Rel.back R.wf R.al R.wff ev w
theorem Rel.rest(R:Rel b F σ H ρ (us++τ) (zs.map OR.val++θ))(a:us.length=zs.length):Rel b F σ H ρ τ θ:=R.drops (by simpa using a)
end
section
variable{X:Cx}{W:Nat->Prop}{m:Nat}{C:Ct}{a b c e:Expr}{es:List Expr}{sts s1 s2:List Stmt}{st:Stmt}{ma mb mc:E}{mes:Es}{ms:S'}{mss ma' mb':Ss}{pos p p1 p2 p3 pos':Pos}{x:Str}{i:Nat}
theorem PDs.imp:PDs X W st d->(∀D ρ,d' D ρ->d D ρ)->PDs X W st d'
 |⟨te,h,s⟩,f=>⟨te,h,λb F σ H ρ τ θ g D k n R j E=>s b F σ H ρ τ θ g D k n R (f _ _ j) E⟩
theorem PDss.imp:PDss X W sts d->(∀D ρ,d' D ρ->d D ρ)->PDss X W sts d'
 |⟨te,h,s⟩,f=>⟨te,h,λb F σ H ρ τ θ g D k n R j E=>s b F σ H ρ τ θ g D k n R (f _ _ j) E⟩
theorem yu:PDss X W [] (jU C .nil):=pdss_nil.imp λD d ⟨y,h,q⟩=>by cases h;exact q
theorem uo(g:PDs X W st (gp C ms))(j:PDss X W sts (jU C mss)):PDss X W (st::sts) (jU C (.cons ms mss)):=by
 refine(nZ g j).imp λD o n=>?_;obtain⟨y,h,q⟩:=n;obtain⟨z,f,h⟩:=bnd h;obtain⟨l,k⟩:=z;refine⟨λd=>l=.nx/\d=k,λd ⟨g,j⟩=>?_,?_⟩
 ·subst g j;exact⟨y,h,q⟩
 ·cases l
  ·exact⟨_,f,rfl,rfl⟩
  ·cases h;exact⟨_,f,q⟩
  ·cases h;exact⟨_,f,q⟩
  ·cases h;exact⟨_,f,q⟩
theorem yv:PDs X W (.Continue pos) (gp C .cont):=pds_cont.imp λD d ⟨y,h,q⟩=>by cases h;exact q
def eN:Expr->Bool
 |.ListComp _ _ _ _=>true|.SetComp _ _ _ _=>true|.DictComp _ _ _ _ _=>true
 |_=>false
theorem iV(h:eN e=false):swapsWith e t l env=pure false:=by cases e<;>first|rfl|cases h
theorem Ek(j:eN e=false)(f:PDe X e (aw C ma)):PDs X W (.Expr e pos) (gp C (.ex ma)):=by refine(qf (iV j) f).imp λD k d=>?_;obtain⟨y,h,q⟩:=d;obtain⟨z,g,h⟩:=bnd h;cases h;exact⟨z,g,q⟩
theorem Bq(f:PDe X e (aw C ma)):PDs X W (.Return (some e) pos) (gp C (.ret ma)):=by refine(tQ f).imp λD k d=>?_;obtain⟨y,h,q⟩:=d;obtain⟨z,w,j,g,h⟩:=bn2 h;cases h;exact⟨z,j,w.1,w.2,g,q⟩
theorem El(l:PDt X c (fG C mc))(g:PDss X W s1 (jU C ma'))(j:PDss X W s2 (jU C mb')):PDs X W (.If c s1 s2 pos) (gp C (.iff mc ma' mb')):=by
 refine(xV l g j).imp λD n f=>?_;obtain⟨y,h,q⟩:=f;obtain⟨z,k,h⟩:=bnd h;refine⟨z,k,?_⟩;by_cases d:z.1=true
 ·rw[if_pos d]at h ⊢;exact⟨y,h,q⟩
 ·rw[if_neg d]at h ⊢;exact⟨y,h,q⟩
theorem vL(j:X.N.Nodup)(s:Sto X W m i x)(l:swapsWith e (some (.Name x pos')) pos.line X.env=pure false)(f:PDe X e (aw C ma)):PDs X W (.Assign [.Name x pos'] e pos) (gp C (.set i ma)):=by refine(tR s.nw j s.hN s.loc l s.fn f).imp λD o d=>?_;obtain⟨y,h,q⟩:=d;obtain⟨z,w,_,k,g,n,h⟩:=bn3 h;cases h;exact⟨z,k,w.1,w.2,g,gd_ok n,q⟩
theorem Br(r:swapsWithSole [tg] e pos.line X.env=pure false)(k:swappedStores [tg] e X.env=pure none)(o:isStar tg=false)(j:PDe X e (aw C ma))(l:PDg X W m tg (gW t)):PDs X W (.Assign [tg] e pos) (gp C (.asg t ma)):=by refine(tV r k (by cases tg<;>first|rfl|cases o) j l).imp λD u g=>?_;obtain⟨y,h,q⟩:=g;obtain⟨z,w,d,n,f,s,h⟩:=bn3 h;cases h;exact⟨z,n,w.1,w.2,f,d,s,q⟩
theorem uq(v:PassesOwn (model X.prog X.w) X.A X.env X.xe)(u:PDt X cc (fG C mc))(k:PDss X W sts (jU C mss)):PDs X W (.While cc sts [] pos) (gp C (.whl mc mss)):=by
 refine(n9 v u k).imp λD j B=>?_;obtain⟨y,h,q⟩:=B;refine⟨λn j=>l4 (bw C mc) (aW C mss) n j=some y,⟨C.wf,h⟩,λn j d=>?_⟩;cases n with
 |zero=>cases d
 |succ n=>
  obtain⟨z,G,d⟩:=bnd d;refine⟨z,G,?_⟩;by_cases s:z.1=true
  ·rw[if_pos s]at d ⊢;obtain⟨w,g,d⟩:=bnd d;obtain⟨r,l⟩:=w;refine⟨λf=>f=l/\(r=.nx\/r=.ct),λf ⟨k,t⟩=>?_,?_⟩
   ·subst k;refine⟨n,aaP n,?_⟩;rcases t with rfl|rfl<;>exact d
   ·cases r with
    |nx=>exact⟨_,g,rfl,.inl rfl⟩
    |bk=>cases d;exact⟨_,g,q⟩
    |ct=>exact⟨_,g,rfl,.inr rfl⟩
    |rt o=>cases d;exact⟨_,g,q⟩
  ·rw[if_neg s]at d ⊢;cases d;exact q
theorem Bt(hp:PassesOwn (model X.prog X.w) X.A X.env X.xe)(hc:X.calm=true)(hs:∀x,foldedSetIterable iter X.env x=pure x)(hi:PDi X tg iter (eK C mi))(hg:PDg X W m tg (gW t))(hb:PDss X W sts (jU C mss)):PDs X W (.For tg iter sts [] pos) (gp C (.fr t mi mss)):=by
 obtain⟨_,j,s1⟩:=hi;obtain⟨_,k,s2⟩:=hg;obtain⟨_,h3,s3⟩:=hb;refine⟨_,wI hp hc j k h3 hs,λb F σ H Y M N Dd D hK n R ⟨y,h,q⟩ E=>?_⟩;obtain⟨x,e1,h⟩:=bnd h;refine s1 b F σ H Y M N (λds f=>ds=x.1/\f=x.2) _ hK R ⟨x,e1,rfl,rfl⟩ λJ H1 ds l Z U T nr R1 it hZ=>?_;obtain⟨j,k⟩:=hZ;subst j k;refine⟨λi mm σ H=>mm=x.1.length-i/\i<=x.1.length/\∃Y,Rel b F σ H Y (Z++M) (U++N)/\bS (λd f=>(bH t (.fz d) f).bind λl=>aW C mss l) (x.1.drop i) Y=some y,⟨_,rfl,aaE _,_,R1,h⟩,?_⟩;rintro i mm I H2 ⟨rfl,hi,L,R2,r⟩;obtain⟨go,O⟩:=it F I H2 L M N R2 i;by_cases B:i<x.1.length
 ·obtain⟨g1,g2⟩:=go B;have ed:x.1[i]?=some x.1[i]:=aao B;have ee:x.1.drop i=x.1[i]::x.1.drop (i+1):=abw B;rw[ee]at r;obtain⟨w,e2,r⟩:=bnd r;obtain⟨S,e3,e2⟩:=bnd e2;obtain⟨Q,s⟩:=w;refine .inr ⟨g1,λg G=>∃f,Rel b F g G f (Z++M) (U++N)/\bS (λd f=>(bH t (.fz d) f).bind λl=>aW C mss l) (x.1.drop (i+1)) f=some y,λg G ⟨f,u,w'⟩=>⟨_,by omega,rfl,B,f,u,w'⟩,λz H3 hy=>?_⟩;have R3:=g2 z H3 x.1[i] hy ed;refine s2 b F I H3 L (Z++M) (U++N) z _ (λf=>f=S) _ hK (NoRf.app nr.weak n) R3 ⟨S,e3,rfl⟩ λa0 H4 f R4 _ h4=>?_;subst h4;refine s3 b F a0 H4 _ (Z++M) (U++N) ⟨λf=>Q=.nx/\f=s,λo f=>Q=.rt o/\f=s,λf=>Q=.bk/\f=s,λf=>Q=.ct/\f=s⟩ _ hK (NoRf.app nr.weak n) R4 ⟨_,e2,by cases Q<;>exact⟨rfl,rfl⟩⟩ ⟨λg G f u ⟨j,k⟩=>?_,λg G f u ⟨j,k⟩=>?_,λg G f u ⟨j,k⟩=>?_,λg G f v o u ⟨j,k⟩=>?_⟩
  ·subst j k;exact⟨_,u,r⟩
  ·subst j k;cases r;exact E.nx g G _ (u.drops T) q
  ·subst j k;exact⟨_,u,r⟩
  ·subst j k;cases r;exact E.rt g G _ v o (Rel.drops (Rel.x4 u T) T) q
 ·have e:i=x.1.length:=by omega
  subst e;rw[abW]at r;cases r;exact .inl ⟨O rfl,E.nx I H2 L (R2.drops T) q⟩
end
end
section
section
variable{prog:Program}{w:World}{A:Around}{E:Value->Shared->Prop}{s:Shared}
theorem jV{T d:String}(i:s.TypeIs a T)(k:s.TypeIs b T)
  (hi:typeLookup (.type T) (dunderI "add")=pure (some (.builtin d))) (g:isSeqSlotId d=true) (c:fillsNumberSlot (.type T) "add"=pure false)
  (j:wpAny (model prog w) A (call (.builtin d) [a,b]) Q E s):wpAny (model prog w) A (inplaceOp .Add a b) Q E s:=by
 unfold inplaceOp;refine wpAny_holding ?_;have f:fillsInplaceSlot (.type T) "add" (Operator.Add==.Add)=pure false:=by unfold fillsInplaceSlot;show (typeLookup (.type T) (dunderI "add") >>= λh=>pure (h.isSome&&!isSeqSlot h))=pure false;rw[hi];show (pure (true&&!isSeqSlotId d):Sem Bool)=_;rw[g];rfl
 have e:seqSlot? (.type T) (dunderI "add")=pure (some (.builtin d)):=PySem.seqSlot_of hi g;refine wpAny_bind (wpAny_typeOf i (wpAny_bind (wpAny_of_eq f ?_)));show wpAny (model prog w) A (if false=true then _ else _) Q E s;rw[if_neg aab];refine wpAny_bind (binaryOp1_none i k c ?_);refine wpAny_bind (wpAny_of_eq e ?_);exact wpAny_bind (wpAny_rule j)
end
section
variable{X:Cx}{K:Waa}{e:Expr}{da:DE}{pos pos':Pos}{x:Str}{i:Nat}
def ipL:TIp:=λx y H Q=>∃l b a c,x=.ref l/\y=.ref b/\H l=some (.lst a)/\H b=some (.lst c)/\a.length+c.length<=sizeLine/\Q (.ref l) (upd H l (.lst (a++c)))
theorem ur:zA X .Add ipL:=by
 intro j s G H x y v u Q I m w h;obtain⟨l,b,J,C,rfl,rfl,k,t,o,q⟩:=h;cases m;cases w;obtain⟨z,c,n,r,L,e⟩:=I.ri k;obtain⟨D,a,A,p,B,g⟩:=I.ri t;have f:c.toArray.size+a.toArray.size<=sizeLine:=by rw[aam,aam];omega
 have d:¬ (!c.toArray.isEmpty&&Builtin.List.listTooLong (c.toArray.size+a.toArray.size))=true:=by rw[fN f,Bool.and_false];exact aab
 refine jV ⟨_,e,rfl⟩ ⟨_,g,rfl⟩ F.slot_list_iadd.lookup (by decide +kernel) noFill_list_add ?_;refine call_meets F.slot_list_iadd ⟨_,e,rfl⟩ F.entry_list_iadd (F.args_list_iadd_2 _ _)
  (AutoSeq1.list___iadd___list_list_0 l c.toArray n b a.toArray A d (by rw[aam];omega) (by omega)) ⟨e,g,?_⟩
 refine⟨.ref l,_,I.wj k e (by simp) (r.append p) ?_,rfl,q⟩;rw[aaw];exact o
end
section
variable{X:Cx}{W:Nat->Prop}{m:Nat}{C:Ct}{a b c e:Expr}{es:List Expr}{sts s1 s2:List Stmt}{st:Stmt}{ma mb mc:E}{mes:Es}{ms:S'}{mss ma' mb':Ss}{pos p p1 p2 p3 pos' apos cpos:Pos}{x:Str}{i:Nat}
theorem Bu(Z:X.N.Nodup)(s:Sto X W m i x)(G:PDe X e (aw C ma)):PDs X W (.AugAssign (.Name x pos') (opOf o) e pos) (gp C (.aug i o ma)):=by
 have j:∀(f:Operator) (g:Int->Int->Int),zA X f (CZ g)->(∀a d r,yg o a d=some r->∃k,d=.int k/\r=g a k)->PDs X W (.AugAssign (.Name x pos') f e pos) (gp C (.aug i o ma)):=λf g ho hg=>by
  obtain⟨_,h,s1⟩:=G;refine⟨_,oW Z s.hN s.loc h ho s.fn,λb F L H A S T Dd D M n R ⟨y,h,q⟩ E=>?_⟩;obtain⟨x0,U,B,l,O,J,h⟩:=bn3 h;rw[iS O,aH J]at l
  ·obtain⟨z,dk,r,Q,I,er,h⟩:=bn3 h;cases h;obtain⟨k,rfl,rfl⟩:=hg _ _ _ er;obtain⟨v,ev,w⟩:=R.slot (join_some l);have hv:=w.dt rfl;cases hv;have hi:i<A.length:=(aah.mp (join_some l)).1;refine⟨_,ev,s1 b F L H A S T (λr t=>r=z.1/\t=z.2) _ M R ⟨z,Q,rfl,rfl⟩ λv H1 r a0 u hZ=>?_⟩;obtain⟨G,h2⟩:=hZ;subst G h2;have hm:=u.dt I;cases hm;have hl:i<z.2.length:=by rw[<-u.wf.len,R.wf.len];exact hi
   exact⟨B,k,rfl,rfl,E.nx _ H1 _ ((u.drop.sc (.int (g B k))).store n hl s.nw) q⟩
 have nil:∀f,(∀a d,yg o a d=none)->PDs X W (.AugAssign (.Name x pos') f e pos) (gp C (.aug i o ma)):=λf Y=>by refine⟨_,oS,λb F L H A S T Dd D M n R ⟨y,h,q⟩ E=>?_⟩;obtain⟨x0,U,B,z,dk,l,O,J,Q,I,h⟩:=bn5 h;rw[Y]at h;cases h
 cases o with
 |add=>exact j _ _ wD λa d r h=>by cases d<;>cases h;exact⟨_,rfl,rfl⟩
 |sub=>exact j _ _ wF λa d r h=>by cases d<;>cases h;exact⟨_,rfl,rfl⟩
 |_=>exact nil _ λa d=>rfl
theorem Wd.x5{b:Bs}(w:Wd b H ((v,.lst cs)::L)):∃a vs,v=.ref a/\H a=some (.lst vs)/\vs.length=cs.length/\Wd b H (vs.zip cs++L):=by
 obtain⟨l,g,j,f⟩:=w.out;have k:=w.qd g;cases g with
 |@cons _ _ A _ _ B0 r t=>
  cases r with
  |@lst a vs _ B h1 h2=>have d:∀c,(c∈B++B0\/b.S0 c)->(c∈a::B++B0\/b.S0 c):=λc z=>z.imp (λz=>by simp at z ⊢;exact .inr z) id;exact⟨a,vs,rfl,h1,h2.len,⟨⟨_,Ows.step (Kp.refl _ _) (λc z=>.inl (d c z)) k (λ_ _=>rfl) (OwL.kq (OwL.j1 h2) t),(aaF.mp j).2,λc h=>f c (aak _ h)⟩,w.fr,w.s0,w.nt⟩⟩
theorem set_same{d:Type}{l:List d}{x:d}(h:l[i]?=some x):l.set i x=l:=ba h
theorem Bv(hN:X.N.Nodup)(s:Sto X W m i x)(g:PDe X e (aw C ma)):PDs X W (.AugAssign (.Name x pos') .Add e pos) (gp C (.agl i ma)):=by
 obtain⟨_,h,s1⟩:=g;refine⟨_,oW hN s.hN s.loc h ur s.fn,λb F j H ρ T U Dd D hK n R ⟨y,h,q⟩ E=>?_⟩;obtain⟨x0,a1,z,M,x1,e0,f0,e1,B,J,h⟩:=bn5 h;obtain⟨xs,_,f1,L,h⟩:=bn2 h;cases h;have L:=gd_ok L;have B:=kX B;rw[b9 f1]at J;obtain⟨v,k⟩:=R.wf.get (join_some e0);refine⟨v,k,s1 b F j H ρ T U (λr o=>r=z.1/\o=z.2) _ hK R ⟨z,e1,rfl,rfl⟩ λu H1 r a0 G hZ=>?_⟩;obtain⟨g,t⟩:=hZ;subst g t;rw[B]at G;obtain⟨bd,I,rfl,hB,d,Y⟩:=Wd.x5 G.wd;have Q:Rel b F j H1 z.2 (I++T) (M.map OR.val++U):=Rel.spread (Rel.drop G) d Y;obtain⟨v',f,w⟩:=Q.open d J;rw[k]at f;cases f;obtain⟨l,O,ch,hH,hl,Z⟩:=w.rd (ks:=[]) d rfl;cases ch;refine⟨l,bd,O,I,rfl,rfl,hH,hB,aat (by omega:_<=1000000) (by decide),?_⟩;show D.nx (j.set i (some (.ref l))) _;rw[set_same k];have w3:=Z (O++I) (xs++M) λS H A C nt g t nd=>⟨A++C,Ows.append g t,nd,λc hc=>aaj.mp hc⟩
 exact E.nx j _ _ (Rel.close (Q.rest d) k w3) q
end
end
section
section
variable{b:Bs}{S S':Addr->Prop}{H H1 H':Hp}{L L':List (V×OD)}{v u u' w w':V}{x y z z' y':OD}{d:PyData}{ks:List Nat}{k:Nat}
theorem Chn.det(h:Chn b H v x ks u y)(h':Chn b H v x ks u' y'):u=u'/\y=y':=by
 induction ks generalizing v x with
 |nil=>cases h;cases h';exact⟨rfl,rfl⟩
 |cons k ks j=>
  cases h with
  |cons c e=>
   cases h' with
   |cons g i=>obtain⟨f,a⟩:=Chd.det c g;subst f a;exact j e i
theorem Chn.snoc(h:Chn b H v x ks u y)(c:Chd b H u y k w z):Chn b H v x (ks++[k]) w z:=by
 induction ks generalizing v x with
 |nil=>cases h;exact .cons c .nil
 |cons k ks f=>cases h with|cons a e=>exact .cons a (f e)
theorem Chn.unsnoc(h:Chn b H v x (ks++[k]) w z):∃u y,Chn b H v x ks u y/\Chd b H u y k w z:=by
 induction ks generalizing v x with
 |nil=>cases h with|cons c t=>cases t;exact⟨_,_,.nil,c⟩
 |cons k ks i=>
  cases h with
  |cons e f=>obtain⟨u,y,a,g⟩:=i f;exact⟨u,y,.cons e a,g⟩
theorem OD.nc:∀{ks:List Nat}{x:OD},x.at ks=some y->y.kids[k]?=some z->x.at (ks++[k])=some z
 |[],x,e,h=>by simp only[OD.at]at e;cases e;simp[OD.at,h]
 |j::ks,x,e,h=>by
  simp only[OD.at,aaL]at e ⊢;cases a:x.kids[j]? with
  |none=>rw[a]at e;cases e
  |some q=>rw[a]at e;exact OD.nc e h
theorem setKid_self(h:x.kids[k]?=some z):OD.eu k z x=x:=by cases x<;>simp only[OD.kids]at h<;>first|(simp at h;done)|(simp only[OD.eu];rw[ba h])
theorem OD.il:∀{ks:List Nat}{x:OD},x.at ks=some y->OD.put y ks x=x
 |[],x,e=>by simp only[OD.at]at e;cases e;rfl
 |j::ks,x,e=>by
  simp only[OD.at,OD.put]at e ⊢;cases a:x.kids[j]? with
  |none=>rfl
  |some q=>rw[a]at e;simp only;rw[OD.il e];exact setKid_self a
theorem path_at:∀{e:List Acc}{ρ:DEnv}{i:Nat}{p:OD×List Nat×OD},cK ρ i e=some p->ρ[i]?.join=some p.1/\p.1.at p.2.1=some p.2.2
 |[],ρ,i,p,h=>by obtain⟨x,c,h⟩:=bnd h;cases h;exact⟨c,rfl⟩
 |a::e,ρ,i,p,h=>by obtain⟨q,k,z,c,l,j,h⟩:=bn3 h;cases h;obtain⟨f,g⟩:=path_at c;exact⟨f,OD.nc g j⟩
theorem Wd.way(w:Wd b H ((v,x)::L))(e:x.at ks=some y):∃u,Chn b H v x ks u y:=by
 obtain⟨h,f,g,c⟩:=w.out;cases f with
 |cons r t=>obtain⟨u,B,i,a,_⟩:=Ow.path r e;exact⟨u,a⟩
theorem Wd.zb(w:Wd b H ((v,x)::L))(e:x.at ks=some y)(ch:Chn b H v x ks u y)(g:y.kids[k]?=some z):∃q,Chd b H u y k q z:=by obtain⟨q,c⟩:=w.way (OD.nc e g);obtain⟨u',y',f,h⟩:=Chn.unsnoc c;obtain⟨i,a⟩:=Chn.det ch f;subst i a;exact⟨q,h⟩
def Ext(H H':Hp):Prop:=∀a o,H a=some o->H' a=some o
theorem Ext.refl(H:Hp):Ext H H:=λ_ _ h=>h
theorem Ext.trans(h:Ext H H1)(h':Ext H1 H'):Ext H H':=λa o e=>h' a o (h a o e)
theorem Ext.upd(e:H p=none):Ext H (upd H p o):=λa q h=>by
 by_cases z:a=p
 ·subst z;rw[e]at h;cases h
 ·rw[upd_ne z];exact h
theorem Chd.ext(E:Ext H H')(h:Chd b H v x k w z):Chd b H' v x k w z:=by
 cases h with
 |lst c a f e=>exact .lst (E _ _ c) a f e
 |tup c a f e=>exact .tup (E _ _ c) a f e
 |dic c a g f e=>exact .dic (E _ _ c) a g f e
 |obj c a g f e=>exact .obj (E _ _ c) a g f e
theorem Chn.ext(E:Ext H H')(h:Chn b H v x ks u y):Chn b H' v x ks u y:=by
 induction ks generalizing v x with
 |nil=>cases h;exact .nil
 |cons k ks e=>cases h with|cons a c=>exact .cons (a.ext E) (e c)
end
def Em(K:Waa)(g:TE)(i:Nat)(f:List Acc):Prop:=∀(b:Bs) (F:List Fr) (a:St) (H:Hp) (c:DEnv) (d:List V) (e:List OR) (Q:VK) (p:OD×List Nat×OD),b.K=K->Rel b F a H c d e->cK c i f=some p->(∀v u,a[i]?=some (some v)->Chn b H v p.1 p.2.1 u p.2.2->Q u H)->g a H Q
inductive PDp (X:Cx)(e:Expr)(i:Nat)(ps:List Acc):Prop|mk (te:TE) (h:PE X e te) (s:Em X.K te i ps)
inductive PX (X:Cx)(e:Expr)(f:St->Option V):Prop|mk (te:TE) (h:PE X e te) (s:∀σ H (Q:VK) v,f σ=some v->Q v H->te σ H Q)
section
variable{X:Cx}{C:Ct}{a e e2:Expr}{es:List Expr}{ma mb:E}{mes:Es}{pos p p1 p2:Pos}{x:Str}{i j:Nat}{ps:List Acc}{k:Int}
theorem Bw:PX X (.Constant (.int k) j pos) (λ_=>some (.int k)):=⟨_,kj,λb H Q v e q=>by cases e;exact q⟩
theorem En(c:X.N[i]?=some x) (f:Vis X.env.scope x) (d:(x==("__debug__":Str))=false) (b:(x==("__classdict__":Str))=false):PX X (.Name x pos) (λσ=>σ[i]?.join):=⟨_,bV c f d b,λσ H Q v e q=>⟨v,join_some e,q⟩⟩
theorem Ep(f:X.N[i]?=some x) (m:Vis X.env.scope x) (l:(x==("__debug__":Str))=false) (c:(x==("__classdict__":Str))=false):PDp X (.Name x pos) i []:=
 ⟨_,bV f m l c,λb F n H o s t Q p r R h q=>by
  obtain⟨y,g,h⟩:=bnd h;cases h;obtain⟨v,d⟩:=R.wf.get (join_some g);exact⟨v,d,q v v d .nil⟩⟩
theorem qI{b:Type}{xs:List b}{i:Int}{k:Nat}{y:b}(c:xs.length=n)(h:ixN n i=some k)(e:xs[k]?=some y):atI xs i=some y:=by subst c;unfold atI;rw[h];exact e
theorem By(M:PlainIx e2)(D:∀{b:Bs}{F:List Fr}{σ:St}{H:Hp}{ρ:DEnv}{τ:List V}{θ:List OR}{x:OD}{k:Nat},Rel b F σ H ρ τ θ->accN ρ x L=some k->∃n,f σ=some (.int n)/\((∃xs,x=.lst xs/\ixN xs.length n=some k)\/∃xs,x=.tup xs/\ixN xs.length n=some k)):PDp X e i ps->PX X e2 f->PDp X (.Subscript e e2 pos) i (L::ps)
 |⟨te,h,s⟩,⟨_,m,s2⟩=>⟨_,vn pv h m M,λb F σ H ρ τ θ Q p J R c q=>by
  obtain⟨r,k,z,A,e2,N,c⟩:=bn3 c;cases c;refine s b F σ H ρ τ θ _ r J R A λv u t o=>?_;obtain⟨G,m⟩:=path_at A;obtain⟨U,d,w⟩:=R.slot (join_some G);rw[t]at d;cases d;obtain⟨g,y⟩:=w.zb m o N;obtain⟨n,I,B⟩:=D R e2;refine s2 σ H _ _ I ?_;obtain⟨O,S,T⟩:=r;simp only at *;rcases B with ⟨xs,rfl,l⟩|⟨xs,rfl,l⟩
  ·cases y with
   |@lst a vs _ _ _ _ f1 f2 f3 f4=>exact .inl ⟨a,vs,n,g,rfl,rfl,SqL.of f1,qI f2 l f3,q v g t (o.snoc (.lst f1 f2 f3 f4))⟩
  ·cases y with
   |@tup a vs _ _ _ _ f1 f2 f3 f4=>exact .inr (.inl ⟨a,vs,n,g,rfl,rfl,SqT.of f1,qI f2 l f3,q v g t (o.snoc (.tup f1 f2 f3 f4))⟩)⟩
theorem Er(l:PlainIx e2)(h:PDp X e i ps)(f:PX X e2 (λ_=>some (.int k))):PDp X (.Subscript e e2 pos) i (.ix k::ps):=
 By l (λ{b F r H m o q x n} R c=>by
  obtain⟨d,g,c⟩:=bnd c;exact⟨k,rfl,(ye g).imp (λe=>⟨d,e,c⟩) λe=>⟨d,e,c⟩⟩) h f
theorem Rel.keyS{k:Key}(R:Rel b F σ H ρ τ θ)(e:ρ[j]?.join=some (.fz d))(hk:keyOf d=some k):σ[j]?.join=some (kV k):=by obtain⟨v,f,w⟩:=R.slot (join_some e);have c:=w.dt rfl;rw[f];cases d<;>cases hk<;>cases c<;>rfl
theorem iW{k:Key}:∀{ws:List (Key×V)}{n:Nat}{w:V},(ws.map (·.1)).findIdx? (λq=>decide (q=k))=some n->(ws[n]?).map (·.2)=some w->valV ws k=some w
 |[],_,_,e,_=>by simp at e
 | (g,q)::ws,n,w,e,h=>by
  rw[aan,List.findIdx?_cons]at e;by_cases b:g=k
  ·subst b;simp at e;subst e;simp at h;subst h;exact cB rfl
  ·simp[b]at e;obtain⟨d,c,e2⟩:=e;subst e2;have f:(ws.map (·.1)).findIdx? (λq=>decide (q=k))=some d:=by rw[List.findIdx?_map];exact c
   have:=iW f (by simpa using h);simp only[valV]at this ⊢;rw[aaY];simp only[b,decide_false];exact this
theorem Bz(M:X.A.units+1<cLine)(N:NoSl e2):PDp X e i ps->PX X e2 (λσ=>σ[j]?.join)->PDp X (.Subscript e e2 pos) i (.key j::ps)
 |⟨te,h,s⟩,⟨_,g,s2⟩=>⟨_,tj M h g N,λb F σ H ρ τ θ Q p L R c q=>by
  obtain⟨r,k,z,n,e2,O,c⟩:=bn3 c;cases c;refine s b F σ H ρ τ θ _ r L R n λv u t m=>?_;obtain⟨G,g⟩:=path_at n;obtain⟨Z,f,w⟩:=R.slot (join_some G);rw[t]at f;cases f;obtain⟨o,D⟩:=w.zb g m O;obtain⟨T,U,Y⟩:=r;simp only at *;obtain⟨y,d,uu,I,B,S,l,J,e2⟩:=bn4 e2;rw[iS S]at B;refine s2 σ H _ _ (R.keyS B J) ?_;cases D with
  |@dic a ws _ _ _ _ _ f1 f2 f5 f3 f4=>cases l;refine⟨a,o,rfl,?_,q v o t (m.snoc (.dic f1 f2 f5 f3 f4))⟩;have:=DGet.k (k:=I) f1;rw[iW (by rw[f2];exact e2) f3]at this;exact this
  |_=>cases l⟩
end
section
variable{b:Bs}{F:List Fr}{σ:St}{H H':Hp}{ρ:DEnv}{τ us:List V}{θ:List OR}{v u:V}{i:Nat}{ps:List Acc}{p:OD×List Nat×OD}{d:PyData}
theorem Rel.partX{x z:OD}{ks:List Nat}(R:Rel b F σ H ρ τ θ)(f:ρ[i]?.join=some x)(g:x.at ks=some z)(ev:σ[i]?=some (some v))(ch:Chn b H v x ks u z)(j:z.dat=some d):Rel b F σ H (ρ.set i (some (OD.put (.fz d) ks x))) (u::τ) (.val (.fz d)::θ):=by obtain⟨l,a,w⟩:=R.slot (join_some f);rw[ev]at a;cases a;obtain⟨k,c,e⟩:=w.tr g j;obtain⟨h,_⟩:=Chn.det ch c;subst h;exact Rel.back (τ:=u::τ) (θ:=.val (.fz d)::θ) R.wf R.al R.wff ev (e.perm (List.Perm.swap _ _ _))
theorem Rel.partZ{x:OD}{ks:List Nat}(R:Rel b F σ H ρ τ θ)(a:ρ[i]?.join=some x)(c:x.at ks=some (.fz d))(ev:σ[i]?=some (some v))(ch:Chn b H v x ks u (.fz d)):Rel b F σ H ρ (u::τ) (.val (.fz d)::θ):=by have:=R.partX a c ev ch (d:=d) rfl;rw[OD.il c,set_self (join_some a)]at this;exact this
theorem Rel.part(R:Rel b F σ H ρ τ θ)(e:cK ρ i ps=some p)(ev:σ[i]?=some (some v))(ch:Chn b H v p.1 p.2.1 u p.2.2)(a:p.2.2.dat=some d):Rel b F σ H (ρ.set i (some (OD.put (.fz d) p.2.1 p.1))) (u::τ) (.val (.fz d)::θ):=R.partX (path_at e).1 (path_at e).2 ev ch a
theorem Rel.partF(R:Rel b F σ H ρ τ θ)(e:cK ρ i ps=some p)(ev:σ[i]?=some (some v))(ch:Chn b H v p.1 p.2.1 u p.2.2)(a:p.2.2=.fz d):Rel b F σ H ρ (u::τ) (.val (.fz d)::θ):=by obtain⟨c,f⟩:=path_at e;have:=R.part e ev ch (by rw[a];rfl);rw[<-a,OD.il f,set_self (join_some c)]at this;rw[a]at this;exact this
end
end
section
section
variable{X:Cx}{C:Ct}{a e e2:Expr}{es:List Expr}{ma mb:E}{mes:Es}{pos p p1 p2:Pos}{x:Str}{i j:Nat}{ps:List Acc}{k:Int}
theorem Et:PDp X e i ps->PDe X e (aw C (.pg i ps))
 |⟨te,h,s⟩=>⟨te,h,λb F σ H ρ τ θ n Q f R ⟨y,h,q⟩ k=>by
  obtain⟨r,c,h⟩:=bnd h;refine s b F σ H ρ τ θ _ r f R c λv u m g=>?_;obtain⟨d,l,h⟩:=bnd h;cases h;exact k u H _ _ (R.partF c m g (iS l)) q⟩
theorem mf(g:bw C m=(vt (ev C m)).2)(l:∀ρ x,ev C m ρ=some x->∃k,x.1=.val (.fz (.bool k))):∀ρ Q,fG C m ρ Q->fb (aw C m) ρ Q:=λρ Q ⟨y,h,q⟩=>by
 have b:((ev C m ρ).bind λx=>(aq x.2 x.1).bind λd=>(qC d).bind λk=>some (k,x.2))=some y:=by rw[<-h,g];rfl
 obtain⟨z,f,b⟩:=bnd b;obtain⟨k,c⟩:=l ρ z f;rw[c]at b;cases b;exact⟨z,f,k,by rw[c];rfl,q⟩
theorem SndT.imp{K:Waa}(s:SndT K te d)(f:∀ρ Q,d' ρ Q->d ρ Q):SndT K te d':=λb F l H ρ c g h Q n R m q=>s b F l H ρ c g h Q n R (f _ _ m) q
theorem iX{k:Key}:∀{ws:List (Key×V)},(valV ws k).isSome=(ws.map (·.1)).any λq=>decide (q=k)
 |[]=>rfl
 | (g,q)::ws=>by
  have c:=iX (k:=k) (ws:=ws);by_cases b:g=k
  ·subst b;rw[cB rfl];simp
  ·simp only[valV]at c ⊢;rw[aaY];simp only[b,decide_false,aan,aaU,Bool.false_or];exact c
def yw(b:Bool)(c d:TE):TE:=if b then lO c d else Aa c d
theorem qJ{c:Bool}(t:X.A.units+1<cLine)(D:behindInMarks (coOf (if c then .nin else .inn)) e=false):PDe X a (aw C ma)->PDp X e i ps->PDe X (.Compare a [coOf (if c then .nin else .inn)] [e] pos) (aw C (.din c ma i ps))/\PDt X (.Compare a [coOf (if c then .nin else .inn)] [e] pos) (fG C (.din c ma i ps))
 |⟨ta,f,s1⟩,⟨te,h,s⟩=>by
  have hp:PE X (.Compare a [coOf (if c then .nin else .inn)] [e] pos) (yw c ta te):=by
   cases c with
   |true=>exact iz (hG t f h) D
   |false=>exact iz (pL t f h) D
  have I:PT X (.Compare a [coOf (if c then .nin else .inn)] [e] pos) (tB (yw c ta te)):=by
   cases c with
   |true=>exact iA (hG t f h) D
   |false=>exact iA (pL t f h) D
  have S:bG X.K (yw c ta te) (aw C (.din c ma i ps)):=by
   refine λb F g H M T U Qd Q N R ⟨y,h,q⟩ k=>?_;obtain⟨z,dx,r,kk,uu,Y,e1,e2,ek,B,h⟩:=bn5 h;have B:=iT B
   ·cases h;have go:∀v l O d,Rel b F g l d (v::T) (O::U)->(O=z.1/\d=z.2)->te g l λx H2=>∃a o,x=.ref a/\DGet H2 a v o/\Q (.bl (if c then !o.isSome else o.isSome)) H2:=λv l O d G ⟨f,n⟩=>by
     subst f n;refine s b F g l _ _ _ _ r N G e2 λv' u ev ch=>?_;obtain⟨f,n⟩:=path_at e2;obtain⟨v2,m,w⟩:=G.slot (join_some f);rw[ev]at m;cases m;rw[B]at n ch;obtain⟨ad,ws,L,hH,J,hl,_⟩:=Wd.u5 (us:=[]) (zs:=[]) w rfl n;obtain⟨e5,_⟩:=Chn.det ch L;subst e5;have hv:=G.dt e1;have Z:v=kV kk:=by cases dx<;>cases ek<;>cases hv<;>rfl
     subst Z;refine⟨ad,_,rfl,DGet.k hH,?_⟩;rw[iX,J];exact k _ l _ _ (G.drop.sc (.bl _)) q
    cases c with
    |true=>exact s1 b F g H M T U (λr d=>r=z.1/\d=z.2) _ N R ⟨z,Y,rfl,rfl⟩ go
    |false=>exact s1 b F g H M T U (λr d=>r=z.1/\d=z.2) _ N R ⟨z,Y,rfl,rfl⟩ go
  refine⟨⟨_,hp,S⟩,⟨_,I,(kM S).imp (mf rfl λM x h=>?_)⟩⟩;obtain⟨z,dx,r,kk,uu,Y,e1,e2,ek,B,h⟩:=bn5 h;cases h;exact⟨_,rfl⟩
end
def Eu(K:Waa)(i:TE)(f:DEnv->Option PyData):Prop:=∀(b:Bs) (F:List Fr) (c:St) (H:Hp) (a:DEnv) (g:List V) (h:List OR) (Q:VK) (d:PyData),b.K=K->Rel b F c H a g h->f a=some d->(∀v e,Ext H e->Rel b F c e a (v::g) (.val (.fz d)::h)->Q v e)->i c H Q
inductive PDq (X:Cx)(e:Expr)(f:DEnv->Option PyData):Prop|mk (te:TE) (h:PE X e te) (s:Eu X.K te f)
def BA(K:Waa)(k:TA)(f:DEnv->Option (List PyData)):Prop:=∀(b:Bs) (F:List Fr) (e:St) (H:Hp) (a:DEnv) (i:List V) (j:List OR) (Q:List V->Hp->Prop) (h:List PyData),b.K=K->Rel b F e H a i j->f a=some h->(∀c g,Ext H g->c.length=h.length->Rel b F e g a (c++i) (h.map (λd=>OR.val (.fz d))++j)->Q c g)->k e H Q
inductive PDqs (X:Cx)(es:List Expr)(f:DEnv->Option (List PyData)):Prop|mk (te:TA) (h:PA X es te) (s:BA X.K te f)
section
variable{X:Cx}{C:Ct}{a e e2:Expr}{es:List Expr}{ma mb:E}{mes:Es}{pos p p1 p2:Pos}{x:Str}{i j:Nat}{ps:List Acc}{k:Int}
end
section
variable{X:Cx}
theorem Inv.drw{a:List (Addr×Obj)}{σ:List (Option V)}{H:Hp}{s:Shared}{d:Drawn}(I:Inv X a σ H s):Inv X a σ H { s with drawn:=d }:=
 ⟨I.ok,I.os,I.bare,I.base,I.loc,I.cell,I.free,I.freeC,I.pin,I.hok,I.len⟩
abbrev stH(X:Cx)(a:Addr)(ns:List Int):HO:=.ext λh=>Np.SetI X.prog X.w h a (Np.byT X.w) ns
theorem oB(n:X.calm=true):CallR X (.type "set") (λxs H Q=>∃(p:Addr) (ns:List Int),xs=[.ref p]/\SqL X.K H p (ns.map V.int)/\ns.length<1000/\∀a,H a=none->Q (.ref a) (upd H a (stH X a (ns.foldl Np.ddI [])))):=by intro c s y H xs C Q I r h;obtain⟨p,ns,rfl,m,z,q⟩:=h;obtain⟨u,rfl,g⟩:=vals1 r;cases g;obtain⟨j,t,l,A⟩:=I.list m;refine PySem.set_list (ns:=ns) (I.ok.hd n) l.isList (ints_vals t) (by unfold scanBound;omega) λv D f i=>?_;exact⟨.ref _,_,I.laid (o:=stH X _ _) (λb u d=>i b u (Heap.lt_size d) d) (aac _) ⟨f,let ⟨_,_,_,e,_⟩:=f;⟨_,e⟩,λB w x k=>x.at k⟩,rfl,q _ (I.hok.fresh (aac _))⟩
theorem k4(N:X.calm=true):CallR X (.builtin "sorted") (λxs H Q=>∃(p:Addr) (ns:List Int),xs=[.ref p]/\H p=some (stH X p ns)/\ns.length<64/\∀(c:List Int) (a:Addr),c.Perm ns->c.Pairwise (·<=·)->H a=none->Q (.ref a) (upd H a (.lst (c.map V.int)))):=by
 intro j s B H xs T Q I r h;obtain⟨p,ns,rfl,C,S,q⟩:=h;obtain⟨u,rfl,z⟩:=vals1 r;cases z;have M:=(I.hok p _ C).1;refine Calls.call_function_entry kind_sorted plain_sorted entry_sorted (args_sorted1 _) ?_;unfold Builtin.«sorted»;refine wpAny_bind (m:=checkCount "sorted" 1 1 _) (wpAny_pure (wpAny_bind (Np.set_collect (A:=X.A.in1) (I.ok.hd N) M λk x d l O n y i=>?_)));have G:l.length=ns.length:=by rw[IntsAre.length y,i.length_eq]
 have U:64<=sizeLine:=by decide
 refine wpAny_bind (wpAny_newList ?_ (by rw[G];omega));have g:(k.push (seqObj "list" l.toArray 0)).get? k.objs.size=some (seqObj "list" l.toArray 0):=Heap.get?_push_size _ rfl;refine wpAny_bind (wpAny_holding (wpAny_call_entry slot_list_sort ⟨_,g,rfl⟩ entry_list_sort (list_sort_tree g y (by omega) λout c J v D=>⟨_,rfl,wpAny_pure ⟨_,rfl,?_⟩⟩) (args_list_sort _)));obtain⟨e,L⟩:=sortedHeap_at (out:=out) g;have t:Inv X j B H { s with heap:=k,toks:=x,drawn:=d }:=(I.kept n).drw;refine⟨.ref _,_,t.laid (t':=x) (a:=k.objs.size) (o:=.lst (c.map V.int)) (λb u w=>?_) (aac _) ⟨?_,out.toList,e,vals_ints J,L⟩,rfl,q c _ (v.trans i) D (t.hok.fresh (aac _))⟩
 ·have f:=Heap.lt_size w;rw[sortedHeap_old (aai f) (by rw[size_push'];exact aaW f),Heap.get?_push_ne _ _ _ (aai f)];exact w
 ·rw[aag,(v.trans i).length_eq];omega
end
section
variable{X:Cx}{C:Ct}{a:Expr}{ma:E}{p p1 p2 pos:Pos}
theorem BB(L:X.calm=true) (hg:Gl X "sorted") (hm:X.mg "sorted"=none) (t:Gl X "set") (n:X.mg "set"=none) (D:isStar a=false) (m:PDe X a (aw C ma)):PDe X (.Call (.Name "sorted" p) [.Call (.Name "set" p1) [a] [] p2] [] pos) (aw C (.sst ma)):=by
 obtain⟨te,h,s⟩:=m;refine⟨_,cz (k4 L) hg hm ic (aQ (eB (oB L) t n ym (aQ h bC (au D)) (by decide) (by decide) (au D) rfl) bC (au rfl)) (by decide) (by decide) (au rfl) rfl,λb F z H U I J Qd Q A R ⟨y,h,q⟩ k=>?_⟩;obtain⟨g,d,ds,e,_,e1,u,e4,e3,Y,h⟩:=bn5 h;obtain⟨_,l,h⟩:=bnd h;cases h;rw[iU e4]at u;refine s b F z H U I J (λr c=>r=g.1/\c=g.2) _ A R ⟨g,e1,rfl,rfl⟩ λv O r c f Z=>?_;obtain⟨m,N⟩:=Z;subst m N;have M:=dInts_map e3;subst M;have B:=f.dt u;rw[A]at B;cases B with
 |lst x t1=>
  rw[DtAll.ints' t1]at x;refine⟨_,e,rfl,x,gd_ok Y,λo T=>?_⟩;have G:Rel b F z (upd O o (stH X o (e.foldl Np.ddI []))) g.2 I J:=⟨f.drop.wf,f.drop.al,f.drop.wff,f.drop.wd.new T⟩
  refine⟨o,_,rfl,av,gd_ok l,λj a p1 p2 i=>?_⟩;have:j=sortI (e.foldl Np.ddI []):=gm (p1.trans (sortI_perm _).symm) p2 (eM _);subst this;refine k _ _ _ _ (G.push ?_) q;have w:=G.wd.adds (vs:=(sortI (e.foldl Np.ddI [])).map V.int) (ds:=(sortI (e.foldl Np.ddI [])).map PyData.int) λS _=>FzA.ints _;have:=Wd.eg w (by simp) i;rw[aa5]at this;exact this
end
end
section
section
variable{b:Bs}{S:Addr->Prop}{H:Hp}{vs us:List V}{xs zs:List OD}{A B C:List Addr}{v:V}{z:OD}
theorem Ows.addA(nt:∀c xs,H c=some (.tup xs)->¬ S c)(d:Ows b S H vs xs A)(f:Ows b S H us zs C)(e:(A++C).Nodup):∃D,Ows b S H (vs++us) (xs++zs) D/\D.Nodup/\∀c∈D,c∈A\/c∈C:=⟨A++C,Ows.append d f,e,λc a=>aaj.mp a⟩
theorem Ows.one(h:Ows b S H [v] [z] C):Ow b S H v z C:=by
 cases h with
 |cons r t=>cases t;rw[aaA];exact r
theorem Ows.setA(i:j<xs.length)(f:Ows b S H vs xs A)(k:Ows b S H [v] [z] C)(g:(A++C).Nodup):∃D,Ows b S H (vs.set j v) (xs.set j z) D/\D.Nodup/\∀c∈D,c∈A\/c∈C:=by
 obtain⟨q,d,B,e,m,rfl,n,l⟩:=f.zip (aao i);refine⟨d++(C++e),l k.one λ_ h=>h,?_,λc a=>?_⟩
 ·have p:((d++(B++e))++C).Perm (B++(d++(C++e))):=by refine((bt d B e).append_right C).trans ?_;rw[aaf];refine aa4 B ?_;rw[aaf];exact aa4 d aa2
  exact(aaC.mp (p.nodup_iff.mp g)).2.1
 ·simp only[aaj]at a ⊢;rcases a with a|a|a
  ·exact .inl (.inl a)
  ·exact .inr a
  ·exact .inl (.inr (.inr a))
theorem mj(e:ws.length=xs.length):(putK ws k v).map (·.1)=(bE k d (ws.map (·.1)) xs).1:=by
 unfold putK bE;rw[List.any_map];have f:((λq=>decide (q=k)) ∘ λx:Key×V=>x.1)=λc=>decide (c.1=k):=rfl;rw[f];by_cases a:(ws.any λc=>decide (c.1=k))=true
 ·rw[if_pos a,if_pos a,aa5];refine acs λq _=>?_;simp only[Function.comp];split<;>rfl
 ·rw[if_neg a,if_neg a,aay];rfl
theorem jW(h:Fz b.K S H v d):∀{ws:List (Key×V)}{xs:List OD}{A:List Addr},Ows b S H (ws.map (·.2)) xs A->∃D,Ows b S H ((ws.map (λc=>if c.1=k then (c.1,v) else c)).map (·.2)) (List.zipWith (λq x=>if q=k then .fz d else x) (ws.map (·.1)) xs) D/\D.Sublist A
 |[],_,_,.nil=>⟨[],.nil,List.Sublist.refl _⟩
 | (g,q)::ws,x::xs,_,.cons (A:=A1) r t=>by
  obtain⟨D,f,e⟩:=jW h t;simp only[aan,List.zipWith_cons_cons];by_cases a:g=k
  ·rw[if_pos a,if_pos a];exact⟨[]++D,.cons (.fz h) f,(aaN D).symm▸e.trans (List.sublist_append_right _ _)⟩
  ·rw[if_neg a,if_neg a];exact⟨A1++D,.cons r f,(List.Sublist.refl A1).append e⟩
theorem jX(i:Ows b S H (ws.map (·.2)) xs A)(o:Ows b S H [v] [.fz d] C)(m:(A++C).Nodup):∃D,Ows b S H ((putK ws k v).map (·.2)) (bE k d (ws.map (·.1)) xs).2 D/\D.Nodup/\∀c∈D,c∈A\/c∈C:=by
 have h:Fz b.K S H v d:=by cases o with|cons r t=>cases r with|fz f=>exact f
 have j:=(aaC.mp m).1;unfold putK bE;rw[List.any_map];have n:((λq=>decide (q=k)) ∘ λx:Key×V=>x.1)=λg=>decide (g.1=k):=rfl;rw[n];by_cases a:(ws.any λg=>decide (g.1=k))=true
 ·rw[if_pos a,if_pos a];obtain⟨D,p,l⟩:=jW h i;exact⟨D,p,l.nodup j,λc e=>.inl (l.subset e)⟩
 ·rw[if_neg a,if_neg a,aay];exact⟨A++[],Ows.append i (.cons (.fz h) .nil),by simpa using j,λc e=>.inl (by simpa using e)⟩
end
section
variable{X:Cx}{W:Nat->Prop}{m:Nat}{C:Ct}{a b c e e2 kx:Expr}{es:List Expr}{sts s1 s2:List Stmt}{st:Stmt}{ma mb mc mk':E}{mes:Es}{ms:S'}{mss ma' mb':Ss}{pos p p1 p2 p3 pos' apos cpos:Pos}{x:Str}{i j:Nat}{ps:List Acc}
theorem yx{o i:Expr}(h:bz i=false):∀v,assign (.Subscript o i pos) env v=(do
   let ov <-holding [v] (eval o env)
   let iv <-holding [v,ov] (eval i env)
   standAt pos
   holding [v,ov,iv] (setItem ov iv v)
   release [v,ov,iv] []):=by
 cases i<;>first|(intro _;rfl)|cases h
theorem uv{env:Env}(h:isStar e=false):((backTo cpos (starEach [e] env)).all (λx=>!x.1)&&(backToKw cpos (keywordEach [] env)).all (λx=>x.1.isSome)
   && decide ([e].length+([]:List Keyword).length+(if ([]:List Keyword).isEmpty then 0 else 1)<30))=true:=by
 cases e<;>first|rfl|cases h
theorem Rel.cell{b:Bs}{τ:List V}{x:OD}(R:Rel b F σ H ρ τ θ)(q:ρ[i]?.join=some x)(n:x.at ks=some (.lst xs))(ev:σ[i]?=some (some v))(ch:Chn b H v x ks u (.lst xs)):∃l vs,u=.ref l/\H l=some (.lst vs):=by obtain⟨r,d,k⟩:=R.slot (join_some q);rw[ev]at d;cases d;obtain⟨o,h,f,g,_,_⟩:=Wd.rd (us:=[]) (zs:=[]) k rfl n;exact⟨o,h,(Chn.det ch f).1,g⟩
theorem Rel.uk{b:Bs}{F:List Fr}(R:Rel b F σ H ρ τ θ)(f:ρ[i]?.join=some (.lst xs)):∃v,σ[i]?=some (some v)/\∃l vs,v=.ref l/\H l=some (.lst vs):=by obtain⟨v,d⟩:=R.wf.get (join_some f);exact⟨v,d,R.cell f rfl d .nil⟩
theorem Rel.addAt{b:Bs}{x o:OD}{v f:V}(R:Rel b F σ H ρ (f::τ) (.val o::θ))(y:ρ[i]?.join=some x)(n:x.at ks=some (.lst xs))(ev:σ[i]?=some (some v))(ch:Chn b H v x ks (.ref l) (.lst xs))(hz:xs.length<1000000):
  ∃vs,H l=some (.lst vs)/\vs.length<sizeLine/\Rel b F σ (upd H l (.lst (vs++[f]))) (ρ.set i (some (OD.put (.lst (xs++[o])) ks x))) τ θ:=by
 obtain⟨D,d,w⟩:=Rel.open (us:=[f]) (zs:=[o]) R rfl y;rw[ev]at d;cases d;obtain⟨B,vs,g,s,z,h⟩:=w.rd rfl n;obtain⟨u,_⟩:=Chn.det ch g;cases u;exact⟨vs,s,aar (by omega) (by decide:1000001<=sizeLine),Rel.close (Rel.rest (us:=[f]) (zs:=[o]) R rfl) ev (h (vs++[f]) (xs++[o]) λS H A C r q k t=>Ows.addA r q k t)⟩
theorem BC(G:X.N[i]?=some x) (hv:Vis X.env.scope x) (hd:(x==("__debug__":Str))=false) (l:(x==("__classdict__":Str))=false) (d:(apos.endLine==cpos.line)=true) (t:isStar e=false):
  PDe X e (aw C ma)->PDs X W (.Expr (.Call (.Attribute (.Name x pos') "append" apos) [e] [] cpos) pos) (gp C (.app i ma))
 |⟨_,h,s⟩=>⟨_,fE (lK abX PySem.F.slot_list_append PySem.F.type_list_append g7 (bV G hv hd l) (aQ h bC (au t)) rfl (uv t) d (au t) (bJ rfl)) rfl,λb F σ H ρ τ θ Dd D T n R ⟨y,h,q⟩ E=>by
  obtain⟨x0,a0,z,o,x1,B,Y,e1,e2,w,h⟩:=bn5 h;obtain⟨xs,_,J,O,h⟩:=bn2 h;cases h;rw[b9 Y]at B;rw[b9 J]at w;obtain⟨v,A,u,k,rfl,g⟩:=R.uk B;refine⟨.ref u,A,.inl ⟨rfl,k,SqL.of g⟩,?_⟩;refine s b F σ H ρ τ θ (λr f=>r=z.1/\f=z.2) _ T R ⟨z,e1,rfl,rfl⟩ λv1 H1 r U L M=>?_;obtain⟨Q,I⟩:=M;subst Q I;obtain⟨vs,Z,S,R3⟩:=Rel.addAt (L.own1 e2) w rfl A .nil (gd_ok O);exact⟨u,vs,v1,rfl,rfl,Z,S,E.nx σ _ _ R3 q⟩⟩
theorem BD(hN:X.N[i]?=some x) (hv:Vis X.env.scope x) (hd:(x==("__debug__":Str))=false) (L:(x==("__classdict__":Str))=false) (f:(apos.endLine==cpos.line)=true) (M:isStar e=false):
  PDe X e (aw C ma)->PDs X W (.Expr (.Call (.Attribute (.Name x pos') "extend" apos) [e] [] cpos) pos) (gp C (.ext i ma))
 |⟨_,h,s⟩=>⟨_,fE (lK abX PySem.F.slot_list_extend PySem.F.type_list_extend ny (bV hN hv hd L) (aQ h bC (au M)) rfl (uv M) f (au M) (bJ rfl)) rfl,λb F σ H ρ τ θ Dd D hK n R ⟨y,h,q⟩ E=>by
  obtain⟨x0,a1,z,Z,x1,e0,f0,e1,t,T,h⟩:=bn5 h;obtain⟨xs,_,f1,Y,h⟩:=bn2 h;cases h;have Y:=gd_ok Y;have t:=kX t;rw[b9 f0]at e0;rw[b9 f1]at T;obtain⟨v,O,U,G,rfl,B⟩:=R.uk e0;refine⟨.ref U,O,.inl ⟨rfl,G,SqL.of B⟩,?_⟩;refine s b F σ H ρ τ θ (λr k=>r=z.1/\k=z.2) _ hK R ⟨z,e1,rfl,rfl⟩ λu H1 r a0 I hZ=>?_;obtain⟨J,o⟩:=hZ;subst J o;rw[t]at I;obtain⟨bd,Q,rfl,hB,d,w2⟩:=Wd.x5 I.wd;have R2:Rel b F σ H1 z.2 (Q++τ) (Z.map OR.val++θ):=Rel.spread (Rel.drop I) d w2;obtain⟨v',g,w⟩:=R2.open d T;rw[O]at g;cases g;obtain⟨l,vs,ch,hH,hl,go⟩:=w.rd (ks:=[]) d rfl;cases ch;have w3:=go (vs++Q) (xs++Z) λS H A C nt J o nd=>⟨A++C,Ows.append J o,nd,λc hc=>aaj.mp hc⟩
  exact⟨U,bd,vs,Q,rfl,rfl,hH,hB,aat (by omega:_<=1000000) (by decide),E.nx σ _ _ (Rel.close (R2.rest d) O w3) q⟩⟩
theorem Ew(h:isStar e=false)(h':isStar e2=false):((backTo cpos (starEach [e,e2] env)).all (λx=>!x.1)&&(backToKw cpos (keywordEach [] env)).all (λx=>x.1.isSome)
   && decide ([e,e2].length+([]:List Keyword).length+(if ([]:List Keyword).isEmpty then 0 else 1)<30))=true:=by
 rw[au h,au h'];rfl
theorem Ows.y2{b:Bs}(f:Fz b.K S H v d):∀(k:Nat) {vs:List V}{xs:List OD}{A:List Addr},Ows b S H vs xs A->Ows b S H (vs.take k++v::vs.drop k) (xs.take k++.fz d::xs.drop k) A
 |0,_,_,A,h=>.cons (A:=[]) (.fz f) h
 |_+1,_,_,_,.nil=>.cons (.fz f) .nil
 |k+1,_,_,_,.cons r t=>.cons r (Ows.y2 f k t)
theorem BE(hN:X.N[i]?=some x) (hv:Vis X.env.scope x) (hd:(x==("__debug__":Str))=false) (Y:(x==("__classdict__":Str))=false) (f:(apos.endLine==cpos.line)=true) (M:isStar kx=false) (g:isStar e=false):
  PDe X kx (aw C mk')->PDe X e (aw C ma)->PDs X W (.Expr (.Call (.Attribute (.Name x pos') "insert" apos) [kx,e] [] cpos) pos) (gp C (.ins i mk' ma))
 |⟨_,h0,s0⟩,⟨_,h,s⟩=>⟨_,fE (lK abX PySem.F.slot_list_insert PySem.F.type_list_insert nP (bV hN hv hd Y) (aQ h0 (aQ h bC (au g)) (au M)) rfl (Ew M g) f (au M) (bJ (by simp[g]))) rfl,λb F σ H ρ τ θ Dd D hK n R ⟨y,h,q⟩ E=>by
  obtain⟨x0,a0,G,z,dk,e0,f0,e1,e2,e3,h⟩:=bn5 h;obtain⟨k,d,_,x1,xs,e4,e5,e6,eb,f1,h⟩:=bn5 h;obtain⟨_,t,h⟩:=bnd h;cases h;have t:=gd_ok t;have e6:=gd_ok e6;rw[b9 f0]at e0;rw[b9 f1]at eb;rw[aH e4]at e3;obtain⟨v,O,l0,U,rfl,Q⟩:=R.uk e0;refine⟨.ref l0,O,.inl ⟨rfl,U,SqL.of Q⟩,?_⟩;refine s0 b F σ H ρ τ θ (λr o=>r=G.1/\o=G.2) _ hK R ⟨G,e1,rfl,rfl⟩ λv0 H1 r a1 R1 T=>?_;obtain⟨B,L⟩:=T;subst B L;refine s b F σ H1 G.2 (v0::τ) (G.1::θ) (λr o=>r=z.1/\o=z.2) _ hK R1 ⟨z,e2,rfl,rfl⟩ λu H2 r a2 J T=>?_;obtain⟨B,L⟩:=T;subst B L;cases J.dt2 e3;have sc:Sc u d:=by have hh:=J.dt e5;cases hh<;>first|constructor|cases e6
  obtain⟨v',I,w⟩:=Rel.open (us:=[]) (zs:=[]) J.drop.drop rfl eb;rw[O]at I;cases I;obtain⟨l,Z,ch,hH,hl,go⟩:=w.rd (ks:=[]) rfl rfl;cases ch;have w3:=go (Z.take k.toNat++u::Z.drop k.toNat) (xs.take k.toNat++.fz d::xs.drop k.toNat) λS H A C nt B L nd=>⟨A,Ows.y2 sc.fz _ B,(aaC.mp nd).1,λc hc=>.inl hc⟩
  exact⟨l0,Z,k,u,rfl,rfl,hH,t.1,by rw[hl];exact t.2.1,by rw[hl];exact t.2.2,E.nx σ _ _ (Rel.close J.drop.drop O w3) q⟩⟩
theorem BF(hN:X.N[i]?=some x) (hv:Vis X.env.scope x) (hd:(x==("__debug__":Str))=false) (G:(x==("__classdict__":Str))=false) (u:bz kx=false) (hs:swapsWith e (some (.Subscript (.Name x pos') kx p2)) pos.line X.env=pure false) (hw:swappedStores [.Subscript (.Name x pos') kx p2] e X.env=pure none):
  PDe X e (aw C ma)->PDe X kx (aw C mk')->PDs X W (.Assign [.Subscript (.Name x pos') kx p2] e pos) (gp C (.sti i mk' ma))
 |⟨_,g,s1⟩,⟨_,f,s2⟩=>⟨_,oV g (wA (bV hN hv hd G) f set_list (yx u)) hs hw rfl,λb F σ H ρ τ θ Dd D Q n R ⟨y,h,q⟩ E=>by
  obtain⟨z,o,e1,e2,h⟩:=bn2 h;refine s1 b F σ H ρ τ θ (λr d=>r=z.1/\d=z.2) _ Q R ⟨z,e1,rfl,rfl⟩ λL H1 r a1 R1 B=>?_;obtain⟨g,f⟩:=B;subst g f;have Y:=R1.own1 e2;obtain⟨x0,a2,t,dk,k,e0,f0,e3,O,fk,h⟩:=bn5 h;obtain⟨x1,xs,M,T,f1,Z,h⟩:=bn3 h;rw[aH fk]at O;rw[b9 f1]at T
  ·obtain⟨v,I⟩:=Y.wf.get (join_some e0);refine⟨v,I,s2 b F σ H1 _ _ _ (λr d=>r=t.1/\d=t.2) _ Q Y ⟨t,e3,rfl,rfl⟩ λv2 H2 r a0 J B=>?_⟩;obtain⟨g,f⟩:=B;subst g f
   ·cases h;have u:=J.dt O;cases u;obtain⟨v',s,w⟩:=Rel.open (us:=[L]) (zs:=[o.1]) J.drop rfl T;rw[I]at s;cases s;obtain⟨l,U,ch,hH,hl,go⟩:=w.rd (ks:=[]) rfl rfl;cases ch;refine⟨l,U,k,M,rfl,rfl,hH,by rw[hl];exact Z,?_⟩;exact E.nx σ _ _ (Rel.close (Rel.rest (us:=[L]) (zs:=[o.1]) J.drop rfl) I (go (U.set M L) (xs.set M o.1) λS H A C nt g f nd=>Ows.setA (xQ Z) g f nd)) q⟩
theorem BG(hu:X.A.units+1<cLine) (hN:X.N[i]?=some x) (hv:Vis X.env.scope x) (hd:(x==("__debug__":Str))=false) (J:(x==("__classdict__":Str))=false) (hs:swapsWith e (some (.Subscript (.Name x pos') kx p2)) pos.line X.env=pure false):
  PDe X e (aw C ma)->PDe X kx (aw C mk')->PDs X W (.Assign [.Subscript (.Name x pos') kx p2] e pos) (gp C (.sdk i mk' ma))
 |⟨_,g,s1⟩,⟨_,f,s2⟩=>⟨_,tm hu (bV hN hv hd J) f g hs,λb F σ H ρ τ θ Dd D Y n R ⟨y,h,q⟩ E=>by
  obtain⟨z,o,e1,e2,h⟩:=bn2 h;refine s1 b F σ H ρ τ θ (λr d=>r=z.1/\d=z.2) _ Y R ⟨z,e1,rfl,rfl⟩ λI H1 r a1 R1 G=>?_;obtain⟨g,f⟩:=G;subst g f;have R2:=R1.frz1 e2;obtain⟨x0,_,t,kd,U,e0,f0,e3,e4,e5,h⟩:=bn5 h;obtain⟨x1,uu,_,Z,f1,B,h⟩:=bn3 h;have B:=gd_ok B;rw[iT f1]at Z
  ·obtain⟨v,L⟩:=R2.wf.get (join_some e0);refine⟨v,L,s2 b F σ H1 _ _ _ (λr d=>r=t.1/\d=t.2) _ Y R2 ⟨t,e3,rfl,rfl⟩ λv2 H2 r a0 O G=>?_⟩;obtain⟨g,f⟩:=G;subst g f
   ··cases h
     have hk:=O.dt e4;have M:v2=kV U:=by cases kd<;>cases e5<;>cases hk<;>rfl
     subst M;obtain⟨v',u,w⟩:=Rel.open (us:=[I]) (zs:=[.fz o.1]) O.drop rfl Z;rw[L]at u;cases u;obtain⟨l,ws,ch,hH,s,T,Q⟩:=w.u5 (ks:=[]) rfl rfl;cases ch;obtain⟨ks,xs⟩:=uu;simp only at s T q Q B;subst s;refine⟨l,_,rfl,DPut.k hH (aar (by omega) (by decide:1000001<=sizeLine)),?_⟩;exact E.nx σ _ _ (Rel.close (Rel.rest (us:=[I]) (zs:=[.fz o.1]) O.drop rfl) L (Q (putK ws U I) _ _ (mj T) λS H A C nt g f nd=>jX g f nd)) q⟩
theorem mo{K:Waa}{H:Hp}:∀{xs:List V}{ds:List PyData}{ns:List Int},DtAll K H xs ds->gk ds=some ns->xs=ns.map V.int
 |[],_,ns,.nil,e=>by cases e;rfl
 |_::_,_::_,ns,.cons h t,e=>by obtain⟨i,r,d,e2,e⟩:=bn2 e;cases e;rw[aH d]at h;cases h;rw[mo t e2];rfl
theorem yy{r:OR}{ds:List PyData}(h:D8 r=some ds):r=.val (.fz (.tuple ds)):=by
 unfold D8 at h;split at h
 ·cases h;rfl
 ·cases h
theorem BH{o1 J:Expr}{p3:Pos}(f:(apos.endLine==cpos.line)=true)(A:isStar e=false):PDe X (.Subscript o1 J p3) (aw C mk')->PDe X e (aw C ma)->PDe X (.Call (.Attribute (.Subscript o1 J p3) "index" apos) [e] [] cpos) (aw C (.idx mk' ma))
 |⟨_,h1,s1⟩,⟨_,h2,s2⟩=>⟨_,lK PySem.F.plainAttrs_tuple PySem.F.slot_tuple_index PySem.F.type_tuple_index oo h1 (aQ h2 bC (au A)) rfl (uv A) f (au A) (bJ rfl),λb F σ H ρ τ θ Qd Q k R ⟨y,h,q⟩ kk=>by
  obtain⟨x,I,z,d,n,T,e2,e3,G,e5,h⟩:=bn5 h;obtain⟨ns,j,e6,Z,h⟩:=bn2 h;cases h;refine s1 b F σ H ρ τ θ (λr g=>r=x.1/\g=x.2) _ k R ⟨x,T,rfl,rfl⟩ λv N r O l s=>?_;obtain⟨D,o⟩:=s;subst D o;rw[yy e2]at l;have Y:=l.dt (d:=.tuple I) rfl;cases Y with
  |@tup a xs _ hq hall=>
   rw[k]at hq;refine⟨.inr (.inl ⟨rfl,_,hq⟩),?_⟩;refine s2 b F σ N _ _ _ (λr g=>r=z.1/\g=z.2) _ k l ⟨z,e3,rfl,rfl⟩ λu L r M B s=>?_;obtain⟨D,o⟩:=s;subst D o;rw[aH e5]at G;have S:=B.dt G;cases S;have w:=B.drop.dt (d:=.tuple I) rfl;cases w with
   |@tup _ xs2 _ hq2 hall2=>
    rw[k]at hq2;rw[mo hall2 e6]at hq2;obtain⟨U,p1,p2⟩:=aci.mp Z;refine⟨a,ns,n,j,rfl,rfl,hq2,?_,λm hm t=>?_,kk _ L _ _ (B.drop.drop.sc (.int j)) q⟩
    ·rw[aao U,Daa p1]
    ·obtain⟨hl,t⟩:=aah.mp t;exact p2 m hm (Dac t)⟩
theorem BI(S:X.A.units+1<cLine) (hN:X.N[i]?=some x) (hv:Vis X.env.scope x) (hd:(x==("__debug__":Str))=false) (O:(x==("__classdict__":Str))=false) (g:(apos.endLine==cpos.line)=true) (hs:isStar e=false):PDe X e (aw C ma)->PDe X (.Call (.Attribute (.Name x pos') "get" apos) [e] [] cpos) (aw C (.dgt i ma))
 |⟨_,h,s⟩=>⟨_,pN S (bV hN hv hd O) h ⟨rfl,uv hs,g,by rw[au hs];rfl⟩,λb F σ H ρ τ θ Qd Q hK R ⟨y,h,q⟩ kk=>by
  obtain⟨x0,q0,z,d,k,a0,a1,e1,e2,e3,h⟩:=bn5 h;obtain⟨x1,Y,w,L,e5,t,h⟩:=bn3 h;cases h;rw[iT a1]at a0;rw[iT e5]at L;obtain⟨v,T,w0⟩:=R.slot (join_some a0);obtain⟨ad,ws,ch,hH,_⟩:=Wd.u5 (us:=[]) (zs:=[]) (ks:=[]) w0 rfl rfl;cases ch;refine⟨_,T,ad,rfl,.inl ⟨ws,.inl hH⟩,?_⟩;refine s b F σ H ρ τ θ (λr J=>r=z.1/\J=z.2) _ hK R ⟨z,e1,rfl,rfl⟩ λu Z r a2 G hZ=>?_;obtain⟨g1,g2⟩:=hZ;subst g1 g2;obtain⟨v2,o,w2⟩:=G.slot (join_some L);rw[T]at o;cases o;obtain⟨a3,f,M,n,l,B,_⟩:=Wd.u5 (us:=[]) (zs:=[]) (ks:=[]) w2 rfl rfl;cases M;have S:=G.dt e2;have U:u=kV k:=by cases d<;>cases e3<;>cases S<;>rfl
  subst U;refine⟨_,DGet.k n,?_⟩;unfold dgV at t;cases D:Y.1.findIdx? (λq=>decide (q=k)) with
  |none=>
   rw[D]at t;cases t;have hn:valV f k=none:=by have:=iX (k:=k) (ws:=f);rw[l,acj.mp D |> λz=>(List.any_eq_false.mpr λa ha=>by rw[z a ha];decide)]at this;exact Option.isSome_eq_false_iff.mp this |> Option.isNone_iff_eq_none.mp
   rw[hn];exact kk _ Z _ _ (G.drop.sc .non) q
  |some j=>
   rw[D]at t;obtain⟨zz,I,e8⟩:=bnd t;rw[iS e8]at I;have hj:j<f.length:=by rw[B];exact(aah.mp I).1
   have hw:(f[j]?).map (·.2)=some f[j].2:=by rw[aao hj];rfl
   rw[iW (by rw[l];exact D) hw];exact kk _ Z _ _ (Rel.partZ G.drop (ks:=[j]) L (by show (match Y.2[j]? with|some z=>OD.at [] z|none=>none)=_;rw[I];rfl) T (.cons (.dic n l B hw I) .nil)) q⟩
inductive Dsp:List (Str×Int)->List (Option Expr)->List Expr->Prop
 |nil:Dsp [] [] []
 |cons {x n j k p p' ks es vs}:Dsp ks es vs->Dsp ((x,n)::ks) (some (.Constant (.str x) j p)::es) (.Constant (.int n) k p'::vs)
abbrev GJ(ks:List (Str×Int)):List (TE×TE):=ks.map λz=>(tC (.str z.1),tC (.int z.2))
abbrev GK(ks:List (Str×Int)):List (Key×V):=ks.map λz=>(.inr z.1,.int z.2)
theorem Dsp.all{ks:List (Str×Int)}{es:List (Option Expr)}{vs:List Expr}(h:Dsp ks es vs):es.all (·.isSome)=true/\es.length=vs.length/\es.length=ks.length:=by
 induction h with
 |nil=>exact⟨rfl,rfl,rfl⟩
 |cons _ d=>exact⟨by simp[d.1],by simp[d.2.1],by simp[d.2.2]⟩
end
end
section
section
variable{X:Cx}{C:Ct}{a e e2:Expr}{es:List Expr}{ma mb:E}{mes:Es}{pos p p1 p2 apos:Pos}{x:Str}{i j:Nat}{k n:Nat}{f:Addr}{fd:FuncData}{ps:List Str}{sp:DSp}{c m:Str}{ff:Nat}
def spC(g:List OD->Option (OD×List OD)):DSp:=λb Q=>∃w,g b=some w/\Q w.1 w.2
theorem qK(g:List OD->Option (OD×List OD)):tD (spC g):=λb P R h ⟨w,e,q⟩=>⟨w,e,h _ _ q⟩
theorem Wd.newObj{p dx:Addr}(w:Wd b H L)(h:H p=none)(g:H dx=none)(r:dx≠p):Wd b (upd (upd H dx (.own p)) p (.ins (aI b.K c) dx [])) ((.ref p,.obj c [] [])::L):=by
 obtain⟨A,l,G,s⟩:=w.out;have v:=w.al l h;have y:=w.al l g;have D:=w.qd l;have B:=w.new g (o:=.own p);have t:upd H dx (.own p) p=none:=by rw[upd_ne (λe=>r e.symm)];exact h
 have q:=B.new t (o:=.ins (aI b.K c) dx []);have J:Kp (λc=>c∈A\/b.S0 c) H (upd (upd H dx (.own p)) p (.ins (aI b.K c) dx [])):=⟨λc o e _=>by
   rw[upd_ne (λz=>by subst z;rw[h]at e;cases e),upd_ne (λz=>by subst z;rw[g]at e;cases e)];exact e,λc e=>by
   by_cases z:c=p
   ·subst z;exact h
   ·rw[upd_ne z]at e;by_cases u:c=dx
    ·subst u;exact g
    ·rw[upd_ne u]at e;exact e⟩
 have n:∀c,(c∈p::dx::A\/b.S0 c)->(c∈A\/b.S0 c)\/H c=none:=λc z=>by
  rcases z with z|z
  ·rcases aaa.mp z with rfl|z
   ·exact .inr h
   ·rcases aaa.mp z with rfl|z
    ·exact .inr g
    ·exact .inl (.inl z)
  ·exact .inl (.inr z)
 refine⟨⟨p::dx::A,Ows.cons (A:=[p,dx]) (.obj av (by rw[upd_ne r];exact av) rfl rfl .nil) (Ows.step J n D (λa d=>?_) l),aaF.mpr ⟨λz=>?_,aaF.mpr ⟨λz=>y (.inl z),G⟩⟩,λa d=>?_⟩,q.fr,q.s0,q.nt⟩
 ·have I:a≠p:=λe=>v (.inl (e▸d));have e2:a≠dx:=λe=>y (.inl (e▸d));rw[upd_ne I,upd_ne e2]
 ·rcases aaa.mp z with z|z
  ·exact r z.symm
  ·exact v (.inl z)
 ·rcases aaa.mp d with rfl|d
  ·exact .inl (w.u3 h)
  ·rcases aaa.mp d with rfl|d
   ·exact .inl (w.u3 g)
   ·exact s a d
end
end
section
def bF(e:PySem.Expr):Option (Str):=if h:e.ctorIdx=23 then some (@PySem.Expr.Name.elim (λ_=>Str) e h λx _=>x) else none
theorem asNm_ok{e:PySem.Expr}{z:Str}(h:bF e=some z):∃p,e=.Name z p:=by
 by_cases a:e.ctorIdx=23
 ·revert h;exact@PySem.Expr.Name.elim (λe=>bF e=some z->∃p,e=.Name z p) e a λx p h=>by cases h;exact⟨p,rfl⟩
 ·rw[bF,dif_neg a]at h;cases h
def gq(e:PySem.Expr):Option (Const):=if h:e.ctorIdx=19 then some (@PySem.Expr.Constant.elim (λ_=>Const) e h λc _ _=>c) else none
theorem dP{e:PySem.Expr}{z:Const}(h:gq e=some z):∃j p,e=.Constant z j p:=by
 by_cases a:e.ctorIdx=19
 ·revert h;exact@PySem.Expr.Constant.elim (λe=>gq e=some z->∃j p,e=.Constant z j p) e a λc j p h=>by cases h;exact⟨j,p,rfl⟩
 ·rw[gq,dif_neg a]at h;cases h
def mq(e:PySem.Expr):Option (Expr×Operator×Expr):=if h:e.ctorIdx=2 then some (@PySem.Expr.BinOp.elim (λ_=>Expr×Operator×Expr) e h λx o y _=>(x,o,y)) else none
theorem qL(h:mq e=some z):∃p,e=.BinOp z.1 z.2.1 z.2.2 p:=by
 by_cases a:e.ctorIdx=2
 ·revert h;exact@PySem.Expr.BinOp.elim (λe=>mq e=some z->∃p,e=.BinOp z.1 z.2.1 z.2.2 p) e a λx o y p h=>by cases h;exact⟨p,rfl⟩
 ·rw[mq,dif_neg a]at h;cases h
def jY(e:PySem.Expr):Option (Expr×List CmpOp×List Expr):=if h:e.ctorIdx=15 then some (@PySem.Expr.Compare.elim (λ_=>Expr×List CmpOp×List Expr) e h λx a b _=>(x,a,b)) else none
theorem asCmp_ok(h:jY e=some z):∃p,e=.Compare z.1 z.2.1 z.2.2 p:=by
 by_cases a:e.ctorIdx=15
 ·revert h;exact@PySem.Expr.Compare.elim (λe=>jY e=some z->∃p,e=.Compare z.1 z.2.1 z.2.2 p) e a λx b c p h=>by cases h;exact⟨p,rfl⟩
 ·rw[jY,dif_neg a]at h;cases h
def uw(e:PySem.Expr):Option (BoolOp×List Expr×Pos):=if h:e.ctorIdx=0 then some (@PySem.Expr.BoolOp.elim (λ_=>BoolOp×List Expr×Pos) e h λo a p=>(o,a,p)) else none
theorem ux(h:uw e=some z):e=.BoolOp z.1 z.2.1 z.2.2:=by
 by_cases a:e.ctorIdx=0
 ·revert h;exact@PySem.Expr.BoolOp.elim (λe=>uw e=some z->e=.BoolOp z.1 z.2.1 z.2.2) e a λo b p h=>by cases h;exact rfl
 ·rw[uw,dif_neg a]at h;cases h
def oC(e:PySem.Expr):Option (UnaryOp×Expr):=if h:e.ctorIdx=3 then some (@PySem.Expr.UnaryOp.elim (λ_=>UnaryOp×Expr) e h λo x _=>(o,x)) else none
theorem mr{e:PySem.Expr}{z:UnaryOp×Expr}(h:oC e=some z):∃p,e=.UnaryOp z.1 z.2 p:=by
 by_cases a:e.ctorIdx=3
 ·revert h;exact@PySem.Expr.UnaryOp.elim (λe=>oC e=some z->∃p,e=.UnaryOp z.1 z.2 p) e a λo x p h=>by cases h;exact⟨p,rfl⟩
 ·rw[oC,dif_neg a]at h;cases h
def uy(e:PySem.Expr):Option (Expr×Expr×Expr):=if h:e.ctorIdx=5 then some (@PySem.Expr.IfExp.elim (λ_=>Expr×Expr×Expr) e h λc a b _=>(c,a,b)) else none
theorem uz(h:uy e=some z):∃p,e=.IfExp z.1 z.2.1 z.2.2 p:=by
 by_cases d:e.ctorIdx=5
 ·revert h;exact@PySem.Expr.IfExp.elim (λe=>uy e=some z->∃p,e=.IfExp z.1 z.2.1 z.2.2 p) e d λc a b p h=>by cases h;exact⟨p,rfl⟩
 ·rw[uy,dif_neg d]at h;cases h
def cv(e:PySem.Expr):Option (List Expr):=if h:e.ctorIdx=25 then some (@PySem.Expr.Tuple.elim (λ_=>List Expr) e h λa _ _=>a) else none
theorem asTup_ok(h:cv e=some z):∃k p,e=.Tuple z k p:=by
 by_cases a:e.ctorIdx=25
 ·revert h;exact@PySem.Expr.Tuple.elim (λe=>cv e=some z->∃k p,e=.Tuple z k p) e a λb k p h=>by cases h;exact⟨k,p,rfl⟩
 ·rw[cv,dif_neg a]at h;cases h
def mw(e:PySem.Expr):Option (List Expr):=if h:e.ctorIdx=24 then some (@PySem.Expr.List.elim (λ_=>List Expr) e h λa _=>a) else none
theorem qM(h:mw e=some z):∃p,e=.List z p:=by
 by_cases a:e.ctorIdx=24
 ·revert h;exact@PySem.Expr.List.elim (λe=>mw e=some z->∃p,e=.List z p) e a λb p h=>by cases h;exact⟨p,rfl⟩
 ·rw[mw,dif_neg a]at h;cases h
def cM(e:PySem.Expr):Option (Expr×Expr):=if h:e.ctorIdx=21 then some (@PySem.Expr.Subscript.elim (λ_=>Expr×Expr) e h λx y _=>(x,y)) else none
theorem asSub_ok(h:cM e=some z):∃p,e=.Subscript z.1 z.2 p:=by
 by_cases a:e.ctorIdx=21
 ·revert h;exact@PySem.Expr.Subscript.elim (λe=>cM e=some z->∃p,e=.Subscript z.1 z.2 p) e a λx y p h=>by cases h;exact⟨p,rfl⟩
 ·rw[cM,dif_neg a]at h;cases h
def jZ(e:PySem.Expr):Option (Option Expr×Option Expr×Option Expr):=if h:e.ctorIdx=26 then some (@PySem.Expr.Slice.elim (λ_=>Option Expr×Option Expr×Option Expr) e h λl a s _=>(l,a,s)) else none
theorem qN(h:jZ e=some z):∃p,e=.Slice z.1 z.2.1 z.2.2 p:=by
 by_cases a:e.ctorIdx=26
 ·revert h;exact@PySem.Expr.Slice.elim (λe=>jZ e=some z->∃p,e=.Slice z.1 z.2.1 z.2.2 p) e a λl b s p h=>by cases h;exact⟨p,rfl⟩
 ·rw[jZ,dif_neg a]at h;cases h
def dr(e:PySem.Expr):Option (Expr×List Expr×List Keyword×Pos):=if h:e.ctorIdx=16 then some (@PySem.Expr.Call.elim (λ_=>Expr×List Expr×List Keyword×Pos) e h λf b a p=>(f,b,a,p)) else none
theorem cU(h:dr e=some z):e=.Call z.1 z.2.1 z.2.2.1 z.2.2.2:=by
 by_cases a:e.ctorIdx=16
 ·revert h;exact@PySem.Expr.Call.elim (λe=>dr e=some z->e=.Call z.1 z.2.1 z.2.2.1 z.2.2.2) e a λf c b p h=>by cases h;exact rfl
 ·rw[dr,dif_neg a]at h;cases h
def ie(e:PySem.Expr):Option (Expr×Str×Pos):=if h:e.ctorIdx=20 then some (@PySem.Expr.Attribute.elim (λ_=>Expr×Str×Pos) e h λo f p=>(o,f,p)) else none
theorem asAtt_ok(h:ie e=some z):e=.Attribute z.1 z.2.1 z.2.2:=by
 by_cases a:e.ctorIdx=20
 ·revert h;exact@PySem.Expr.Attribute.elim (λe=>ie e=some z->e=.Attribute z.1 z.2.1 z.2.2) e a λo f p h=>by cases h;exact rfl
 ·rw[ie,dif_neg a]at h;cases h
def BJ(e:PySem.Expr):Option (List (Option Expr)×List Expr):=if h:e.ctorIdx=6 then some (@PySem.Expr.Dict.elim (λ_=>List (Option Expr)×List Expr) e h λa b _=>(a,b)) else none
def k5(e:PySem.Expr):Option (Expr×List Comprehension×Scope×Pos):=if h:e.ctorIdx=8 then some (@PySem.Expr.ListComp.elim (λ_=>Expr×List Comprehension×Scope×Pos) e h λx a s p=>(x,a,s,p)) else none
theorem mx(h:k5 e=some z):e=.ListComp z.1 z.2.1 z.2.2.1 z.2.2.2:=by
 by_cases a:e.ctorIdx=8
 ·revert h;exact@PySem.Expr.ListComp.elim (λe=>k5 e=some z->e=.ListComp z.1 z.2.1 z.2.2.1 z.2.2.2) e a λx b s p h=>by cases h;exact rfl
 ·rw[k5,dif_neg a]at h;cases h
def Ex:Const->Option Int|.int k=>some k|_=>none
def Ey:Const->Option Str|.str k=>some k|_=>none
def Ez:Const->Option Bool|.bool k=>some k|_=>none
def EA:Const->Bool|.none=>true|_=>false
def ig(e:Expr):Option Int:=(gq e).bind Ex
def vM(e:Expr):Option Str:=(gq e).bind Ey
def yz(e:Expr):Option Bool:=(gq e).bind Ez
def qO(e:Expr):Bool:=(gq e).any EA
def Fh(e:Expr):Bool:=(BJ e).any λz=>z.1.isEmpty&&z.2.isEmpty
def isTup(e:Expr):Bool:=(cv e).isSome
theorem anyT{b:Type}{o:Option b}{p:b->Bool}(h:o.any p=true):∃a,o=some a/\p a=true:=by
 cases o with
 |none=>cases h
 |some a=>exact⟨a,rfl,h⟩
theorem ay2{α β:Type}{o:Option α}{g1:α->Option β}{f:α->β->Bool}(h:(o.any λa=>(g1 a).any (f a))=true):∃a b,o=some a/\g1 a=some b/\f a b=true:=by obtain⟨a,p0,h⟩:=anyT h;obtain⟨b,p1,h⟩:=anyT h;exact⟨a,b,p0,p1,h⟩
theorem ay3{α β γ:Type}{o:Option α}{g1:α->Option β}{g2:α->β->Option γ}{f:α->β->γ->Bool}(h:(o.any λa=>(g1 a).any λb=>(g2 a b).any (f a b))=true):∃a b c,o=some a/\g1 a=some b/\g2 a b=some c/\f a b c=true:=by obtain⟨a,p0,h⟩:=anyT h;obtain⟨b,p1,h⟩:=anyT h;obtain⟨c,p2,h⟩:=anyT h;exact⟨a,b,c,p0,p1,p2,h⟩
theorem ay4{α β γ δ:Type}{o:Option α}{g1:α->Option β}{g2:α->β->Option γ}{g3:α->β->γ->Option δ}{f:α->β->γ->δ->Bool}(h:(o.any λa=>(g1 a).any λb=>(g2 a b).any λc=>(g3 a b c).any (f a b c))=true):∃a b c d,o=some a/\g1 a=some b/\g2 a b=some c/\g3 a b c=some d/\f a b c d=true:=by obtain⟨a,p0,h⟩:=anyT h;obtain⟨b,p1,h⟩:=anyT h;obtain⟨c,p2,h⟩:=anyT h;obtain⟨d,p3,h⟩:=anyT h;exact⟨a,b,c,d,p0,p1,p2,p3,h⟩
theorem ay5{α β γ δ ε:Type}{o:Option α}{g1:α->Option β}{g2:α->β->Option γ}{g3:α->β->γ->Option δ}{g4:α->β->γ->δ->Option ε}{f:α->β->γ->δ->ε->Bool}(h:(o.any λa=>(g1 a).any λb=>(g2 a b).any λc=>(g3 a b c).any λd=>(g4 a b c d).any (f a b c d))=true):∃a b c d e,o=some a/\g1 a=some b/\g2 a b=some c/\g3 a b c=some d/\g4 a b c d=some e/\f a b c d e=true:=by obtain⟨a,p0,h⟩:=anyT h;obtain⟨b,p1,h⟩:=anyT h;obtain⟨c,p2,h⟩:=anyT h;obtain⟨d,p3,h⟩:=anyT h;obtain⟨e,p4,h⟩:=anyT h;exact⟨a,b,c,d,e,p0,p1,p2,p3,p4,h⟩
theorem an2{a b:Bool}(h:(a&&b)=true):a=true/\b=true:=aby.mp h
section
variable{e:Expr}
theorem asInt_ok{k:Int}(h:ig e=some k):∃j p,e=.Constant (.int k) j p:=by obtain⟨c,a,h⟩:=bnd h;obtain⟨j,p,rfl⟩:=dP a;cases c<;>cases h;exact⟨j,p,rfl⟩
theorem asStr_ok(h:vM e=some k):∃j p,e=.Constant (.str k) j p:=by obtain⟨c,a,h⟩:=bnd h;obtain⟨j,p,rfl⟩:=dP a;cases c<;>cases h;exact⟨j,p,rfl⟩
theorem asBl_ok(h:yz e=some k):∃j p,e=.Constant (.bool k) j p:=by obtain⟨c,a,h⟩:=bnd h;obtain⟨j,p,rfl⟩:=dP a;cases c<;>cases h;exact⟨j,p,rfl⟩
theorem gu(h:qO e=true):∃j p,e=.Constant .none j p:=by obtain⟨c,a,h⟩:=anyT h;obtain⟨j,p,rfl⟩:=dP a;cases c<;>cases h;exact⟨j,p,rfl⟩
theorem dQ(h:isTup e=true):∃xs k p,e=.Tuple xs k p:=by obtain⟨z,a⟩:=abg.mp h;obtain⟨k,p,rfl⟩:=asTup_ok a;exact⟨z,k,p,rfl⟩
end
theorem an3(h:(a&&b&&c)=true):a=true/\b=true/\c=true:=⟨(an2 (an2 h).1).1,(an2 (an2 h).1).2,(an2 h).2⟩
theorem an4(h:(a&&b&&c&&d)=true):a=true/\b=true/\c=true/\d=true:=⟨(an3 (an2 h).1).1,(an3 (an2 h).1).2.1,(an3 (an2 h).1).2.2,(an2 h).2⟩
theorem an5(h:(a&&b&&c&&d&&e)=true):a=true/\b=true/\c=true/\d=true/\e=true:=⟨(an4 (an2 h).1).1,(an4 (an2 h).1).2.1,(an4 (an2 h).1).2.2.1,(an4 (an2 h).1).2.2.2,(an2 h).2⟩
theorem bj(h:(!a)=true):a=false:=by cases a<;>first|rfl|cases h
def oD{a:Type}:List a->Option (a×List a)|x::xs=>some (x,xs)|_=>none
theorem con1_ok{a:Type}{l:List a}{x:a×List a}(h:oD l=some x):l=x.1::x.2:=by cases l<;>cases h;rfl
structure Tb where
 fn:Nat->Option Str
 me:Nat->Option (Str×Str)
 mk':Nat->Option Str
 gc:Nat->Option Str
 nog:Str->Bool
 fld:Str->Str->Bool
structure Cy (t:Tb)(C:Ct)(X:Cx):Prop where
 calm:X.calm=true
 units:X.A.units+64<cLine
 guards:X.A.guards=some []
 hfn:∀j nm,t.fn j=some nm->∃k fa fd ps,FnD X.prog X.w X.K X.mg X.base k fa fd ps (spC (C.call j))/\Room k X.A/\X.mg nm=some (.ref fa)/\PySem.W.keepIn X.K (.ref fa)=true/\Binds X.K fd ps []
 hme:∀j c m,t.me j=some (c,m)->Cls X.K (aI X.K c)/\∃k fa fd ps,Meth X.K (aI X.K c) m fa/\FnD X.prog X.w X.K X.mg X.base k fa fd ps (spC (C.call j))/\Room k X.A/\Binds X.K fd ps []
 hmk:∀j c,t.mk' j=some c->∃k fa fd ps,Mk X.K (aI X.K c) fa/\FnD X.prog X.w X.K X.mg X.base k fa fd ps (spC (C.mak j))/\Room (k+1) X.A/\X.mg c=some (.ref (aI X.K c))/\Binds X.K fd ps []
 hgc:∀g nm,t.gc g=some nm->∃v u,X.mg nm=some u/\RelV v u/\∀S H,Fz X.K S H v (C.gv g)
 hng:∀x,t.nog x=true->X.mg x=none
 hfl:∀c f,t.fld c f=true->Cls X.K (aI X.K c)/\eA X.K (aI X.K c) f
theorem Cy.comp(c:Cy t C X):Cy t C (cQ X N sc q):=⟨c.calm,c.units,c.guards,c.hfn,c.hme,c.hmk,c.hgc,c.hng,c.hfl⟩
def sEq(x y:Str):Bool:=decide (x=y)
theorem bL(h:sEq x y=true):x=y:=Daa h
def kindB(sc:Scope)(x:Str)(k:NameKind):Bool:=decide (sc.names.lookup x=some k)
theorem aF(h:kindB sc x k=true):sc.names.lookup x=some k:=Daa h
def yA(sc:Scope)(x:Str):Bool:=kindB sc x .local||kindB sc x .cell||kindB sc x .free
def uA(sc:Scope)(x:Str):Bool:=kindB sc x .local||kindB sc x .cell
theorem uB(h:yA sc x=true):Vis sc x:=by
 unfold yA at h;rw[abc,abc]at h;rcases h with (h|h)|h
 ·exact .inl (aF h)
 ·exact .inr (.inl (aF h))
 ·exact .inr (.inr (aF h))
theorem my(h:uA sc x=true):Loc sc x:=by
 unfold uA at h;rw[abc]at h;rcases h with h|h
 ·exact .inl (aF h)
 ·exact .inr (aF h)
def okN(x:Str):Bool:=!(x==("__debug__":Str))&&!(x==("__classdict__":Str))
def sv(N:List Str)(sc:Scope)(i:Nat)(x:Str):Bool:=decide (N[i]?=some x)&&yA sc x&&okN x
structure NmX (X:Cx)(i:Nat)(x:Str):Prop where
 n:X.N[i]?=some x
 v:Vis X.env.scope x
 d:(x==("__debug__":Str))=false
 c:(x==("__classdict__":Str))=false
theorem cb(h:sv X.N X.env.scope i x=true):NmX X i x:=by unfold sv okN at h;simp only[aax,abz]at h;exact⟨Daa h.1.1,uB h.1.2,h.2.1,h.2.2⟩
def BK(N:List Str)(sc:Scope)(i:Nat)(e:Expr):Bool:=(bF e).any λx=>sv N sc i x
theorem k6{N:List Str}(h:BK N sc i e=true):∃x p,e=.Name x p/\sv N sc i x=true:=by obtain⟨x,a,h⟩:=anyT h;obtain⟨p,rfl⟩:=asNm_ok a;exact⟨x,p,rfl,h⟩
def zg(sc:Scope)(x:Str):Bool:=kindB sc x .globalImplicit&&!(x==("__debug__":Str))
theorem eO(h:zg X.env.scope x=true):Gl X x/\(x==("__debug__":Str))=false:=by unfold zg at h;rw[aax]at h;exact⟨aF h.1,by simpa using h.2⟩
def oN(t:Tb)(sc:Scope)(x y:Str):Bool:=sEq x y&&zg sc x&&t.nog x
theorem blB_ok(c:Cy t C X)(h:oN t X.env.scope x y=true):x=y/\Gl X y/\X.mg y=none:=by unfold oN at h;simp only[aax]at h;obtain⟨⟨b,d⟩,a⟩:=h;have:=bL b;subst this;exact⟨rfl,(eO d).1,c.hng _ a⟩
def EB(o:Bo)(a:Operator):Bool:=decide (a=opOf o)
theorem qP(h:EB o op=true):op=opOf o:=Daa h
def Cz(o:Co)(a:CmpOp):Bool:=decide (a=coOf o)
theorem gw(h:Cz o op=true):op=coOf o:=Daa h
def isSet:Expr->Bool
 |.Set _ _ _=>true
 |_=>false
theorem eP(a:CmpOp)(h:isSet e=false):behindInMarks a e=false:=by cases e<;>first|rfl|cases h
theorem iY(h:isSet e=false):∀x,foldedSetIterable e env x=pure x:=by cases e<;>first|(intro _;rfl)|cases h
def isCall:Expr->Bool
 |.Call _ _ _ _=>true
 |_=>false
def uC:UnaryOp->Bool|.USub=>true|_=>false
theorem mz{o:UnaryOp}(h:uC o=true):o=.USub:=by cases o<;>first|rfl|cases h
def Fi(k:Int)(e:Expr):Bool:=((ig e).any λj=>decide (j=k))||(oC e).any λz=>uC z.1&&(ig z.2).any λj=>decide (-j=k)
section
variable{X:Cx}{k:Int}{e:Expr}
theorem BL{j:Nat}{p a:Pos}:PX X (.UnaryOp .USub (.Constant (.int k) j p) a) (λ_=>some (.int (-k))):=⟨_,vk oY kj,λb H Q v e q=>by cases e;exact⟨k,rfl,q⟩⟩
theorem qQ(h:Fi k e=true):PX X e (λ_=>some (.int k))/\bz e=false:=by
 rcases Bool.or_eq_true_iff.mp h with h|h
 ·obtain⟨j,a,h⟩:=anyT h;obtain⟨_,_,rfl⟩:=asInt_ok a;have:=Daa h;subst this;exact⟨Bw,rfl⟩
 ·obtain⟨z,a,h⟩:=anyT h;obtain⟨p,rfl⟩:=mr a;obtain⟨j,d,b⟩:=anyT (an2 h).2;obtain⟨_,_,c⟩:=asInt_ok d;have:=Daa b;subst this;rw[mz (an2 h).1,c];exact⟨BL,rfl⟩
end
def j2(t:Tb)(N:List Str)(sc:Scope)(i:Nat):List Acc->Expr->Bool
 |[]=>λe=>BK N sc i e
 |.ix k::ps=>λe=>(cM e).any λz=>Fi k z.2&&j2 t N sc i ps z.1
 |.key j::ps=>λe=>(cM e).any λz=>BK N sc j z.2&&j2 t N sc i ps z.1
section
variable{t:Tb}{C:Ct}{X:Cx}{i j:Nat}{e:Expr}
theorem vN(h:BK X.N X.env.scope j e=true):PX X e (λσ=>σ[j]?.join)/\bz e=false:=by obtain⟨x,p,rfl,h⟩:=k6 h;obtain⟨c,d,a,b⟩:=cb h;exact⟨En c d a b,rfl⟩
theorem EC(h:bz e=false):NoSl e:=by cases e<;>first|exact λ_ _=>rfl|cases h
theorem dR(c:Cy t C X):∀(a:List Acc) (e:Expr),j2 t X.N X.env.scope i a e=true->PDp X e i a
 |[],e,h=>by obtain⟨x,p,rfl,h⟩:=k6 h;obtain⟨b,m,g,l⟩:=cb h;exact Ep b m g l
 |.ix k::a,e,h=>by obtain⟨z,b,k⟩:=anyT h;obtain⟨d,f⟩:=an2 k;obtain⟨p,rfl⟩:=asSub_ok b;exact Er (l7 (qQ (X:=X) d).2) (dR c a _ f) (qQ d).1
 |.key j::a,e,h=>by obtain⟨z,b,k⟩:=anyT h;obtain⟨d,f⟩:=an2 k;obtain⟨p,rfl⟩:=asSub_ok b;exact Bz (by have:=c.units;omega) (EC (vN d).2) (dR c a _ f) (vN d).1
end
def j3(a:Nat->Bool)(N:List Str)(sc:Scope)(fn:Bool)(m i:Nat)(x:Str):Bool:=decide (N[i]?=some x)&&uA sc x&&(fn||kindB sc x .local)&&decide (i<m)&&a i
def qR(a:Nat->Bool)(N:List Str)(sc:Scope)(fn:Bool)(m:Nat):List Nat->List Expr->Bool
 |[]=>λes=>es.isEmpty
 |i::is=>λes=>(oD es).any λz=>(bF z.1).any λx=>j3 a N sc fn m i x&&qR a N sc fn m is z.2
def qS(a:Nat->Bool)(N:List Str)(sc:Scope)(fn:Bool)(m:Nat):Tg->Expr->Bool
 |.nm i=>λe=>(bF e).any λx=>j3 a N sc fn m i x
 |.tp ts=>λe=>(cv e).any λes=>qR a N sc fn m ts es
section
variable{X:Cx}{W:Nat->Prop}{ok:Nat->Bool}{fn:Bool}{m:Nat}
theorem cV{i:Nat}{x:Str}(b:fn=true->∀x,X.fn x=true)(e:∀i,ok i=true->¬ W i)(h:j3 ok X.N X.env.scope fn m i x=true):Sto X W m i x:=by unfold j3 at h;simp only[aax,abc]at h;obtain⟨⟨⟨⟨d,f⟩,a⟩,c⟩,g⟩:=h;exact⟨Daa d,my f,a.imp (λz=>b z x) aF,Daa c,e i g⟩
theorem j4(a:fn=true->∀x,X.fn x=true)(b:∀i,ok i=true->¬ W i):∀(ts:List Nat) (es:List Expr),qR ok X.N X.env.scope fn m ts es=true->Stos X W m ts es
 |[],es,h=>by
  cases es with
  |nil=>exact .nil
  |cons _ _=>cases h
 |i::is,es,h=>by obtain⟨z,x,d,e,k⟩:=ay2 h;obtain⟨p,c⟩:=asNm_ok e;rw[con1_ok d,c];exact .cons (cV a b (an2 k).1) (j4 a b is _ (an2 k).2)
theorem dS{b:Tg}{e:Expr}(g:X.calm=true)(d:X.N.Nodup)(c:fn=true->∀x,X.fn x=true)(f:∀i,ok i=true->¬ W i)(h:qS ok X.N X.env.scope fn m b e=true):PDg X W m e (gW b):=by
 cases b with
 |nm i=>obtain⟨x,a,k⟩:=anyT h;obtain⟨p,rfl⟩:=asNm_ok a;exact Ei d (cV c f k)
 |tp l=>obtain⟨j,a,k⟩:=anyT h;obtain⟨_,_,rfl⟩:=asTup_ok a;exact Ej g d (j4 c f _ _ k)
end
def oE(sc a:Scope):Scope:={ sc with names:=sc.names.map λ(n,k)=>if (k==NameKind.free&&a.kind==.function&&a.names.lookup n==some .cell) then (n,NameKind.cell) else (n,k) }
def yB:Expr->List Str
 |.Name x _=>[x]
 |.Tuple [.Name x _,.Tuple es _ _] _ _=>x::es.filterMap fun|.Name x _=>some x|_=>none
 |.Tuple es _ _=>es.filterMap fun|.Name x _=>some x|_=>none
 |_=>[]
def qT(N:List Str)(nt:Nat)(b:List Str)(sc a:Scope):Nat->List Nat->Bool
 |_,[]=>true
 |i,j::fr=>(match N[nt+i]? with
  |some x=>decide (b[j]?=some x)&&kindB a x .cell&&kindB sc x .free
  |none=>false)&&qT N nt b sc a (i+1) fr
def mB(N:List Str)(nt:Nat)(fr:List Nat)(b:List Str)(sc a:Scope):Bool:=
 decide (sc.kind=.function)&&sc.names.all (λx=>!decide (x.2=.cell))&&sc.names.all (λx=>!decide (x.2=.local)||kindB sc x.1 .local)&&decide (N.length=nt+fr.length)&&qT N nt b sc a 0 fr &&
  sc.names.all (λx=>!decide (x.2=.free)||(kindB a x.1 .cell&&kindB sc x.1 .free))
theorem mC:∀{fr:List Nat}{a:Nat},qT N nt ON sc osc a fr=true->∀(i j:Nat),fr[i]?=some j->∃x,N[nt+(a+i)]?=some x/\ON[j]?=some x/\osc.names.lookup x=some .cell/\sc.names.lookup x=some .free
 |[],_,_,i,j,e=>by simp at e
 |j0::fr,a,h,0,j,e=>by
  simp at e;subst e;simp only[qT,aax]at h;obtain⟨h,_⟩:=h;split at h
  ·rename_i x d;simp only[aax]at h;exact⟨x,d,Daa h.1.1,aF h.1.2,aF h.2⟩
  ·cases h
 |j0::fr,a,h,i+1,j,e=>by simp only[qT,aax]at h;obtain⟨x,b,c⟩:=mC h.2 i j (by simpa using e);exact⟨x,by rw[show a+(i+1)=a+1+i by omega];exact b,c⟩
theorem gx(h:mB N nt fr ON sc osc=true):CompScope N nt fr ON sc osc:=by
 unfold mB at h;simp only[aax,abf,abc,abz,decide_eq_false_iff_not,decide_eq_true_eq]at h;obtain⟨⟨⟨⟨⟨f,g⟩,c⟩,d⟩,k⟩,b⟩:=h;refine⟨f,λx a=>g x a,λx a e=>?_,d,λi j e=>?_,λx a e=>?_,λx a e=>?_⟩
 ·exact(c x a).elim (λz=>absurd e z) aF
 ·have:=mC k i j e;rwa [abj]at this
 ·exact(b x a).elim (λz=>absurd e z) λz=>aF z.1
 ·exact(b x a).elim (λz=>absurd e z) λz=>aF z.2
end
section
abbrev Ck:=List Str->Scope->Expr->Bool
def eQ(f:Ck):Ck×Ck:=(f,λN a e=>plainT e&&f N a e)
def Ge:Bn->Str
 |.tuple=>"tuple" |.sorted=>"sorted"
def Gf:Knd->Str
 |.int=>"int" |.bool=>"bool" |.str=>"str" |.list=>"list" |.tuple=>"tuple" |.seq=>"list"
def qU(e:Expr):Option (Str×List Expr):=(dr e).bind λz=>(bF z.1).bind λx=>if z.2.2.1.isEmpty then some (x,z.2.1) else none
theorem fH{z}(h:qU e=some z):∃p a,e=.Call (.Name z.1 p) z.2 [] a:=by
 obtain⟨c,x,d,g,h⟩:=bn2 h;obtain⟨f,i,b,a⟩:=c;cases b with
 |cons _ _=>cases h
 |nil=>cases h;obtain⟨p,rfl⟩:=asNm_ok g;exact⟨p,a,cU d⟩
def uD(e:Expr):Option (Expr×CmpOp×Expr):=(jY e).bind λz=>(cJ z.2.1).bind λo=>(cJ z.2.2).bind λy=>some (z.1,o,y)
theorem iZ{z}(h:uD e=some z):∃p,e=.Compare z.1 [z.2.1] [z.2.2] p:=by obtain⟨c,o,y,f,g,d,h⟩:=bn3 h;cases h;obtain⟨x,i,j⟩:=c;obtain⟨p,rfl⟩:=asCmp_ok f;have b:=one1_ok g;have a:=one1_ok d;simp only at b a;subst b a;exact⟨p,rfl⟩
def cmp2(e:Expr):Option (Expr×(CmpOp×CmpOp)×(Expr×Expr)):=(jY e).bind λz=>(gT z.2.1).bind λo=>(gT z.2.2).bind λy=>some (z.1,o,y)
theorem mD{z}(h:cmp2 e=some z):∃p,e=.Compare z.1 [z.2.1.1,z.2.1.2] [z.2.2.1,z.2.2.2] p:=by obtain⟨c,o,y,f,g,d,h⟩:=bn3 h;cases h;obtain⟨x,i,j⟩:=c;obtain⟨p,rfl⟩:=asCmp_ok f;have b:=two2_ok g;have a:=two2_ok d;simp only at b a;subst b a;exact⟨p,rfl⟩
def yC(a:Bool):CmpOp->Bool
 |.Is=>!a|.IsNot=>a|_=>false
theorem mE(h:yC neg o=true):o=if neg then .IsNot else .Is:=by cases o<;>cases neg<;>first|rfl|cases h
def yD:BoolOp->Bool|.And=>true|_=>false
theorem mF(h:yD o=true):o=.And:=by cases o<;>first|rfl|cases h
def ED:BoolOp->Bool|.Or=>true|_=>false
theorem qV(h:ED o=true):o=.Or:=by cases o<;>first|rfl|cases h
def yF:UnaryOp->Bool|.Not=>true|_=>false
theorem mG(h:yF o=true):o=.Not:=by cases o<;>first|rfl|cases h
def uF:Operator->Bool|.Add=>true|_=>false
theorem i5(h:uF o=true):o=.Add:=by cases o<;>first|rfl|cases h
def BM:Operator->Bool|.Mult=>true|_=>false
theorem uG(h:BM o=true):o=.Mult:=by cases o<;>first|rfl|cases h
def qW(e:Expr):Option (Expr×Option Expr×Option Expr):=(cM e).bind λz=>(jZ z.2).bind λs=>if s.2.2.isNone then some (z.1,s.1,s.2.1) else none
theorem j5{z}(h:qW e=some z):∃p a,e=.Subscript z.1 (.Slice z.2.1 z.2.2 none p) a:=by
 obtain⟨c,s,d,g,h⟩:=bn2 h;obtain⟨x,y⟩:=c;obtain⟨l,i,f⟩:=s;cases f with
 |some _=>cases h
 |none=>cases h;obtain⟨a,rfl⟩:=asSub_ok d;obtain⟨p,b⟩:=qN g;simp only at b;subst b;exact⟨p,a,rfl⟩
def Fj(e:Expr):Option Expr:=(cM e).bind λz=>(jZ z.2).bind λs=>s.2.2.bind λa=>(oC a).bind λu=>(ig u.2).bind λk=>if (s.1.isNone&&s.2.1.isNone&&uC u.1&&decide (k=1))=true then some z.1 else none
def BN(e:Expr):Option (Expr×Str×List Expr×Pos×Pos):=(dr e).bind λz=>(ie z.1).bind λa=>(cM a.1).bind λx=>if z.2.2.1.isEmpty then some (a.1,a.2.1,z.2.1,a.2.2,z.2.2.2) else none
theorem uH{e:Expr}{z}(h:BN e=some z):∃o1 n p,z.1=.Subscript o1 n p/\e=.Call (.Attribute z.1 z.2.1 z.2.2.2.1) z.2.2.1 [] z.2.2.2.2:=by
 obtain⟨c,a,x,k,i,j,h⟩:=bn3 h;obtain⟨f,r,l,s⟩:=c;obtain⟨o,m,q⟩:=a;cases l with
 |cons _ _=>cases h
 |nil=>cases h;obtain⟨p,g⟩:=asSub_ok j;have b:=asAtt_ok i;have d:=cU k;simp only at d b g;exact⟨_,_,p,g,by rw[d,b]⟩
def yG(e:Expr):Option (Str×Str×List Expr×Pos×Pos):=(dr e).bind λz=>(ie z.1).bind λa=>(bF a.1).bind λx=>if z.2.2.1.isEmpty then some (x,a.2.1,z.2.1,a.2.2,z.2.2.2) else none
theorem mH{z}(h:yG e=some z):∃p,e=.Call (.Attribute (.Name z.1 p) z.2.1 z.2.2.2.1) z.2.2.1 [] z.2.2.2.2:=by
 obtain⟨c,a,x,j,k,g,h⟩:=bn3 h;obtain⟨f,l,i,q⟩:=c;obtain⟨o,m,n⟩:=a;cases i with
 |cons _ _=>cases h
 |nil=>cases h;obtain⟨p,b⟩:=asNm_ok g;have d:=asAtt_ok k;simp only at d b;subst b;subst d;exact⟨p,cU j⟩
def uI(e:PySem.Expr):Option (Expr×Expr×List Comprehension×Scope×Pos):=if h:e.ctorIdx=10 then some (@PySem.Expr.DictComp.elim (λ_=>Expr×Expr×List Comprehension×Scope×Pos) e h λk x a s p=>(k,x,a,s,p)) else none
theorem uJ(h:uI e=some z):e=.DictComp z.1 z.2.1 z.2.2.1 z.2.2.2.1 z.2.2.2.2:=by
 by_cases a:e.ctorIdx=10
 ·revert h;exact@PySem.Expr.DictComp.elim (λe=>uI e=some z->e=.DictComp z.1 z.2.1 z.2.2.1 z.2.2.2.1 z.2.2.2.2) e a λk x b s p h=>by cases h;exact rfl
 ·rw[uI,dif_neg a]at h;cases h
def vO(e:Expr):Option (Expr×Expr×Expr×Expr×List Expr×Scope×Pos):=(uI e).bind λz=>(cJ z.2.2.1).bind λg=>if g.is_async=0 then some (z.1,z.2.1,g.target,g.iter,g.ifs,z.2.2.2.1,z.2.2.2.2) else none
theorem qX{z}(h:vO e=some z):e=.DictComp z.1 z.2.1 [⟨z.2.2.1,z.2.2.2.1,z.2.2.2.2.1,0⟩] z.2.2.2.2.2.1 z.2.2.2.2.2.2:=by
 obtain⟨c,g,d,f,h⟩:=bn2 h;obtain⟨k,x,j,o,p⟩:=c;obtain⟨m,l,n,i⟩:=g;simp only at h;by_cases b:i=0
 ·subst b;rw[if_pos rfl]at h;cases h;have a:=one1_ok f;simp only at a;rw[uJ d,a]
 ·rw[if_neg b]at h;cases h
def vP(e:Expr):Option (Expr×Expr×Expr×List Expr×Scope×Pos):=(k5 e).bind λz=>(cJ z.2.1).bind λg=>if g.is_async=0 then some (z.1,g.target,g.iter,g.ifs,z.2.2.1,z.2.2.2) else none
theorem j6{z}(h:vP e=some z):e=.ListComp z.1 [⟨z.2.1,z.2.2.1,z.2.2.2.1,0⟩] z.2.2.2.2.1 z.2.2.2.2.2:=by
 obtain⟨c,g,d,f,h⟩:=bn2 h;obtain⟨x,j,k,p⟩:=c;obtain⟨m,l,n,i⟩:=g;simp only at h;by_cases b:i=0
 ·subst b;rw[if_pos rfl]at h;cases h;have a:=one1_ok f;simp only at a;subst a;exact mx d
 ·rw[if_neg b]at h;cases h
end
section
section
variable(t:Tb)
def j7(o:Co)(f g:Ck):Ck:=λN a e=>(uD e).any λz=>Cz o z.2.1&&!isSet z.2.2&&f N a z.1&&g N a z.2.2
def qY(o b:Co)(f g k:Ck):Ck:=λN a e=>(cmp2 e).any λz=>Cz o z.2.1.1&&Cz b z.2.1.2&&!isSet z.2.2.2&&(f N a z.1&&g N a z.2.2.1&&k N a z.2.2.2)
def vQ(a:Bool)(f:Ck):Ck:=λN b e=>(uD e).any λz=>yC a z.2.1&&qO z.2.2&&f N b z.1
def qZ(b:BoolOp->Bool)(f g:Ck):Ck:=λN a e=>(uw e).any λz=>b z.1&&((oD z.2.1).any λx=>(oD x.2).any λy=>f N a x.1&&bif y.2.isEmpty then g N a y.1 else g N a (.BoolOp z.1 x.2 z.2.2))
def uK(b:UnaryOp->Bool)(f:Ck):Ck:=λN a e=>(oC e).any λz=>b z.1&&f N a z.2
def j8(b:Operator->Bool)(f g:Ck):Ck:=λN a e=>(mq e).any λz=>b z.2.1&&f N a z.1&&g N a z.2.2
def k7(p:Str->Bool)(f:List Str->Scope->List Expr->Bool):Ck:=λN a e=>(qU e).any λz=>p z.1&&zg a z.1&&!z.2.isEmpty&&!z.2.any isStar&&f N a z.2
def eR(p:Str)(f:Ck):Ck:=λN a e=>(qU e).any λz=>(cJ z.2).any λx=>oN t a z.1 p&&!isStar x&&f N a x
def i6(p:Str)(f g:Ck):Ck:=λN a e=>(qU e).any λz=>(gT z.2).any λx=>oN t a z.1 p&&!isStar x.1&&!isStar x.2&&f N a x.1&&g N a x.2
def BO(k:Knd):Ck:=λN a e=>match k with
 |.seq=>(cv e).any λz=>(gT z).any λw=>((bF w.1).any λu=>oN t a u "list")&&(bF w.2).any λv=>oN t a v "tuple"
 |k=>(bF e).any λu=>oN t a u (Gf k)
def Fk(a k:Bool)(f:Ck):Ck:=λN b e=>(uD e).any λz=>yC a z.2.1&&f N b z.1&&(yz z.2.2).any λj=>decide (j=k)
mutual
def aJ:E->Ck×Ck
 |.nm i=>eQ λN sc e=>BK N sc i e
 |.int k=>eQ λN sc e=>(ig e).any λj=>decide (j=k)
 |.str k=>eQ λN sc e=>(vM e).any λj=>sEq j k
 |.bl k=>eQ λN sc e=>(yz e).any λj=>decide (j=k)
 |.non=>eQ λN sc e=>qO e
 |.gc g=>eQ λN sc e=>(bF e).any λx=>decide (t.gc g=some x)&&zg sc x
 |.bop o a b=>eQ (j8 (EB o) (aJ a).1 (aJ b).1)
 |.cat a b=>eQ (j8 uF (aJ a).1 (aJ b).1)
 |.catT a b=>eQ (j8 uF (aJ a).1 (aJ b).1)
 |.rep a b=>eQ (j8 BM (aJ a).1 (aJ b).1)
 |.cmp o a b=>(j7 o (aJ a).1 (aJ b).1,j7 o (aJ a).1 (aJ b).1)
 |.cmp2 o o' a b c=>(qY o o' (aJ a).1 (aJ b).1 (aJ c).1,qY o o' (aJ a).1 (aJ b).1 (aJ c).1)
 |.isn neg a=>(vQ neg (aJ a).1,vQ neg (aJ a).1)
 |.and a b=>(qZ yD (aJ a).1 (aJ b).1,qZ yD (aJ a).2 (aJ b).2)
 |.or a b=>(qZ ED (aJ a).1 (aJ b).1,qZ ED (aJ a).2 (aJ b).2)
 |.not a=>(uK yF (aJ a).1,uK yF (aJ a).2)
 |.neg a=>eQ (uK uC (aJ a).1)
 |.ife c a b=>eQ λN sc e=>(uy e).any λz=>(aJ c).2 N sc z.1&&(aJ a).1 N sc z.2.1&&(aJ b).1 N sc z.2.2
 |.tup es=>eQ λN sc e=>(cv e).any λxs=>i7 es N sc xs
 |.lst es=>eQ λN sc e=>(mw e).any λxs=>i7 es N sc xs
 |.ix a b=>eQ λN sc e=>(cM e).any λz=>!bz z.2&&(aJ a).1 N sc z.1&&(aJ b).1 N sc z.2
 |.sll a lo hi=>eQ λN sc e=>(qW e).any λz=>(aJ a).1 N sc z.1&&rg lo N sc z.2.1&&rg hi N sc z.2.2
 |.slt a lo hi=>eQ λN sc e=>(qW e).any λz=>(aJ a).1 N sc z.1&&rg lo N sc z.2.1&&rg hi N sc z.2.2
 |.call f es=>eQ (k7 (λx=>decide (t.fn f=some x)) (i7 es))
 |.blt f es=>eQ (k7 (λx=>sEq x (yn f)&&t.nog x) (i7 es))
 |.bnw f a=>eQ (eR t (Ge f) (aJ a).1)
 |.isi k a=>eQ (i6 t "isinstance" (aJ a).1 (BO t k))
 |.sst a=>eQ (eR t "sorted" (eR t "set" (aJ a).1))
 |.idx a b=>eQ λN sc e=>(BN e).any λz=>(cJ z.2.2.1).any λy=>sEq z.2.1 "index" && (z.2.2.2.1.endLine==z.2.2.2.2.line)&&!isStar y&&(aJ a).1 N sc z.1&&(aJ b).1 N sc y
 |.dgt i b=>eQ λN sc e=>(yG e).any λz=>(cJ z.2.2.1).any λy=>sEq z.2.1 "get" && sv N sc i z.1&&(z.2.2.2.1.endLine==z.2.2.2.2.line)&&!isStar y&&(aJ b).1 N sc y
 |.frz a=>eQ (aJ a).1
 |.pg i ps=>eQ λN sc e=>j2 t N sc i ps e
 |.din neg a i ps=>(j7 (if neg then .nin else .inn) (aJ a).1 λN sc e=>j2 t N sc i ps e,j7 (if neg then .nin else .inn) (aJ a).1 λN sc e=>j2 t N sc i ps e)
 |.comp nt fr it tg ifs elt=>eQ λN sc e=>(vP e).any λz=>(λd=>mB d nt fr N z.2.2.2.2.1 sc&&decide d.Nodup&&!isSet z.2.2.1&&uL it N sc z.2.1 z.2.2.1&&(qS (λ_=>true) d (oE z.2.2.2.2.1 sc) false nt tg z.2.1&&BP ifs d (oE z.2.2.2.2.1 sc) z.2.2.2.1&&(aJ elt).1 d (oE z.2.2.2.2.1 sc) z.1)) (yB z.2.1++fr.filterMap λj=>N[j]?)
def i7:Es->List Str->Scope->List Expr->Bool
 |.nil=>λN sc xs=>xs.isEmpty
 |.cons a es=>λN sc xs=>(oD xs).any λz=>!isStar z.1&&(aJ a).1 N sc z.1&&i7 es N sc z.2
def rg:Eo->List Str->Scope->Option Expr->Bool
 |.none=>λN sc o=>o.isNone
 |.some a=>λN sc o=>o.any λx=>(aJ a).1 N sc x
def BP:Eo->List Str->Scope->List Expr->Bool
 |.none=>λN sc o=>o.isEmpty
 |.some a=>λN sc o=>(cJ o).any λx=>(aJ a).2 N sc x
def uL:It'->List Str->Scope->Expr->Expr->Bool
 |.seq a=>λN sc g e=>(aJ a).1 N sc e
 |.rg1 a=>λN sc g e=>eR t "range" (aJ a).1 N sc e
 |.rg2 a b=>λN sc g e=>i6 t "range" (aJ a).1 (aJ b).1 N sc e
 |.rg3 a b=>λN sc g e=>(qU e).any λz=>(ud z.2).any λx=>oN t sc z.1 "range" && !isStar x.1&&!isStar x.2.1&&!isStar x.2.2&&(aJ a).1 N sc x.1&&(aJ b).1 N sc x.2.1&&(ig x.2.2).any λj=>decide (j=2)
 |.enm a=>λN sc g e=>isTup g&&eR t "enumerate" (aJ a).1 N sc e
 |.zip a b=>λN sc g e=>isTup g&&i6 t "zip" (aJ a).1 (aJ b).1 N sc e
end
end
def uM:Expr->Bool
 |.BoolOp _ _ _=>true
 |_=>false
structure EOk (t:Tb)(C:Ct)(m:E):Prop where
 v:∀X e,Cy t C X->(aJ t m).1 X.N X.env.scope e=true->PDe X e (aw C m)
 w:∀X e,Cy t C X->uM e=true->(aJ t m).2 X.N X.env.scope e=true->PDw X e (fG C m)
 t:∀X e,Cy t C X->(aJ t m).2 X.N X.env.scope e=true->PDt X e (fG C m)
section
variable{t:Tb}{C:Ct}{X:Cx}{e:Expr}
theorem mI(h:uM e=true):∃o xs p,e=.BoolOp o xs p:=by cases e<;>first|exact⟨_,_,_,rfl⟩|cases h
theorem aA{m:E}(a:(aJ t m).2=λN sc e=>plainT e&&(aJ t m).1 N sc e)(d:bw C m=(vt (ev C m)).2)(b:∀X e,Cy t C X->(aJ t m).1 X.N X.env.scope e=true->PDe X e (aw C m)):EOk t C m:=
 ⟨b,λX e c f h=>by
  rw[a]at h;obtain⟨o,g,p,rfl⟩:=mI f;exact absurd h aab,
  λX e c h=>by
  rw[a]at h;exact AZ d (an2 h).1 (b X e c (an2 h).2)⟩
theorem gy{m:E}(a:∀(X:Cx) e,uM e=true->(aJ t m).2 X.N X.env.scope e=false)(d:∀X e,Cy t C X->(aJ t m).1 X.N X.env.scope e=true->PDe X e (aw C m))(b:∀X e,Cy t C X->(aJ t m).2 X.N X.env.scope e=true->PDt X e (fG C m)):EOk t C m:=
 ⟨d,λX e c f h=>absurd h (by rw[a X e f];exact aab),b⟩
theorem rh{f:Ck}{N:List Str}{sc:Scope}(a:uM e=true)(h:∀o xs p,f N sc (.BoolOp o xs p)=false):f N sc e=false:=by obtain⟨o,xs,p,rfl⟩:=mI a;exact h o xs p
theorem ckBin_ok{b:Operator->Bool}{f g:Ck}{N:List Str}{sc:Scope}(h:j8 b f g N sc e=true):∃x o y p,e=.BinOp x o y p/\b o=true/\f N sc x=true/\g N sc y=true:=by obtain⟨z,a,h⟩:=anyT h;obtain⟨p,rfl⟩:=qL a;exact⟨_,_,_,p,rfl,an3 h⟩
theorem ckUn_ok{b:UnaryOp->Bool}{f:Ck}{N:List Str}{sc:Scope}(h:uK b f N sc e=true):∃o x p,e=.UnaryOp o x p/\b o=true/\f N sc x=true:=by obtain⟨z,a,h⟩:=anyT h;obtain⟨p,rfl⟩:=mr a;exact⟨_,_,p,rfl,an2 h⟩
theorem dU{o:Co}{f g:Ck}{N:List Str}{sc:Scope}(h:j7 o f g N sc e=true):∃x y p,e=.Compare x [coOf o] [y] p/\isSet y=false/\f N sc x=true/\g N sc y=true:=by obtain⟨z,a,h⟩:=anyT h;obtain⟨p,rfl⟩:=iZ a;obtain⟨a,d,b,c⟩:=an4 h;exact⟨_,_,p,by rw[gw a],bj d,b,c⟩
theorem ij{p:Str->Bool}{f:List Str->Scope->List Expr->Bool}{N:List Str}{sc:Scope}(h:k7 p f N sc e=true):∃x z zs q b,e=.Call (.Name x q) (z::zs) [] b/\p x=true/\zg sc x=true/\isStar z=false/\zs.any isStar=false/\f N sc (z::zs)=true:=by
 obtain⟨z,a,h⟩:=anyT h;obtain⟨q,b,rfl⟩:=fH a;obtain⟨a,j,c,d,k⟩:=an5 h;obtain⟨x,g⟩:=z;cases g with
 |nil=>cases c
 |cons y i=>have:=bj d;rw[aaU,acr]at this;exact⟨x,y,i,q,b,rfl,a,j,this.1,this.2,k⟩
theorem bT{p:Str}{f:Ck}{N:List Str}{sc:Scope}(h:eR t p f N sc e=true):∃x z q c,e=.Call (.Name x q) [z] [] c/\oN t sc x p=true/\isStar z=false/\f N sc z=true:=by obtain⟨z,w,a,b,h⟩:=ay2 h;obtain⟨q,c,rfl⟩:=fH a;obtain⟨x,g⟩:=z;have:=one1_ok b;simp only at this;subst this;obtain⟨a,b,d⟩:=an3 h;exact⟨x,w,q,c,rfl,a,bj b,d⟩
theorem eS{p:Str}{f g:Ck}{N:List Str}{sc:Scope}(h:i6 t p f g N sc e=true):∃x z w q c,e=.Call (.Name x q) [z,w] [] c/\oN t sc x p=true/\isStar z=false/\isStar w=false/\f N sc z=true/\g N sc w=true:=by obtain⟨z,w,a,b,h⟩:=ay2 h;obtain⟨q,c,rfl⟩:=fH a;obtain⟨x,k⟩:=z;have:=two2_ok b;simp only at this;subst this;obtain⟨a,b,d,i,j⟩:=an5 h;exact⟨x,_,_,q,c,rfl,a,bj b,bj d,i,j⟩
theorem ckBo_ok{b:BoolOp->Bool}{f g:Ck}{N:List Str}{sc:Scope}(h:qZ b f g N sc e=true):∃o x y es p,e=.BoolOp o (x::y::es) p/\b o=true/\f N sc x=true/\((es=[]/\g N sc y=true)\/g N sc (.BoolOp o (y::es) p)=true):=by
 obtain⟨z,l,h⟩:=anyT h;have:=ux l;subst this;obtain⟨d,h⟩:=an2 h;obtain⟨x,y,k,m,h⟩:=ay2 h;obtain⟨i,h⟩:=an2 h;obtain⟨o,q,p⟩:=z;obtain⟨x,n⟩:=x;obtain⟨y,es⟩:=y;have j:=con1_ok k;have c:=con1_ok m;simp only at j c;subst c;subst j;cases es with
 |nil=>exact⟨o,x,y,[],p,rfl,d,i,.inl ⟨rfl,h⟩⟩
 |cons a es=>exact⟨o,x,y,a::es,p,rfl,d,i,.inr h⟩
theorem yH{a b c:Expr}{j i l:E}{n:Pos}{o d:Co}(L:X.A.units+64<cLine)(hm:lastMarks [coOf o,coOf d] [b,c]=false)(h1:PDe X a (aw C j))(Y:PDe X b (aw C i))(h3:PDe X c (aw C l)):PDt X (.Compare a [coOf o,coOf d] [b,c] n) (fG C (.cmp2 o d j i l)):=by
 obtain⟨r2,Z,hr⟩:=ib L o;obtain⟨a0,r,p⟩:=ib L d;refine(nY Z hr r p hm h1 Y h3).imp λB Q hq=>?_;obtain⟨x,h,D,f,q⟩:=mf (m:=.cmp2 o d j i l) rfl (λB x h=>by
  obtain⟨s,J,U,G,k,M,u,O,H,T,h⟩:=bn5 h;cases k with
  |false=>rw[if_neg aab]at h;cases h;exact⟨_,rfl⟩
  |true=>
   rw[if_pos rfl]at h;obtain⟨v,g,w,y,S,N,z,I,h⟩:=bn4 h;cases h;exact⟨_,rfl⟩) B Q hq
 obtain⟨s,J,U,G,k,M,u,O,H,T,h⟩:=bn5 h;refine⟨s,M,J,u,U,G,O,H,k,T,k,rfl,?_⟩;cases k with
 |false=>rw[if_neg aab]at h;cases h;rw[if_neg aab];exact⟨D,f,q⟩
 |true=>rw[if_pos rfl]at h ⊢;obtain⟨v,g,w,y,S,N,z,I,h⟩:=bn4 h;cases h;exact⟨v,S,g,w,N,z,y,I,D,f,q⟩
theorem k8{x:Str}{T:String}{p:Pos} (b:Gl X x) (a:X.mg x=none) (f:bootBuiltins x=some (.type T)) (c:x≠"__name__") (d:(x==("__debug__":Str))=false):PE X (.Name x p) (tC (.ty T)):=sC b a f rfl c d
theorem yI{z w:Expr}{x:Str}{q L:Pos}{k:Knd}{s:E} (c:Cy t C X) (H:oN t X.env.scope x "isinstance"=true) (g:isStar z=false) (f:BO t k X.N X.env.scope w=true) (l:PDe X z (aw C s)):PDe X (.Call (.Name x q) [z,w] [] L) (aw C (.isi k s)):=by
 obtain⟨I,i,j⟩:=blB_ok c H;subst I;have d:∀{T:Str},((bF w).any λu=>oN t X.env.scope u T)=true->∃p,w=.Name T p/\Gl X T/\X.mg T=none:=λ{T} h=>by obtain⟨u,o,n⟩:=anyT h;obtain⟨p,rfl⟩:=asNm_ok o;obtain⟨m,a,b⟩:=blB_ok c n;subst m;exact⟨p,rfl,a,b⟩
 cases k with
 |int=>obtain⟨p,rfl,a,b⟩:=d f;exact gn (T:="int") rfl (k8 a b pJ (by decide) (by decide)) i j g rfl l
 |bool=>obtain⟨p,rfl,a,b⟩:=d f;exact gn (T:="bool") rfl (k8 a b sZ (by decide) (by decide)) i j g rfl l
 |str=>obtain⟨p,rfl,a,b⟩:=d f;exact gn (T:="str") rfl (k8 a b xq (by decide) (by decide)) i j g rfl l
 |list=>obtain⟨p,rfl,a,b⟩:=d f;exact gn (T:="list") rfl (k8 a b lN (by decide) (by decide)) i j g rfl l
 |tuple=>obtain⟨p,rfl,a,b⟩:=d f;exact gn (T:="tuple") rfl (k8 a b fS (by decide) (by decide)) i j g rfl l
 |seq=>obtain⟨zs,A,o,n,f⟩:=ay2 f;obtain⟨M,D⟩:=an2 f;obtain⟨u,J,Q⟩:=anyT M;obtain⟨v,S,U⟩:=anyT D;obtain⟨k1,Z,rfl⟩:=asTup_ok o;have:=two2_ok n;subst this;obtain⟨w1,Y⟩:=A;obtain⟨p2,r⟩:=asNm_ok J;obtain⟨p3,y⟩:=asNm_ok S;simp only at r y;subst r y;obtain⟨m,a,b⟩:=blB_ok c Q;obtain⟨B,G,O⟩:=blB_ok c U;subst m B;exact yo (k8 a b lN (by decide) (by decide)) (k8 G O fS (by decide) (by decide)) i j g rfl rfl l
mutual
theorem aP:∀m:E,EOk t C m
 |.nm i=>aA rfl rfl λX e c h=>by obtain⟨x,p,rfl,h⟩:=k6 h;obtain⟨l,s,n,G⟩:=cb h;exact Ec l s n G
 |.int k=>aA rfl rfl λX e c h=>by obtain⟨j,l,h⟩:=anyT h;obtain⟨_,_,rfl⟩:=asInt_ok l;have:=Daa h;subst this;exact vG
 |.str k=>aA rfl rfl λX e c h=>by obtain⟨j,l,h⟩:=anyT h;obtain⟨_,_,rfl⟩:=asStr_ok l;have:=bL h;subst this;exact AQ
 |.bl k=>aA rfl rfl λX e c h=>by obtain⟨j,l,h⟩:=anyT h;obtain⟨_,_,rfl⟩:=asBl_ok l;have:=Daa h;subst this;exact Ed
 |.non=>aA rfl rfl λX e c h=>by obtain⟨_,_,rfl⟩:=gu h;exact AR
 |.gc g=>aA rfl rfl λX e c h=>by obtain⟨x,l,h⟩:=anyT h;obtain⟨_,rfl⟩:=asNm_ok l;obtain⟨v,u,T,L,O⟩:=c.hgc _ _ (Daa (an2 h).1);exact Ee (eO (an2 h).2).1 T L O (eO (an2 h).2).2
 |.bop o a b=>aA rfl rfl λX e c h=>by obtain⟨x,Y,y,p,rfl,l,s,n⟩:=ckBin_ok h;have:=qP l;subst this;exact AL ((aP a).v X _ c s) ((aP b).v X _ c n)
 |.cat a b=>aA rfl rfl λX e c h=>by obtain⟨x,Y,y,p,rfl,l,s,n⟩:=ckBin_ok h;have:=i5 l;subst this;exact Ba ((aP a).v X _ c s) ((aP b).v X _ c n)
 |.catT a b=>aA rfl rfl λX e c h=>by obtain⟨x,Y,y,p,rfl,l,s,n⟩:=ckBin_ok h;have:=i5 l;subst this;exact yk ((aP a).v X _ c s) ((aP b).v X _ c n)
 |.rep a b=>aA rfl rfl λX e c h=>by obtain⟨x,Y,y,p,rfl,l,s,n⟩:=ckBin_ok h;have:=uG l;subst this;exact Bm ((aP a).v X _ c s) ((aP b).v X _ c n)
 |.cmp o a b=>gy (λX e J=>rh (f:=(aJ t (.cmp o a b)).2) J λ_ _ _=>rfl) (λX e c h=>by
  obtain⟨x,y,p,rfl,s,n,G⟩:=dU h;exact AM c.units (eP _ s) ((aP a).v X _ c n) ((aP b).v X _ c G)) λX e c h=>by
  obtain⟨x,y,p,rfl,s,n,G⟩:=dU h;exact AN c.units (eP _ s) ((aP a).v X _ c n) ((aP b).v X _ c G)
 |.cmp2 o Y a b d=>gy (λX e J=>rh (f:=(aJ t (.cmp2 o Y a b d)).2) J λ_ _ _=>rfl) (λX e c h=>by
  obtain⟨z,l,h⟩:=anyT h;obtain⟨p,rfl⟩:=mD l;obtain⟨D,B,A,I⟩:=an4 h;obtain⟨Z,U,b3⟩:=an3 I;rw[gw D,gw B];exact yj c.units (eP _ (bj A)) ((aP a).v X _ c Z) ((aP b).v X _ c U) ((aP d).v X _ c b3)) λX e c h=>by
  obtain⟨z,l,h⟩:=anyT h;obtain⟨p,rfl⟩:=mD l;obtain⟨D,B,A,I⟩:=an4 h;obtain⟨Z,U,b3⟩:=an3 I;rw[gw D,gw B];exact yH c.units (eP _ (bj A)) ((aP a).v X _ c Z) ((aP b).v X _ c U) ((aP d).v X _ c b3)
 |.isn neg a=>gy (λX e J=>rh (f:=(aJ t (.isn neg a)).2) J λ_ _ _=>rfl) (λX e c h=>by
  obtain⟨z,l,h⟩:=anyT h;obtain⟨p,rfl⟩:=iZ l;obtain⟨D,B,A⟩:=an3 h;obtain⟨_,_,e2⟩:=gu B;rw[mE D,e2];exact AS ((aP a).v X _ c A)) λX e c h=>by
  obtain⟨z,l,h⟩:=anyT h;obtain⟨p,rfl⟩:=iZ l;obtain⟨D,B,A⟩:=an3 h;obtain⟨_,_,e2⟩:=gu B;rw[mE D,e2];exact AU ((aP a).v X _ c A)
 |.and a b=>by
  have hw:∀X e,Cy t C X->(aJ t (.and a b)).2 X.N X.env.scope e=true->PDw X e (fG C (.and a b)):=λX e c h=>by
   obtain⟨o,x,y,H,p,rfl,l,s,n⟩:=ckBo_ok h;have:=mF l;subst this;refine AW ((aP a).t X _ c s) ?_;rcases n with ⟨rfl,n⟩|n
   ·exact pX ((aP b).t X _ c n)
   ·exact(aP b).w X _ c rfl n
  refine⟨λX e c h=>?_,λX e c _ h=>hw X e c h,λX e c h=>(hw X e c h).pt⟩;obtain⟨o,x,y,H,p,rfl,l,s,n⟩:=ckBo_ok h;have:=mF l;subst this;refine v_and ((aP a).v X _ c s) ?_;rcases n with ⟨rfl,n⟩|n
  ·exact pV ((aP b).v X _ c n)
  ·exact(aP b).v X _ c n
 |.or a b=>by
  have hw:∀X e,Cy t C X->(aJ t (.or a b)).2 X.N X.env.scope e=true->PDw X e (fG C (.or a b)):=λX e c h=>by
   obtain⟨o,x,y,H,p,rfl,l,s,n⟩:=ckBo_ok h;have:=qV l;subst this;refine Ef ((aP a).t X _ c s) ?_;rcases n with ⟨rfl,n⟩|n
   ·exact tM ((aP b).t X _ c n)
   ·exact(aP b).w X _ c rfl n
  refine⟨λX e c h=>?_,λX e c _ h=>hw X e c h,λX e c h=>(hw X e c h).pt⟩;obtain⟨o,x,y,H,p,rfl,l,s,n⟩:=ckBo_ok h;have:=qV l;subst this;refine v_or ((aP a).v X _ c s) ?_;rcases n with ⟨rfl,n⟩|n
  ·exact pV ((aP b).v X _ c n)
  ·exact(aP b).v X _ c n
 |.not a=>gy (λX e J=>rh (f:=(aJ t (.not a)).2) J λ_ _ _=>rfl) (λX e c h=>by
  obtain⟨o,x,p,rfl,l,s⟩:=ckUn_ok h;have:=mG l;subst this;exact v_not ((aP a).v X _ c s)) λX e c h=>by
  obtain⟨o,x,p,rfl,l,s⟩:=ckUn_ok h;have:=mG l;subst this;exact AX ((aP a).t X _ c s)
 |.neg a=>aA rfl rfl λX e c h=>by obtain⟨o,x,p,rfl,l,s⟩:=ckUn_ok h;have:=mz l;subst this;exact AV ((aP a).v X _ c s)
 |.ife z a b=>aA rfl rfl λX e c h=>by obtain⟨q,l,h⟩:=anyT h;obtain⟨p,rfl⟩:=uz l;obtain⟨D,B,A⟩:=an3 h;exact AY ((aP z).t X _ c D) ((aP a).v X _ c B) ((aP b).v X _ c A)
 |.tup H=>aA rfl rfl λX e c h=>by obtain⟨q,l,h⟩:=anyT h;obtain⟨_,_,rfl⟩:=asTup_ok l;exact A6 (yJ H X _ c h)
 |.lst H=>aA rfl rfl λX e c h=>by obtain⟨q,l,h⟩:=anyT h;obtain⟨_,rfl⟩:=qM l;exact A7 (yJ H X _ c h)
 |.ix a b=>aA rfl rfl λX e c h=>by obtain⟨q,l,h⟩:=anyT h;obtain⟨_,rfl⟩:=asSub_ok l;obtain⟨D,B,A⟩:=an3 h;exact Eg (bj D) ((aP a).v X _ c B) ((aP b).v X _ c A)
 |.sll a lo hi=>aA rfl rfl λX e c h=>by obtain⟨q,l,h⟩:=anyT h;obtain⟨_,_,rfl⟩:=j5 l;obtain⟨D,B,A⟩:=an3 h;exact A8 ((aP a).v X _ c D) (CA lo X _ c B) (CA hi X _ c A)
 |.slt a lo hi=>aA rfl rfl λX e c h=>by obtain⟨q,l,h⟩:=anyT h;obtain⟨_,_,rfl⟩:=j5 l;obtain⟨D,B,A⟩:=an3 h;exact A9 ((aP a).v X _ c D) (CA lo X _ c B) (CA hi X _ c A)
 |.call f H=>aA rfl rfl λX e c h=>by obtain⟨x,z,zs,q,q',rfl,l,s,n,G,S⟩:=ij (p:=λx=>decide (t.fn f=some x)) (f:=i7 t H) (N:=X.N) (sc:=X.env.scope) (e:=e) h;obtain⟨k,fa,fd,M,T,L,O,g4,g5⟩:=c.hfn _ _ (Daa l);exact yl T L (eO s).1 O g4 g5 (eO s).2 n G (yJ H X _ c S)
 |.blt f H=>aA rfl rfl λX e c h=>by obtain⟨x,z,zs,q,q',rfl,l,s,n,G,S⟩:=ij (p:=λx=>sEq x (yn f)&&t.nog x) (f:=i7 t H) (N:=X.N) (sc:=X.env.scope) (e:=e) h;have:=bL (an2 l).1;subst this;exact Bc c.calm (eO s).1 (c.hng _ (an2 l).2) n G (yJ H X _ c S)
 |.bnw f a=>aA rfl rfl λX e c h=>by
  obtain⟨x,z,q,q',rfl,l,s,n⟩:=bT h;obtain⟨T,L,O⟩:=blB_ok c l;subst T;cases f with
  |tuple=>exact uj L O s ((aP a).v X _ c n)
  |sorted=>exact qF L O s ((aP a).v X _ c n)
 |.isi k a=>aA rfl rfl λX e c h=>by obtain⟨x,z,w,q,q',rfl,l,s,n,G,S⟩:=eS h;exact yI c l s S ((aP a).v X _ c G)
 |.sst a=>aA rfl rfl λX e c h=>by obtain⟨x,z,q,q',rfl,l,s,n⟩:=bT h;obtain⟨y,w,r,r',rfl,G,S,h6⟩:=bT n;obtain⟨T,L,O⟩:=blB_ok c l;obtain⟨k1,k2,k3⟩:=blB_ok c G;subst T k1;exact BB c.calm L O k2 k3 S ((aP a).v X _ c h6)
 |.idx a b=>aA rfl rfl λX e c h=>by obtain⟨z,y,l,s,Q⟩:=ay2 h;obtain⟨o1,o2,p,e1,rfl⟩:=uH l;obtain⟨D,B,A,I,a5⟩:=an5 Q;rw[one1_ok s,bL D];rw[e1]at I ⊢;exact BH B (bj A) ((aP a).v X _ c I) ((aP b).v X _ c a5)
 |.dgt i b=>aA rfl rfl λX e c h=>by obtain⟨z,y,l,s,Q⟩:=ay2 h;obtain⟨p,rfl⟩:=mH l;obtain⟨D,B,A,I,a5⟩:=an5 Q;obtain⟨n1,n2,n3,n4⟩:=cb B;rw[one1_ok s,bL D];exact BI (by have:=c.units;omega) n1 n2 n3 n4 A (bj I) ((aP b).v X _ c a5)
 |.frz a=>aA rfl rfl λX e c h=>Bb ((aP a).v X _ c h)
 |.pg i M=>aA rfl rfl λX e c h=>Et (dR c M _ h)
 |.din neg a i M=>gy (λX e J=>rh (f:=(aJ t (.din neg a i M)).2) J λ_ _ _=>rfl) (λX e c h=>by
  obtain⟨x,y,p,rfl,s,n,G⟩:=dU (o:=if neg then .nin else .inn) (f:=(aJ t a).1) (g:=λN sc e=>j2 t N sc i M e) (N:=X.N) (sc:=X.env.scope) (e:=e) h;exact(qJ (by have:=c.units;omega) (eP _ s) ((aP a).v X _ c n) (dR c M _ G)).1) λX e c h=>by
  obtain⟨x,y,p,rfl,s,n,G⟩:=dU (o:=if neg then .nin else .inn) (f:=(aJ t a).1) (g:=λN sc e=>j2 t N sc i M e) (N:=X.N) (sc:=X.env.scope) (e:=e) h;exact(qJ (by have:=c.units;omega) (eP _ s) ((aP a).v X _ c n) (dR c M _ G)).2
 |.comp nt fr it tg ifs elt=>aA rfl rfl λX e c h=>by obtain⟨z,l,h⟩:=anyT h;have:=j6 l;subst this;obtain⟨D,B,A,I,a5⟩:=an5 h;obtain⟨Z,U,b3⟩:=an3 a5;exact yt c.calm (gx D) (iY (bj A)) (CB it X _ _ c I) (λq=>dS (X:=cQ X _ z.2.2.2.2.1 q) (fn:=false) c.calm (Daa B) (λz=>by cases z) (λ_ _ z=>z) Z) λq=>Fm ifs (cQ X _ z.2.2.2.2.1 q) _ _ c.comp (aP elt) U b3
theorem yJ:∀(m:Es) X xs,Cy t C X->i7 t m X.N X.env.scope xs=true->PDa X xs (gU C m)
 |.nil,X,xs,c,h=>by
  cases xs with
  |nil=>exact dm
  |cons _ _=>cases h
 |.cons a es,X,xs,c,h=>by obtain⟨z,b,h⟩:=anyT h;have:=con1_ok b;subst this;obtain⟨g,d,f⟩:=an3 h;exact bc (bj g) ((aP a).v X _ c d) (yJ es X _ c f)
theorem CA:∀(m:Eo) X o,Cy t C X->rg t m X.N X.env.scope o=true->PDo X o (kY C m)
 |.none,X,o,c,h=>by
  cases o with
  |none=>exact ug
  |some _=>cases h
 |.some a,X,o,c,h=>by obtain⟨z,b,h⟩:=anyT h;subst b;exact uh ((aP a).v X _ c h)
theorem Fm:∀(m:Eo) {b:E} X fs x,Cy t C X->EOk t C b->BP t m X.N X.env.scope fs=true->(aJ t b).1 X.N X.env.scope x=true->PDc X fs x (yq C m b)
 |.none,b,X,fs,x,c,he,h,h'=>by
  cases fs with
  |nil=>exact um (he.v X _ c h')
  |cons _ _=>cases h
 |.some a,b,X,fs,x,c,he,h,h'=>by obtain⟨z,d,h⟩:=anyT h;have:=one1_ok d;subst this;exact yr ((aP a).t X _ c h) (he.v X _ c h')
theorem CB:∀(m:It') X g e,Cy t C X->uL t m X.N X.env.scope g e=true->PDi X g e (eK C m)
 |.seq a,X,g,e,c,h=>Bf ((aP a).v X _ c h)
 |.rg1 a,X,g,e,c,h=>by obtain⟨x,z,q,u,rfl,l,d,f⟩:=bT h;obtain⟨o,i,n⟩:=blB_ok c l;subst o;exact Bg i n d ((aP a).v X _ c f)
 |.rg2 a b,X,g,e,c,h=>by obtain⟨x,z,w,q,u,rfl,l,d,f,s,r⟩:=eS h;obtain⟨o,i,n⟩:=blB_ok c l;subst o;exact Bh i n d f ((aP a).v X _ c s) ((aP b).v X _ c r)
 |.rg3 a b,X,g,e,c,h=>by obtain⟨z,w,l,d,h⟩:=ay2 h;obtain⟨q,u,rfl⟩:=fH l;obtain⟨x,A⟩:=z;have:=thr3_ok d;simp only at this;subst this;obtain⟨h,J⟩:=an2 h;obtain⟨h,L⟩:=an2 h;obtain⟨f,s,r,D,G⟩:=an5 h;obtain⟨j,I,H⟩:=anyT J;obtain⟨_,_,B⟩:=asInt_ok I;have:=Daa H;subst this;obtain⟨o,i,n⟩:=blB_ok c f;subst o;exact Bi i n (bj s) (bj r) (bj D) ((aP a).v X _ c G) ((aP b).v X _ c L) (by rw[B];exact vG)
 |.enm a,X,g,e,c,h=>by obtain⟨y,h⟩:=an2 h;obtain⟨A,k,p,rfl⟩:=dQ y;obtain⟨x,z,q,u,rfl,l,d,f⟩:=bT h;obtain⟨o,i,n⟩:=blB_ok c l;subst o;exact Bj i n d ((aP a).v X _ c f)
 |.zip a b,X,g,e,c,h=>by obtain⟨y,h⟩:=an2 h;obtain⟨A,k,p,rfl⟩:=dQ y;obtain⟨x,z,w,q,u,rfl,l,d,f,s,r⟩:=eS h;obtain⟨o,i,n⟩:=blB_ok c l;subst o;exact Bk i n d f ((aP a).v X _ c s) ((aP b).v X _ c r)
end
end
end
section
def bkS(sc:Scope):ScopeKind:=if sc.kind.isAnnotationScope then .function else sc.kind
def oF(ts:List Expr)(sc:Scope):List Str:=ts.filterMap fun
  |.Name id pos=>if sc.names.lookup id==some .local&&pos.line==(ts.head?.map (·.pos.line)).getD 0 then some id else none
  |_=>none
def CD(ts vs:List Expr)(sc:Scope):Option (Option (List Str)):=
 if !(ts.length==2||ts.length==3)||vs.length !=ts.length||bkS sc !=.function then some none
 else if (vs.any fun|.Starred ..=>true|_=>false) then some none
 else if (oF ts sc).length !=ts.length||(oF ts sc).eraseDups.length !=(oF ts sc).length then some none
 else if vs.all (foldedForSure 8) then some none
 else if vs.all (constantsAlone 8) then none
 else some (some (oF ts sc))
theorem k9(h:CD ts vs env.scope=some r):swappedStores [.Tuple ts k p] (.Tuple vs k2 p2) env=pure r:=by
 unfold CD at h;unfold swappedStores;split at h
 ·rename_i d;cases h;show (if (!(ts.length==2||ts.length==3)||vs.length !=ts.length||env.blockKind !=.function)=true then _ else _)=_;rw[if_pos (show (!(ts.length==2||ts.length==3)||vs.length !=ts.length||env.blockKind !=.function)=true from d)]
 ·rename_i d;show (if (!(ts.length==2||ts.length==3)||vs.length !=ts.length||env.blockKind !=.function)=true then _ else _)=_;rw[if_neg (show ¬ (!(ts.length==2||ts.length==3)||vs.length !=ts.length||env.blockKind !=.function)=true from d)];split at h
  ·rename_i c;cases h;show (if (vs.any fun|.Starred ..=>true|_=>false)=true then _ else _)=_;rw[if_pos c]
  ·rename_i c;show (if (vs.any fun|.Starred ..=>true|_=>false)=true then _ else _)=_;rw[if_neg c];split at h
   ·rename_i b;cases h;show (if ((oF ts env.scope).length !=ts.length||(oF ts env.scope).eraseDups.length !=(oF ts env.scope).length)=true then _ else _)=_;rw[if_pos b]
   ·rename_i b;show (if ((oF ts env.scope).length !=ts.length||(oF ts env.scope).eraseDups.length !=(oF ts env.scope).length)=true then _ else _)=_;rw[if_neg b];split at h
    ·rename_i a;cases h;show (if vs.all (foldedForSure 8)=true then _ else _)=_;rw[if_pos a]
    ·rename_i a;show (if vs.all (foldedForSure 8)=true then _ else _)=_;rw[if_neg a];split at h
     ·cases h
     ·rename_i e;cases h;show (if vs.all (constantsAlone 8)=true then _ else _)=_;rw[if_neg e];rfl
def vR(c e:Expr)(sc:Scope):Bool:=(cv c).any λa=>(cv e).all λb=>decide (CD a b sc=some none)
theorem rj(h:vR tg e env.scope=true):swappedStores [tg] e env=pure none:=by
 obtain⟨d,c,b⟩:=anyT h;clear h;obtain⟨k,p,rfl⟩:=asTup_ok c;cases a:cv e with
 |some f=>obtain⟨g,i,rfl⟩:=asTup_ok a;rw[a]at b;exact k9 (Daa b)
 |none=>cases e<;>first|rfl|cases a
def swC(sc:Scope)(t:Str)(a p:Pos)(s:Scope):Bool:=bkS sc==.function&&sc.names.lookup t==some .local&&a.line==p.line&&!(s.names.any λ(n,k)=>n==t&&(k==.local||k==.cell))
theorem rk:swapsWith (.ListComp elt gs s p) (some (.Name t pos)) l env=pure (swC env.scope t pos p s):=rfl
inductive PDx (X:Cx)(i:Nat)(st:Stmt)(de:DE):Prop|mk (te:TE) (h:PS X st (oU te (jt i))) (s:bG X.K te de)
section
variable{X:Cx}{W:Nat->Prop}{m:Nat}{C:Ct}{e:Expr}{ma:E}{pos p p1 p2 p3 pos' spos py:Pos}{x y:Str}{i:Nat}{st:Stmt}
theorem PDx.imp:PDx X i st d->(∀ρ Q,d' ρ Q->d ρ Q)->PDx X i st d'
 |⟨te,h,s⟩,f=>⟨te,h,λb F σ H ρ τ θ a Q g R c q=>s b F σ H ρ τ θ a Q g R (f _ _ c) q⟩
theorem BQ:PDx X i st (aw C ma)->PDx X i st (aw C (.frz ma))
 |⟨te,h,s⟩=>⟨te,h,λb F σ H ρ τ θ t Q l R ⟨y,h,q⟩ k=>by
  obtain⟨z,w,n,c,h⟩:=bn2 h;cases h;refine s b F σ H ρ τ θ (λr a=>r=z.1/\a=z.2) _ l R ⟨z,n,rfl,rfl⟩ λv f r a o g=>?_;obtain⟨j,d⟩:=g;subst j d;exact k v f _ _ (o.frz1 c) q⟩
theorem yK{f:Tg}(h:X.N.Nodup)(t:X.N[i]?=some y)(l:X.env.scope.names.lookup y=some .local)(s:X.calm=true)(S:CompScope N nt fr X.N scope X.env.scope)(q:∀x,foldedSetIterable iter X.env x=pure x)(hi:PDi X tg iter (eK C mi))(o:∀c:CC,PDg (cQ X N scope c) Ff nt tg (gW f))(r:∀c:CC,PDc (cQ X N scope c) ifs elt (yq C mif me))
  (d:swapsWith (.ListComp elt [⟨tg,iter,ifs,0⟩] scope pos) (some (.Name y py)) spos.line X.env=pure true):PDx X i (.Assign [.Name y py] (.ListComp elt [⟨tg,iter,ifs,0⟩] scope pos) spos) (aw C (.comp nt fr mi f mif me)):=by
 have k:PDx X i (.Assign [.Name y py] (.ListComp elt [⟨tg,iter,ifs,0⟩] scope pos) spos) (lW (eK C mi) nt fr (gW f) (yq C mif me)):=by obtain⟨u,n,j⟩:=hi;obtain⟨g,b⟩:=PDg.ex (Y:=λc=>cQ X N scope c) (λ_=>rfl) o;obtain⟨v,a⟩:=PDc.ex (Y:=λc=>cQ X N scope c) (λ_=>rfl) r;exact⟨_,sW h t l s S n (λc=>(b c).1) (λc D=>(a c).1 D) q d,jM j (λc=>(b c).2) λc=>(a c).2⟩
 exact k.imp (l9 C)
theorem rl(w:¬ W i):PDx X i st (aw C ma)->PDs X W st (gp C (.set i ma))
 |⟨_,h,s⟩=>⟨_,h,λb F σ H ρ τ θ A D k n R ⟨y,h,q⟩ E=>by
  obtain⟨z,o,_,t,c,l,h⟩:=bn3 h;cases h;refine s b F σ H ρ τ θ (λr a=>r=z.1/\a=z.2) _ k R ⟨z,t,rfl,rfl⟩ λv f r a u g=>?_;obtain⟨j,d⟩:=g;subst j d;exact E.nx _ f _ ((u.own1 c).store n (gd_ok l) w) q⟩
end
theorem Wd.hole(w:Wd b H L):Wd b H ((u,.hole u)::L):=by obtain⟨A,d,c,a⟩:=w.out;exact⟨⟨A,Ows.cons (.hole rfl) d,c,a⟩,w.fr,w.s0,w.nt⟩
theorem PDe.ex{K:Waa}{Y:CC->Cx}(i:∀c,(Y c).K=K)(h:∀c,PDe (Y c) e d):∃g:CC->TE,∀c,PE (Y c) e (g c)/\bG K (g c) d:=
 abR (r:=λc g=>PE (Y c) e g/\bG K g d) λc=>(by obtain⟨f,a,b⟩:=h c;exact⟨f,a,i c▸b⟩)
theorem Dt.sc{K:Waa}(h:Dt K H v d)(e:Cu d=true):Sc v d:=by cases h<;>first|constructor|cases e
theorem Rel.growD(R:Rel b F σ H ρ (v::(vs++[.ref D])) (.val (.fz d)::(rs++[.val (.dic ks xs)])))(f:vs.length=rs.length):
  ∃ws,H D=some (.dK ws)/\ws.length=xs.length/\Rel b F σ (upd H D (.dK (putK ws kk v))) ρ (vs++[.ref D]) (rs++[.val (.dic (bE kk d ks xs).1 (bE kk d ks xs).2)]):=by
 have e:=R.drop;have h:∀y:OD,stk (vs++[.ref D]) (rs++[.val y])=stk vs rs++[(.ref D,y)]:=λy=>by rw[aC f];rfl
 have w:Wd b H ((v,.fz d)::((stk vs rs++[(.ref D,.dic ks xs)])++(flat σ ρ++ff F))):=by have:=R.wd;simp only[stk]at this;rw[h]at this;exact this
 have i:Wd b H ([v].zip [OD.fz d]++((.ref D,.dic ks xs)::(stk vs rs++(flat σ ρ++ff F)))):=w.perm (by
  refine List.Perm.cons _ ?_;rw[aaf];exact aap)
 obtain⟨a,ws,m,p,c,g,j⟩:=i.u5 (ks:=[]) rfl rfl;cases m;subst c;refine⟨ws,p,g,e.wf,?_,e.wff,?_⟩
 ·obtain⟨o,_⟩:=(aS f).mp e.al;exact(aS f).mpr ⟨o,trivial⟩
 ·rw[h];refine(j (putK ws kk v) _ _ (mj (d:=d) g) λS H A C q l k n=>jX l k n).perm ?_;rw[aaf];exact aap.symm
section
variable{X:Cx}{W:Nat->Prop}{C:Ct}{y:Str}{i nt:Nat}{fr:List Nat}{N:List Str}{scope:Scope}{kx vx iter tg:Expr}{pos py spos:Pos}{mi:It'}{mt:Tg}{mk' mv':E}
theorem rm(step:List Key×List OD->PyData->DEnv->Option ((List Key×List OD)×DEnv))(ds:List PyData)(w:(List Key×List OD)×DEnv)(k:Nat)(a:ds[k]?=some d)(h:ia step (ds.drop k) out ρ=some w):∃z,step out d ρ=some z/\ia step (ds.drop (k+1)) z.1 z.2=some w:=by
 have b:=(aah.mp a).1;have e:ds.drop k=d::ds.drop (k+1):=by rw[abw b,(aah.mp a).2]
 rw[e]at h;exact bnd h
theorem uN{K:Waa}{l f:TE}(p:bG K l (aw C mk'))(O:bG K f (aw C mv')):AF (λz:List Key×List OD=>.dic z.1 z.2) (λz=>z.2.length) K (tu l f) (λo ρ Q=>∃w,dAct C mk' mv' o ρ=some w/\Q w.1 w.2):=by
 intro b F g H ρ vs rs D a Qd Q j Y G R h q;obtain⟨w,h,S⟩:=h;obtain⟨x,y,B,kk,T,L,m,M,I,Z,h⟩:=bn5 h;cases h;refine p b F g H ρ _ _ (λr c=>r=x.1/\c=x.2) _ j R ⟨x,L,rfl,rfl⟩ λv1 t r J u d=>?_;obtain⟨rfl,rfl⟩:=d;refine O b F g t _ _ _ (λr c=>r=y.1/\c=y.2) _ j u ⟨y,m,rfl,rfl⟩ λv2 H2 r s k d=>?_;obtain⟨rfl,rfl⟩:=d;have v:=k.dt2 M;have e:v1=kV kk:=by cases B<;>cases I<;>cases v<;>rfl
 subst e;obtain⟨A,hD,hl,U⟩:=Rel.growD (kk:=kk) (Rel.ez (k.frz1 Z)) Y;have n:a.2.length<1000000:=G;exact⟨_,⟨A,kk,hD,rfl,aar (by omega) (by decide:1000001<=sizeLine),rfl⟩,q _ _ _ U (by
  show (bE kk T.1 a.1 a.2).2.length<=a.2.length+1;unfold bE;split
  ·rw[acu];omega
  ·rw[aaw];exact aac _) S⟩
theorem BR(hw:¬ W i)(T:X.N.Nodup)(hy:X.N[i]?=some y)(hl:X.env.scope.names.lookup y=some .local)(hc:X.calm=true)(S:CompScope N nt fr X.N scope X.env.scope)(hs:∀x,foldedSetIterable iter X.env x=pure x)
  (v:swapsWith (.DictComp kx vx [⟨tg,iter,[],0⟩] scope pos) (some (.Name y py)) spos.line X.env=pure true) (l:∀c:CC,(cQ X N scope c).A.units+1<cLine) (hi:PDi X tg iter (eK C mi)) (hg:∀c:CC,PDg (cQ X N scope c) Ff nt tg (gW mt)) (hk:∀c:CC,PDe (cQ X N scope c) kx (aw C mk')) (Z:∀c:CC,PDe (cQ X N scope c) vx (aw C mv')):PDs X W (.Assign [.Name y py] (.DictComp kx vx [⟨tg,iter,[],0⟩] scope pos) spos) (gp C (.sdc i nt fr mi mt mk' mv')):=by
 obtain⟨wi,h1,U⟩:=hi;obtain⟨g,m⟩:=PDg.ex (Y:=λc=>cQ X N scope c) (λ_=>rfl) hg;obtain⟨tk,p⟩:=PDe.ex (Y:=λc=>cQ X N scope c) (λ_=>rfl) hk;obtain⟨tv,r⟩:=PDe.ex (Y:=λc=>cQ X N scope c) (λ_=>rfl) Z;refine⟨_,pQ T hy hl hc S h1 (λc=>(m c).1) (λc D=>kI (l c) (p c).1 (r c).1) hs v,λb F I H s τ θ Dd D L n R ⟨z,h,q⟩ E=>?_⟩;obtain⟨w,_,ca,o,_,e1,hz,O,e3,hi,h⟩:=bn5 h;cases h;refine U b F I H s τ θ (λM e=>M=w.1/\e=w.2) _ L R ⟨w,e1,rfl,rfl⟩ λJ G M j vs rs B nr R1 it hZ=>?_;obtain⟨rfl,rfl⟩:=hZ;refine jL (Q:=λx G=>D.nx (I.set i (some x)) G) (a0:=([],[])) (Iv:=λk a s=>ia (qE C mt mk' mv') (w.1.drop k) a s=some o) (λw h=>w.newDic h) rfl (λc=>(m c).2) (λc=>uN (p c).2 (r c).2) L B nr R1 it (gd_ok hz) O e3 (λk d a s hd f=>by
  obtain⟨u,l,t⟩:=rm _ _ _ k hd f;obtain⟨j,e4,l⟩:=bnd l;exact⟨j,e4,u,l,t⟩) λH' D' a e R' f=>by
  have f:ia (qE C mt mk' mv') (w.1.drop w.1.length) a e=some o:=f;rw[abW]at f;cases f;exact E.nx _ _ _ (Rel.store (Rel.drops (Rel.x4 R' B) B) n (gd_ok hi) hw) q
end
end
section
section
variable(t:Tb)
end
section
variable{t:Tb}{C:Ct}
end
def oG(e:PySem.Stmt):Option (Expr):=if h:e.ctorIdx=24 then some (@PySem.Stmt.Expr.elim (λ_=>Expr) e h λx _=>x) else none
theorem i8(h:oG e=some z):∃p,e=.Expr z p:=by
 by_cases a:e.ctorIdx=24
 ·revert h;exact@PySem.Stmt.Expr.elim (λe=>oG e=some z->∃p,e=.Expr z p) e a λx p h=>by cases h;exact⟨p,rfl⟩
 ·rw[oG,dif_neg a]at h;cases h
def uO(e:PySem.Stmt):Option (List Expr×Expr):=if h:e.ctorIdx=5 then some (@PySem.Stmt.Assign.elim (λ_=>List Expr×Expr) e h λa x _=>(a,x)) else none
theorem asAs_ok(h:uO e=some z):∃p,e=.Assign z.1 z.2 p:=by
 by_cases a:e.ctorIdx=5
 ·revert h;exact@PySem.Stmt.Assign.elim (λe=>uO e=some z->∃p,e=.Assign z.1 z.2 p) e a λb x p h=>by cases h;exact⟨p,rfl⟩
 ·rw[uO,dif_neg a]at h;cases h
def rn(e:PySem.Stmt):Option (Expr×Operator×Expr):=if h:e.ctorIdx=7 then some (@PySem.Stmt.AugAssign.elim (λ_=>Expr×Operator×Expr) e h λt o x _=>(t,o,x)) else none
theorem mJ(h:rn e=some z):∃p,e=.AugAssign z.1 z.2.1 z.2.2 p:=by
 by_cases a:e.ctorIdx=7
 ·revert h;exact@PySem.Stmt.AugAssign.elim (λe=>rn e=some z->∃p,e=.AugAssign z.1 z.2.1 z.2.2 p) e a λt o x p h=>by cases h;exact⟨p,rfl⟩
 ·rw[rn,dif_neg a]at h;cases h
def uP(e:PySem.Stmt):Option (Option Expr):=if h:e.ctorIdx=3 then some (@PySem.Stmt.Return.elim (λ_=>Option Expr) e h λo _=>o) else none
theorem uQ(h:uP e=some z):∃p,e=.Return z p:=by
 by_cases a:e.ctorIdx=3
 ·revert h;exact@PySem.Stmt.Return.elim (λe=>uP e=some z->∃p,e=.Return z p) e a λo p h=>by cases h;exact⟨p,rfl⟩
 ·rw[uP,dif_neg a]at h;cases h
def uR(e:PySem.Stmt):Option (Expr×List Stmt×List Stmt):=if h:e.ctorIdx=12 then some (@PySem.Stmt.If.elim (λ_=>Expr×List Stmt×List Stmt) e h λc a b _=>(c,a,b)) else none
theorem uS(h:uR e=some z):∃p,e=.If z.1 z.2.1 z.2.2 p:=by
 by_cases d:e.ctorIdx=12
 ·revert h;exact@PySem.Stmt.If.elim (λe=>uR e=some z->∃p,e=.If z.1 z.2.1 z.2.2 p) e d λc a b p h=>by cases h;exact⟨p,rfl⟩
 ·rw[uR,dif_neg d]at h;cases h
def uT(e:PySem.Stmt):Option (Expr×List Stmt×List Stmt):=if h:e.ctorIdx=11 then some (@PySem.Stmt.While.elim (λ_=>Expr×List Stmt×List Stmt) e h λc a b _=>(c,a,b)) else none
theorem uU(h:uT e=some z):∃p,e=.While z.1 z.2.1 z.2.2 p:=by
 by_cases d:e.ctorIdx=11
 ·revert h;exact@PySem.Stmt.While.elim (λe=>uT e=some z->∃p,e=.While z.1 z.2.1 z.2.2 p) e d λc a b p h=>by cases h;exact⟨p,rfl⟩
 ·rw[uT,dif_neg d]at h;cases h
def uV(e:PySem.Stmt):Option (Expr×Expr×List Stmt×List Stmt):=if h:e.ctorIdx=9 then some (@PySem.Stmt.For.elim (λ_=>Expr×Expr×List Stmt×List Stmt) e h λg i a b _=>(g,i,a,b)) else none
theorem uW(h:uV e=some z):∃p,e=.For z.1 z.2.1 z.2.2.1 z.2.2.2 p:=by
 by_cases c:e.ctorIdx=9
 ·revert h;exact@PySem.Stmt.For.elim (λe=>uV e=some z->∃p,e=.For z.1 z.2.1 z.2.2.1 z.2.2.2 p) e c λg i a b p h=>by cases h;exact⟨p,rfl⟩
 ·rw[uV,dif_neg c]at h;cases h
def BS(s:Stmt):Bool:=decide (s.ctorIdx=27)
theorem uX(h:BS s=true):∃p,s=.Continue p:=@Stmt.Continue.elim (λs=>∃p,s=.Continue p) s (Daa h) λp=>⟨p,rfl⟩
def Gg(s:Stmt):Bool:=decide (s.ctorIdx=26)
def Gh(s:Stmt):Bool:=decide (s.ctorIdx=25)
def lh(s:Stmt):Option (Expr×Expr):=(uO s).bind λz=>(cJ z.1).bind λt=>some (t,z.2)
theorem cW{z}(h:lh s=some z):∃p,s=.Assign [z.1] z.2 p:=by obtain⟨c,t,a,b,h⟩:=bn2 h;cases h;obtain⟨d,e⟩:=c;obtain⟨p,rfl⟩:=asAs_ok a;have:=one1_ok b;simp only at this;subst this;exact⟨p,rfl⟩
def yL(a:Str)(s:Stmt):Option (Str×List Expr×Pos×Pos):=(oG s).bind λe=>(yG e).bind λz=>if sEq z.2.1 a then some (z.1,z.2.2) else none
theorem mK{z}(h:yL m0 s=some z):∃p b,s=.Expr (.Call (.Attribute (.Name z.1 p) m0 z.2.2.1) z.2.1 [] z.2.2.2) b:=by
 obtain⟨e,c,d,f,h⟩:=bn2 h;cases a:sEq c.2.1 m0 with
 |false=>rw[a]at h;cases h
 |true=>rw[a]at h;cases h;obtain⟨p,rfl⟩:=mH f;obtain⟨b,rfl⟩:=i8 d;rw[bL a];exact⟨p,b,rfl⟩
def vS(s:Stmt):Option (Expr×Expr×Pos×Pos):=(oG s).bind λe=>(dr e).bind λz=>(ie z.1).bind λa=>(cJ z.2.1).bind λx=>if z.2.2.1.isEmpty&&sEq a.2.1 "append" then some (a.1,x,a.2.2,z.2.2.2) else none
theorem rp{z}(h:vS s=some z):∃p,s=.Expr (.Call (.Attribute z.1 "append" z.2.2.1) [z.2.1] [] z.2.2.2) p:=by
 obtain⟨e,c,a,x,l,j,k,n,h⟩:=bn4 h;obtain⟨f,u,i,q⟩:=c;obtain⟨o,m,t⟩:=a;cases b:(i.isEmpty&&sEq m "append") with
 |false=>simp only[b]at h;cases h
 |true=>
  simp only[b]at h;cases h;have g:=asAtt_ok k;have d:=one1_ok n;have r:=bL (an2 b).2;cases i with
  |cons _ _=>cases b
  |nil=>simp only at g d;subst r;subst d;subst g;obtain⟨p,rfl⟩:=i8 l;exact⟨p,by rw[cU j]⟩
def cmpE:E->Bool
 |.comp _ _ _ _ _ _=>true|.frz a=>(match a with|.comp _ _ _ _ _ _=>true|_=>false)|_=>false
def setB(t:Tb)(a:Nat->Bool)(N:List Str)(sc:Scope)(i:Nat)(m:E)(x:Str)(p:Pos)(e:Expr):Bool:=j3 a N sc true N.length i x&&(aJ t m).1 N sc e&&match k5 e with
 |some z=>!swC sc x p z.2.2.2 z.2.2.1||cmpE m
 |none=>!eN e
def rq(e:PySem.Expr):Option (Str×Pos):=if h:e.ctorIdx=23 then some (@PySem.Expr.Name.elim (λ_=>Str×Pos) e h λx p=>(x,p)) else none
theorem mL(h:rq e=some z):e=.Name z.1 z.2:=by
 by_cases a:e.ctorIdx=23
 ·revert h;exact@PySem.Expr.Name.elim (λe=>rq e=some z->e=.Name z.1 z.2) e a λx p h=>by cases h;exact rfl
 ·rw[rq,dif_neg a]at h;cases h
section
variable(t:Tb)
mutual
def BU(d:Nat->Bool):S'->List Str->Scope->Stmt->Bool
 |.ex m=>λN sc s=>(oG s).any λe=>!eN e&&(aJ t m).1 N sc e
 |.set i m=>λN sc s=>(lh s).any λz=>(rq z.1).any λx=>setB t d N sc i m x.1 x.2 z.2
 |.asg g m=>λN sc s=>(lh s).any λz=>isTup z.1&&vR z.1 z.2 sc&&(aJ t m).1 N sc z.2&&qS d N sc true N.length g z.1
 |.par is ms=>λN sc s=>(lh s).any λz=>(cv z.1).any λts=>(cv z.2).any λvs=>i7 t ms N sc vs&&decide (CD ts vs sc=some (some (oF ts sc)))&&(match is with
  |[i,j]=>(gT ts).any λw=>(gT vs).any λ_=>(bF w.1).any λx=>(bF w.2).any λy=>decide (oF ts sc=[x,y])&&decide (i≠j)&&(decide (N[i]?=some x)&&decide (N[j]?=some y))&&(kindB sc x .local&&kindB sc y .local)&&(d i&&d j)
  |[i,j,k]=>(ud ts).any λw=>(ud vs).any λ_=>(bF w.1).any λx=>(bF w.2.1).any λy=>(bF w.2.2).any λz=>decide (oF ts sc=[x,y,z])&&(decide (i≠j)&&decide (i≠k)&&decide (j≠k))&&(decide (N[i]?=some x)&&decide (N[j]?=some y)&&decide (N[k]?=some z))&&(kindB sc x .local&&kindB sc y .local&&kindB sc z .local)&&(d i&&d j&&d k)
  |_=>false)
 |.aug i o m=>λN sc s=>(rn s).any λz=>(bF z.1).any λx=>EB o z.2.1&&j3 d N sc true N.length i x&&(aJ t m).1 N sc z.2.2
 |.agl i m=>λN sc s=>(rn s).any λz=>(bF z.1).any λx=>uF z.2.1&&j3 d N sc true N.length i x&&(aJ t m).1 N sc z.2.2
 |.ret m=>λN sc s=>(uP s).any λo=>o.any λe=>(aJ t m).1 N sc e
 |.iff c a b=>λN sc s=>(uR s).any λz=>(aJ t c).2 N sc z.1&&gz d a N sc z.2.1&&gz d b N sc z.2.2
 |.whl c b=>λN sc s=>(uT s).any λz=>(aJ t c).2 N sc z.1&&gz d b N sc z.2.1&&z.2.2.isEmpty
 |.fr g it b=>λN sc s=>(uV s).any λz=>!isSet z.2.1&&uL t it N sc z.1 z.2.1&&qS d N sc true N.length g z.1&&gz d b N sc z.2.2.1&&z.2.2.2.isEmpty
 |.cont=>λN sc s=>BS s
 |.app i m=>λN sc s=>(vS s).any λz=>(bF z.1).any λx=>sv N sc i x&&(z.2.2.1.endLine==z.2.2.2.line)&&!isStar z.2.1&&(aJ t m).1 N sc z.2.1
 |.ext i m=>λN sc s=>(yL "extend" s).any λz=>(cJ z.2.1).any λy=>sv N sc i z.1&&(z.2.2.1.endLine==z.2.2.2.line)&&!isStar y&&(aJ t m).1 N sc y
 |.ins i k m=>λN sc s=>(yL "insert" s).any λz=>(gT z.2.1).any λy=>sv N sc i z.1&&(z.2.2.1.endLine==z.2.2.2.line)&&(!isStar y.1&&!isStar y.2)&&(aJ t k).1 N sc y.1&&(aJ t m).1 N sc y.2
 |.sti i k m=>λN sc s=>(lh s).any λz=>(cM z.1).any λw=>(bF w.1).any λx=>sv N sc i x&&!bz w.2&&!eN z.2&&(aJ t m).1 N sc z.2&&(aJ t k).1 N sc w.2
 |.sdk i k m=>λN sc s=>(lh s).any λz=>(cM z.1).any λw=>(bF w.1).any λx=>sv N sc i x&&!eN z.2&&(aJ t m).1 N sc z.2&&(aJ t k).1 N sc w.2
 |.sdc i nt fr it tg ke ve=>λN sc s=>(lh s).any λz=>(rq z.1).any λx=>(vO z.2).any λw=>(λf=>j3 d N sc true N.length i x.1&&mB f nt fr N w.2.2.2.2.2.1 sc&&!isSet w.2.2.2.1&&uL t it N sc w.2.2.1 w.2.2.2.1&&swC sc x.1 x.2 w.2.2.2.2.2.2 w.2.2.2.2.2.1&&(decide f.Nodup&&w.2.2.2.2.1.isEmpty&&qS (λ_=>true) f (oE w.2.2.2.2.2.1 sc) false nt tg w.2.2.1&&(aJ t ke).1 f (oE w.2.2.2.2.2.1 sc) w.1&&(aJ t ve).1 f (oE w.2.2.2.2.2.1 sc) w.2.1)) (yB w.2.2.1++fr.filterMap λj=>N[j]?)
def gz(a:Nat->Bool):Ss->List Str->Scope->List Stmt->Bool
 |.nil=>λN sc s=>s.isEmpty
 |.cons m ms=>λN sc s=>(oD s).any λz=>BU a m N sc z.1&&gz a ms N sc z.2
end
end
structure Cs (t:Tb)(C:Ct)(W:Nat->Prop)(ok:Nat->Bool)(X:Cx):Prop where
 c:Cy t C X
 nd:X.N.Nodup
 fn:∀x,X.fn x=true
 pass:PassesOwn (model X.prog X.w) X.A X.env X.xe
 hw:∀i,ok i=true->¬ W i
section
variable{t:Tb}{C:Ct}
theorem BV:swappedStores [.Subscript o i p] e env=pure none:=by cases e<;>rfl
theorem mM{b:Stmt}(h:PDs X W b (xW is (gU C ms))):PDs X W b (gp C (.par is ms)):=h.imp λD e ⟨y,h,q⟩=>by obtain⟨z,o,_,d,c,a,h⟩:=bn3 h;have a:=gd_ok a;cases h;exact⟨z,d,o.1,o.2,c,a.1,a.2,q⟩
theorem rz(c:Cs t C W ok X){z}(o:k5 e=some z)(s:Sto X W X.N.length i x)(a:swC X.env.scope x p z.2.2.2 z.2.2.1=true)
  (h:(aJ t (.comp nt fr it tg ifs el)).1 X.N X.env.scope e=true):PDx X i (.Assign [.Name x p] e pos) (aw C (.comp nt fr it tg ifs el)):=by
 have d:X.env.scope.names.lookup x=some .local:=by unfold swC at a;have:=(an4 a).2.1;simpa using this
 obtain⟨w,f,h⟩:=anyT h;have k:=j6 f;subst k;cases o;obtain⟨m,l,g,j,r⟩:=an5 h;obtain⟨n,b,u⟩:=an3 r;exact yK c.nd s.hN d c.c.calm (gx m) (iY (bj g)) (CB it X _ _ c.c j) (λq=>dS c.c.calm (Daa l) (λz=>by cases z) (λ_ _ z=>z) n) (λq=>Fm ifs (cQ X _ w.2.2.2.2.1 q) _ _ c.c.comp (aP el) b u) (by rw[rk,a])
theorem uY(c:Cs t C W ok X)(h:setB t ok X.N X.env.scope i m x p e=true):PDs X W (.Assign [.Name x p] e pos) (gp C (.set i m)):=by
 obtain⟨k,g,b⟩:=an3 h;have s:=cV (λ_=>c.fn) c.hw k;cases f:k5 e with
 |none=>rw[f]at b;exact vL c.nd s (iV (bj b)) ((aP m).v X _ c.c g)
 |some z=>
  rw[f]at b;cases d:swC X.env.scope x p z.2.2.2 z.2.2.1 with
  |false=>have n:=mx f;exact vL c.nd s (by rw[n,rk,d]) ((aP m).v X _ c.c g)
  |true=>
   have b:(!swC X.env.scope x p z.2.2.2 z.2.2.1||cmpE m)=true:=b;rw[d]at b;have b:cmpE m=true:=b;cases m with
   |comp o u q r j l=>exact rl s.nw (rz c f s d g)
   |frz a=>
    cases a with
    |comp o u q r j l=>exact rl s.nw (BQ (rz c f s d g))
    |_=>cases b
   |_=>cases b
mutual
theorem Gi{W:Nat->Prop}{ok:Nat->Bool}:∀(m:S') X s,Cs t C W ok X->BU t ok m X.N X.env.scope s=true->PDs X W s (gp C m)
 |.ex m,X,s,c,h=>by obtain⟨e,f,d⟩:=anyT h;obtain⟨p,rfl⟩:=i8 f;exact Ek (bj (an2 d).1) ((aP m).v X _ c.c (an2 d).2)
 |.set i m,X,s,c,h=>by obtain⟨z,x,f,A,d⟩:=ay2 h;obtain⟨p,rfl⟩:=cW f;rw[mL A];exact uY c d
 |.asg g m,X,s,c,h=>by
  obtain⟨z,f,d⟩:=anyT h;obtain⟨p,rfl⟩:=cW f;obtain⟨l,r,B,D⟩:=an4 d;refine Br ?_ (rj r) ?_ ((aP m).v X _ c.c B) (dS c.c.calm c.nd (λ_=>c.fn) c.hw D)
  ·obtain⟨_,_,_,e⟩:=dQ l;rw[e];cases z.2<;>rfl
  obtain⟨_,_,_,e⟩:=dQ l;rw[e];rfl
 |.par is ms,X,s,c,h=>by
  obtain⟨z,ts,vs,f,A,Q,d⟩:=ay3 h;obtain⟨p,rfl⟩:=cW f;obtain⟨z1,z2⟩:=z;obtain⟨k1,p1,e1⟩:=asTup_ok A;obtain⟨k2,p2,e2⟩:=asTup_ok Q;simp only at e1 e2;subst e1 e2;obtain⟨l,n,d⟩:=an3 d;have L:=Daa n
  match is,d with
  |[i,j],d=>
   obtain⟨w,u,x,y,O,S,U,Z,d⟩:=ay4 d;have T:=two2_ok O;have Y:=two2_ok S;obtain⟨w1,w2⟩:=w;obtain⟨q1,e5⟩:=asNm_ok U;obtain⟨q2,e6⟩:=asNm_ok Z;simp only at T Y e5 e6;subst e5 e6;subst T Y;obtain⟨c1,c2,c3,c4,c5⟩:=an5 d;rw[Daa c1]at L;refine mM (tS (λk J=>?_) c.c.calm c.nd (Daa (an2 c3).1) (Daa (an2 c3).2) (Daa c2) (aF (an2 c4).1) (aF (an2 c4).2) (k9 L) rfl (yJ ms X _ c.c l));rcases aaa.mp J with rfl|J
   ·exact c.hw _ (an2 c5).1
   ·rw[aas.mp J];exact c.hw _ (an2 c5).2
  |[i,j,k],d=>
   obtain⟨w,u,x,y,z,O,S,U,Z,b5,d⟩:=ay5 d;have T:=thr3_ok O;have Y:=thr3_ok S;obtain⟨w1,w2,w3⟩:=w;obtain⟨q1,e5⟩:=asNm_ok U;obtain⟨q2,e6⟩:=asNm_ok Z;obtain⟨q3,e7⟩:=asNm_ok b5;simp only at T Y e5 e6 e7;subst e5 e6 e7;subst T Y;obtain⟨c1,c2,c3,c4,c5⟩:=an5 d;obtain⟨d1,d2,d3⟩:=an3 c2;obtain⟨d4,d5,d6⟩:=an3 c3;obtain⟨d7,d8,d9⟩:=an3 c4;obtain⟨f1,f2,f3⟩:=an3 c5;rw[Daa c1]at L;refine mM (qg (λk J=>?_) c.c.calm c.nd (Daa d4) (Daa d5) (Daa d6) (Daa d1) (Daa d2) (Daa d3) (aF d7) (aF d8) (aF d9) (k9 L) rfl (yJ ms X _ c.c l));rcases aaa.mp J with rfl|J
   ·exact c.hw _ f1
   ·rcases aaa.mp J with rfl|J
    ·exact c.hw _ f2
    ·rw[aas.mp J];exact c.hw _ f3
  |[],d=>exact absurd d aab
  |[_],d=>exact absurd d aab
  |_::_::_::_::_,d=>exact absurd d aab
 |.aug i o m,X,s,c,h=>by obtain⟨z,x,f,A,d⟩:=ay2 h;obtain⟨p,rfl⟩:=mJ f;obtain⟨q,e⟩:=asNm_ok A;obtain⟨l,n,r⟩:=an3 d;rw[e,qP l];exact Bu c.nd (cV (λ_=>c.fn) c.hw n) ((aP m).v X _ c.c r)
 |.agl i m,X,s,c,h=>by obtain⟨z,x,f,A,d⟩:=ay2 h;obtain⟨p,rfl⟩:=mJ f;obtain⟨q,e⟩:=asNm_ok A;obtain⟨l,n,r⟩:=an3 d;rw[e,i5 l];exact Bv c.nd (cV (λ_=>c.fn) c.hw n) ((aP m).v X _ c.c r)
 |.ret m,X,s,c,h=>by obtain⟨o,e,f,A,d⟩:=ay2 h;obtain⟨p,rfl⟩:=uQ f;subst A;exact Bq ((aP m).v X _ c.c d)
 |.iff z a b,X,s,c,h=>by obtain⟨q,f,d⟩:=anyT h;obtain⟨p,rfl⟩:=uS f;obtain⟨l,n,r⟩:=an3 d;exact El ((aP z).t X _ c.c l) (oH a X _ c n) (oH b X _ c r)
 |.whl z b,X,s,c,h=>by
  obtain⟨q,f,d⟩:=anyT h;obtain⟨p,rfl⟩:=uU f;obtain⟨l,n,r⟩:=an3 d;obtain⟨q1,q2,q3⟩:=q;cases q3 with
  |nil=>exact uq c.pass ((aP z).t X _ c.c l) (oH b X _ c n)
  |cons _ _=>cases r
 |.fr g it b,X,s,c,h=>by
  obtain⟨q,f,d⟩:=anyT h;obtain⟨p,rfl⟩:=uW f;obtain⟨l,n,r,B,D⟩:=an5 d;obtain⟨q1,q2,q3,q4⟩:=q;cases q4 with
  |nil=>exact Bt c.pass c.c.calm (iY (bj l)) (CB it X _ _ c.c n) (dS c.c.calm c.nd (λ_=>c.fn) c.hw r) (oH b X _ c B)
  |cons _ _=>cases D
 |.cont,X,s,c,h=>by obtain⟨p,rfl⟩:=uX h;exact yv
 |.app i m,X,s,c,h=>by obtain⟨z,x,f,A,d⟩:=ay2 h;obtain⟨p,rfl⟩:=rp f;obtain⟨q,e⟩:=asNm_ok A;obtain⟨l,n,r,B⟩:=an4 d;obtain⟨M,H,G,I⟩:=cb l;rw[e];exact BC M H G I n (bj r) ((aP m).v X _ c.c B)
 |.ext i m,X,s,c,h=>by obtain⟨z,y,f,A,d⟩:=ay2 h;obtain⟨p,p',rfl⟩:=mK f;obtain⟨l,n,r,B⟩:=an4 d;obtain⟨M,H,G,I⟩:=cb l;rw[one1_ok A];exact BD M H G I n (bj r) ((aP m).v X _ c.c B)
 |.ins i k m,X,s,c,h=>by obtain⟨z,y,f,A,d⟩:=ay2 h;obtain⟨p,p',rfl⟩:=mK f;obtain⟨l,n,r,B,D⟩:=an5 d;obtain⟨O,S⟩:=an2 r;obtain⟨M,H,G,I⟩:=cb l;rw[two2_ok A];exact BE M H G I n (bj O) (bj S) ((aP k).v X _ c.c B) ((aP m).v X _ c.c D)
 |.sti i k m,X,s,c,h=>by obtain⟨z,w,x,f,A,Q,d⟩:=ay3 h;obtain⟨p,rfl⟩:=cW f;obtain⟨q,e⟩:=asSub_ok A;obtain⟨q',e'⟩:=asNm_ok Q;obtain⟨l,n,r,B,D⟩:=an5 d;obtain⟨M,H,G,I⟩:=cb l;rw[e,e'];exact BF M H G I (bj n) (iV (bj r)) BV ((aP m).v X _ c.c B) ((aP k).v X _ c.c D)
 |.sdk i k m,X,s,c,h=>by obtain⟨z,w,x,f,A,Q,d⟩:=ay3 h;obtain⟨p,rfl⟩:=cW f;obtain⟨q,e⟩:=asSub_ok A;obtain⟨q',e'⟩:=asNm_ok Q;obtain⟨l,n,r,B⟩:=an4 d;obtain⟨M,H,G,I⟩:=cb l;rw[e,e'];exact BG (by have:=c.c.units;omega) M H G I (iV (bj n)) ((aP m).v X _ c.c r) ((aP k).v X _ c.c B)
 |.sdc i nt fr it tg ke ve,X,s,c,h=>by
  obtain⟨z,x,w,f,A,Q,d⟩:=ay3 h;obtain⟨p,rfl⟩:=cW f;obtain⟨k0,k1⟩:=an2 d;obtain⟨l,n,r,B,D⟩:=an5 k0;obtain⟨O,S,U,Z,b5⟩:=an5 k1;have s:=cV (W:=W) (λ_=>c.fn) c.hw l;have hl:X.env.scope.names.lookup x.1=some .local:=by unfold swC at D;have:=(an4 D).2.1;simpa using this
  rw[mL A,qX Q,List.isEmpty_iff.mp S];exact BR s.nw c.nd s.hN hl c.c.calm (gx n) (iY (bj r)) (by show pure (swC X.env.scope x.1 x.2 w.2.2.2.2.2.2 w.2.2.2.2.2.1)=_;rw[D]) (λq=>by have:=(c.c.comp (q:=q) (N:=yB w.2.2.1++fr.filterMap λj=>X.N[j]?) (sc:=w.2.2.2.2.2.1)).units;omega) (CB it X _ _ c.c B) (λq=>dS (X:=cQ X _ w.2.2.2.2.2.1 q) (fn:=false) c.c.calm (Daa O) (λz=>by cases z) (λ_ _ z=>z) U) (λq=>(aP ke).v (cQ X _ w.2.2.2.2.2.1 q) _ c.c.comp Z) λq=>(aP ve).v (cQ X _ w.2.2.2.2.2.1 q) _ c.c.comp b5
theorem oH{W:Nat->Prop}{b:Nat->Bool}:∀(m:Ss) X s,Cs t C W b X->gz t b m X.N X.env.scope s=true->PDss X W s (jU C m)
 |.nil,X,s,c,h=>by
  cases s with
  |nil=>exact yu
  |cons _ _=>cases h
 |.cons m ms,X,s,c,h=>by obtain⟨z,d,a⟩:=anyT h;have:=con1_ok d;subst this;exact uo (Gi m X _ c (an2 a).1) (oH ms X _ c (an2 a).2)
end
end
end
section
structure Df where
 name:Str
 qual:Str
 st:Stmt
 ps:List Str
 N:List Str
 fn:Fn
def yM(N a:List Str)(sc:Scope):Bool:=decide (sc.kind=.function)&&!sc.isCoroutine&&!sc.isGenerator&&decide N.Nodup&&decide (N.take a.length=a)&&a.all (λx=>uA sc x)&&sc.names.all λy=>!decide (y.2=.free)
theorem uZ(h:yM N ps sc=true):FnScope N ps sc:=by unfold yM at h;simp only[aax,abf,abz,decide_eq_true_eq,decide_eq_false_iff_not]at h;obtain⟨⟨⟨⟨⟨⟨d,f⟩,a⟩,b⟩,g⟩,i⟩,c⟩:=h;exact⟨d,f,a,b,g,λx e=>my (i x e),c⟩
def lj(ios:List Bool)(i:Nat):Bool:=!decide (ios[i]?=some true)
def u0(t:Tb)(d:Df):Bool:=yM d.N d.ps (aD d.st)&&decide (d.fn.io.length=d.ps.length)&&decide (d.fn.n=d.N.length)&&gz t (lj d.fn.io) d.fn.body d.N (aD d.st) (bo d.st)
structure Md (K:Waa)(mg:Str->Option Value)(t:Tb)(p:Pg)(D:Nat->Option Df):Prop where
 df:∀j d,D j=some d->p.F j=some d.fn/\u0 t d=true/\∃f fd,Fun K d.name d.qual d.st f fd/\Binds K fd d.ps [] /\
  (∀nm,t.fn j=some nm->mg nm=some (.ref f)/\PySem.W.keepIn K (.ref f)=true)/\(∀c m,t.me j=some (c,m)->Cls K (aI K c)/\Meth K (aI K c) m f)/\(∀c,t.mk' j=some c->Mk K (aI K c) f/\mg c=some (.ref (aI K c)))
 all:∀j,((t.fn j).isSome||(t.me j).isSome||(t.mk' j).isSome)=true->(D j).isSome=true
 gc:∀g nm,t.gc g=some nm->∃v u,mg nm=some u/\RelV v u/\∀S H,Fz K S H v (p.gv g)
 ng:∀x,t.nog x=true->mg x=none
 fl:∀c f,t.fld c f=true->Cls K (aI K c)/\eA K (aI K c) f
section
variable{P:Program}{w:World}{K:Waa}{mg:Str->Option Value}{base:Heap}{t:Tb}{p:Pg}{D:Nat->Option Df}
theorem j9(h:∀xs Q,¬ sp xs Q):FnD P w K mg base k f fd ps sp:=by have c:∀a H Q E,¬ toSp K sp a H Q E:=λa H Q E ⟨S,xs,A,_,_,_,_,z⟩=>h _ _ z;exact⟨⟨λa H Q E z=>(c _ _ _ _ z).elim,λA b s H d e a Q E _ _ _ _ z=>(c _ _ _ _ z).elim⟩,λxs P R _ z=>(h _ _ z).elim⟩
theorem ka(h:∀xs,g xs=none):∀xs Q,¬ spC g xs Q:=λxs Q ⟨w,e,_⟩=>by rw[h]at e;cases e
theorem Md.ok(M:Md K mg t p D):∀(n:Nat),(∀(j:Nat) (d:Df),D j=some d->∀(f:Addr) (r:FuncData),Fun K d.name d.qual d.st f r->FnD P w K mg base (n+1) f r d.ps (spC (p.call n j))) /\
  (∀(j:Nat) (d:Df),D j=some d->∀(f:Addr) (r:FuncData),Fun K d.name d.qual d.st f r->FnD P w K mg base n f r d.ps (spC (p.mak n j)))
 |0=>⟨λj d _ f r _=>j9 (ka λ_=>rfl),λj d _ f r _=>j9 (ka λ_=>rfl)⟩
 |n+1=>by
  obtain⟨v,O⟩:=Md.ok M n;refine⟨λj d U f r F=>?_,λj d U f r F=>v j d U f r F⟩;obtain⟨Z,J,_⟩:=M.df j d U;unfold u0 at J;simp only[aax,decide_eq_true_eq]at J;obtain⟨⟨⟨g1,Y⟩,g3⟩,g4⟩:=J;have S:=uZ g1;refine F.okD S (qK _) Y (λxs Q ⟨z,e,_⟩=>?_) λy A k s H E B xs Q ⟨z,e,q⟩=>?_
  ·rw[Pg.ft,Z]at e;simp only at e;split at e
   ·rename_i hl;rw[hl];exact Y
   ·cases e
  ·have c:Cy t (p.ct n) (iB CX0 P w K mg base d.N d.qual (aD d.st) f y A k s H E).u1:=by
    refine⟨rfl,B.units,B.gd,λg nm h=>?_,λg c m h=>?_,λg c h=>?_,M.gc,M.ng,M.fl⟩
    ·obtain⟨l,b⟩:=abg.mp (M.all g (by rw[h];rfl));obtain⟨_,_,u,a,C,G,X,_,_⟩:=M.df g l b;exact⟨n+1,u,a,l.ps,v g l b u a C,B,(X nm h).1,(X nm h).2,G⟩
    ·obtain⟨l,b⟩:=abg.mp (M.all g (by rw[h];simp));obtain⟨_,_,u,a,C,G,_,q2,_⟩:=M.df g l b;exact⟨(q2 c m h).1,n+1,u,a,l.ps,(q2 c m h).2,v g l b u a C,B,G⟩
    ·obtain⟨l,b⟩:=abg.mp (M.all g (by rw[h];simp));obtain⟨_,_,u,a,C,G,_,_,q3⟩:=M.df g l b;exact⟨n,u,a,l.ps,(q3 c h).1,O g l b u a C,B,(q3 c h).2,G⟩
   have cs:Cs t (p.ct n) (WS d.fn.io) (lj d.fn.io) (iB CX0 P w K mg base d.N d.qual (aD d.st) f y A k s H E).u1:=
    ⟨c,S.nd,λ_=>rfl,PassesOwn.never,λi T z=>by
     unfold lj at T;simp only[abz,decide_eq_false_iff_not]at T;exact T z⟩
   refine⟨_,oH d.fn.body _ _ cs g4,?_⟩;rw[Pg.ft,Z]at e;simp only at e;split at e
   ·unfold ue at e;obtain⟨x,e1,e⟩:=bnd e;rw[g3]at e1;refine⟨x,e1,?_⟩;obtain⟨fl,ρ⟩:=x;cases fl with
    |nx=>obtain⟨L,I,e⟩:=bnd e;cases e;exact⟨L,I,q⟩
    |rt o=>obtain⟨L,I,e⟩:=bnd e;cases e;exact⟨L,I,q⟩
    |bk=>cases e
    |ct=>cases e
   ·cases e
theorem Md.law(M:Md K mg t p D)(g:D j=some d)(F:Fun K d.name d.qual d.st f fd)
  (h:∀ns:List Int,ns.length<=63->∃ys,p.call n j [.fz (.list (ns.map PyData.int))]=some (.fz (.bool true),ys)):
  FnOk P w K mg base CX0 (n+1) f fd d.ps (λvs H Q _=>∃(a:Addr) (ns:List Int),vs=[.ref a]/\SqL K H a (ns.map V.int)/\ns.length<=63/\∀b,Q (.bl true) b):=by
 refine((M.ok n).1 j d g f fd F).ok.imp λvs H Q E i=>?_;obtain⟨a,ns,rfl,k,e,q⟩:=i;obtain⟨ys,l⟩:=h ns e;refine⟨λ_=>False,[.fz (.list (ns.map PyData.int))],[],λa z=>z.elim,λ_ _ _ z=>z,Ows.cons (.fz ((Fz.of0 (.lst k (DtAll.ints ns))).sub λc z=>z.elim (λz=>by cases z) id)) .nil,abN,_,l,λv b B _ m _ _=>?_⟩;cases m with
 |cons r _=>
  cases r with
  |fz f=>cases f;exact q b
end
end
section
inductive Kd where|fn|me (c:Str)|ini (c:Str)
def Kd.fn?(d:Df):Kd->Option Str|.fn=>some d.name|_=>none
def Kd.me?(d:Df):Kd->Option (Str×Str)|.me c=>some (c,d.name)|_=>none
def Kd.ini?:Kd->Option Str|.ini c=>some c|_=>none
structure Pl where
 ds:List (Df×Kd)
 cs:List (Str×PyData)
 nog:List Str
 fld:List (Str×Str)
def Pl.tb(P:Pl):Tb where
 fn j:=(P.ds[j]?).bind λz=>z.2.fn? z.1
 me j:=(P.ds[j]?).bind λz=>z.2.me? z.1
 mk' j:=(P.ds[j]?).bind λz=>z.2.ini?
 gc g:=(P.cs[g]?).map (·.1)
 nog x:=P.nog.any λy=>sEq x y
 fld c f:=P.fld.any λy=>sEq c y.1&&sEq f y.2
def Pl.pg(P:Pl):Pg where
 F j:=(P.ds[j]?).map (·.1.fn)
 gv g:=((P.cs[g]?).map (·.2)).getD .none
 wf:=100000
def Pl.D(P:Pl)(j:Nat):Option Df:=(P.ds[j]?).map (·.1)
def BW(K:Waa)(a:Str->Option Value)(d:Df)(f:Addr):Kd->Prop
 |.fn=>a d.name=some (.ref f)/\PySem.W.keepIn K (.ref f)=true
 |.me c=>Cls K (aI K c)/\Meth K (aI K c) d.name f
 |.ini c=>Mk K (aI K c) f/\a c=some (.ref (aI K c))
def vT(K:Waa)(b:Str->Option Value)(z:Df×Kd):Prop:=∃f a,Fun K z.1.name z.1.qual z.1.st f a/\Binds K a z.1.ps []/\BW K b z.1 f z.2
section
variable{K:Waa}{mg:Str->Option Value}{P:Pl}
theorem mp{c d:Type}{o:Option c}{f:c->d}{b:d}(h:o.map f=some b):∃a,o=some a/\f a=b:=by
 cases o with
 |none=>cases h
 |some a=>exact⟨a,rfl,aaD h⟩
theorem Pl.md(t:(P.ds.all λz=>u0 P.tb z.1)=true)(r:∀z∈P.ds,vT K mg z)(s:∀z∈P.cs,∃v u,mg z.1=some u/\RelV v u/\∀S H,Fz K S H v z.2)(B:∀x∈P.nog,mg x=none)(w:∀z∈P.fld,Cls K (aI K z.1)/\eA K (aI K z.1) z.2):Md K mg P.tb P.pg P.D where
 df j d hj:=by
  obtain⟨z,b,i⟩:=mp hj;subst i;have o:=aaT b;obtain⟨f,A,G,C,l⟩:=r z o;refine⟨by show (P.ds[j]?).map _=_;rw[b];rfl,abf.mp t z o,f,A,G,C,λp a=>?_,λc m a=>?_,λc a=>?_⟩
  ·have a:((P.ds[j]?).bind λz=>z.2.fn? z.1)=some p:=a;rw[b]at a;obtain⟨d,k⟩:=z;cases k<;>cases a;exact l
  ·have a:((P.ds[j]?).bind λz=>z.2.me? z.1)=some (c,m):=a;rw[b]at a;obtain⟨d,k⟩:=z;cases k<;>cases a;exact l
  ·have a:((P.ds[j]?).bind λz=>z.2.ini?)=some c:=a;rw[b]at a;obtain⟨d,k⟩:=z;cases k<;>cases a;exact l
 all j h:=by
  show ((P.ds[j]?).map _).isSome=true;cases e:P.ds[j]? with
  |none=>have h:((((P.ds[j]?).bind λz=>z.2.fn? z.1).isSome||((P.ds[j]?).bind λz=>z.2.me? z.1).isSome)||((P.ds[j]?).bind λz=>z.2.ini?).isSome)=true:=h;rw[e]at h;cases h
  |some z=>rfl
 gc g p h:=by
  obtain⟨z,b,i⟩:=mp h;subst i;obtain⟨v,u,I,q,L⟩:=s z (aaT b);have J:P.pg.gv g=z.2:=by show ((P.cs[g]?).map _).getD _=_;rw[b];rfl
  rw[J];exact⟨v,u,I,q,L⟩
 ng x h:=by obtain⟨y,n,e⟩:=List.any_eq_true.mp h;rw[bL e];exact B y n
 fl c f h:=by obtain⟨y,n,e⟩:=List.any_eq_true.mp h;rw[bL (an2 e).1,bL (an2 e).2];exact w y n
end
end
end L2
namespace L2
open PySem
theorem bs{a b:Type}{o:Option a}{f:a->Option b}{x:a}{r:Option b}(h:o=some x)(k:f x=r):o.bind f=r:=by rw[h];exact k
theorem Gj[Decidable c](h:c):gd c=some ():=if_pos h
theorem bg{a:Type}[Decidable c]{f:Unit->Option a}{r:Option a}(h:c)(k:f ()=r):(gd c).bind f=r:=bs (Gj h) k
section
variable{C:Ct}{a b c e:E}{es:Es}{ρ ρ1 ρ2 ρ3:DEnv}{x y:OR}{dx dy d:PyData}{k k1:Bool}{i j f:Nat}{n:Int}{rs:List OR}{xs ys zs:List OD}{z w:OD}{ds:List PyData}{s:S'}{ss sa sb:Ss}{fl:Fl}{r:Option (Fl×DEnv)}{rv:Option (OR×DEnv)}{rt:Option (Bool×DEnv)}{ps:List Acc}
theorem af{o:Bo}(g:ev C a ρ=some (x,ρ1))(p:ev C b ρ1=some (y,ρ2))(m:aq ρ2 x=some dx)(l:aq ρ2 y=some dy)(h:so o dx dy=some d):ev C (.bop o a b) ρ=some (.val (.fz d),ρ2):=bs g (bs p (bs m (bs l (bs h rfl))))
theorem aN{o:Co}(g:ev C a ρ=some (x,ρ1))(p:ev C b ρ1=some (y,ρ2))(m:aq ρ2 x=some dx)(l:aq ρ2 y=some dy)(h:sq o dx dy=some k):ev C (.cmp o a b) ρ=some (.val (.fz (.bool k)),ρ2):=bs g (bs p (bs m (bs l (bs h rfl))))
theorem bN(g:ev C a ρ=some (x,ρ1))(l:ev C b ρ1=some (y,ρ2))(m:aq ρ2 y=some (.int n))(h:bb ρ2 x n=some (z,ρ3)):ev C (.ix a b) ρ=some (.val z,ρ3):=bs g (bs l (bs m (bs rfl (bs h rfl))))
theorem ag(h:evs C es ρ=some (rs,ρ1))(l:aX (C.io f) ρ1 rs=some (xs,ρ2))(g:C.call f xs=some (w,ys))(m:hV (C.io f) rs ys ρ2=ρ3):ev C (.call f es) ρ=some (.val w,ρ3):=bs h (bs l (bs g (by rw[<-m])))
theorem bu(h:evs C es ρ=some (rs,ρ1))(g:Nat.ble rs.length 1000000=true)(l:mapR own1 ρ1 rs=some (zs,ρ2)):ev C (.lst es) ρ=some (.val (.lst zs),ρ2):=bs h (bs l (bg (Nat.ble_eq.mp g) rfl))
theorem cZ(h:evs C es ρ=some (rs,ρ1))(g:Nat.ble rs.length 1000000=true)(l:mapR own1 ρ1 rs=some (zs,ρ2))(m:mkTup zs=z):ev C (.tup es) ρ=some (.val z,ρ2):=bs h (bs l (bg (Nat.ble_eq.mp g) (by rw[<-m])))
theorem ai:evs C .nil ρ=some ([],ρ):=rfl
theorem aa(g:ev C e ρ=some (x,ρ1))(h:evs C es ρ1=some (rs,ρ2)):evs C (.cons e es) ρ=some (x::rs,ρ2):=bs g (bs h rfl)
theorem fc(h:bw C c ρ=some (true,ρ1))(k:ev C a ρ1=rv):ev C (.ife c a b) ρ=rv:=bs h k
theorem c9(h:bw C c ρ=some (false,ρ1))(k:ev C b ρ1=rv):ev C (.ife c a b) ρ=rv:=bs h k
theorem bK{g:Bl}(l:evs C es ρ=some (rs,ρ1))(m:cx ρ1 rs=some ds)(h:zf g ds=some d):ev C (.blt g es) ρ=some (.val (.fz d),ρ1):=bs l (bs m (bs h rfl))
theorem vU{dx dy:List PyData}(h:ev C a ρ=some (x,ρ1))(o:ev C b ρ1=some (y,ρ2))(m:sk ρ2 x=some dx)(l:sk ρ2 y=some dy)(g:dx.length+dy.length<=1000000):ev C (.cat a b) ρ=some (.val (.lst ((dx++dy).map OD.fz)),ρ2):=bs h (bs o (bs m (bs l (bg g rfl))))
theorem aT{o:Co}(h:ev C (.cmp o a b) ρ=some (.val (.fz (.bool k)),ρ1)):bw C (.cmp o a b) ρ=some (k,ρ1):=bs h rfl
theorem eT(h:ev C (.call f es) ρ=some (.val (.fz (.bool k)),ρ1)):bw C (.call f es) ρ=some (k,ρ1):=bs h rfl
theorem EE(h:ev C (.ix a b) ρ=some (.val (.fz (.bool k)),ρ1)):bw C (.ix a b) ρ=some (k,ρ1):=bs h rfl
theorem ll(h:bw C a ρ=some (true,ρ1))(k:bw C b ρ1=rt):bw C (.and a b) ρ=rt:=bs h k
theorem t_andF(h:bw C a ρ=some (false,ρ1)):bw C (.and a b) ρ=some (false,ρ1):=bs h rfl
theorem vV(h:bw C a ρ=some (true,ρ1)):bw C (.or a b) ρ=some (true,ρ1):=bs h rfl
theorem kb(h:bw C a ρ=some (false,ρ1))(k:bw C b ρ1=rt):bw C (.or a b) ρ=rt:=bs h k
theorem rA(h:bw C a ρ=some (k,ρ1)):bw C (.not a) ρ=some (!k,ρ1):=bs h rfl
theorem i9(h:ev C a ρ=some (.val (.fz (.bool true)),ρ1))(k:ev C b ρ1=rv):ev C (.and a b) ρ=rv:=bs h (bs rfl (bs rfl k))
theorem rB(h:ev C a ρ=some (.val (.fz (.bool false)),ρ1)):ev C (.and a b) ρ=some (.val (.fz (.bool false)),ρ1):=bs h rfl
variable{p:OD×List Nat×OD}{cn fl':Str}{ns ns':List Str}{xs':List OD}
theorem ab(h:dN C s ρ=some (.nx,ρ1))(k:aW C ss ρ1=r):aW C (.cons s ss) ρ=r:=bs h k
theorem ao(h:dN C s ρ=some (.rt z,ρ1)):aW C (.cons s ss) ρ=some (.rt z,ρ1):=bs h rfl
theorem EF(h:dN C s ρ=some (.ct,ρ1)):aW C (.cons s ss) ρ=some (.ct,ρ1):=bs h rfl
theorem aj(h:ev C e ρ=some (x,ρ1))(g:own1 ρ1 x=some (z,ρ2))(hi:Nat.blt i ρ2.length=true)(l:ρ2.set i (some z)=ρ3):dN C (.set i e) ρ=some (.nx,ρ3):=bs h (bs g (bg (Nat.blt_eq.mp hi) (by rw[<-l])))
theorem dA{is:List Nat}(h:evs C es ρ=some (rs,ρ1))(l:mapR own1 ρ1 rs=some (zs,ρ2))(g:(zs.length==is.length&&is.all λi=>Nat.blt i ρ2.length)=true)(o:cF is zs ρ2=ρ3):dN C (.par is es) ρ=some (.nx,ρ3):=bs h (bs l (bg (by rw[aax,abf]at g;exact⟨eq_of_beq g.1,λi m=>Nat.blt_eq.mp (g.2 i m)⟩) (by rw[<-o])))
theorem ae(h:ev C e ρ=some (x,ρ1))(g:mv1 ρ1 x=some (z,ρ2)):dN C (.ret e) ρ=some (.rt z,ρ2):=bs h (bs g rfl)
theorem aL(h:bw C c ρ=some (true,ρ1))(k:aW C sa ρ1=r):dN C (.iff c sa sb) ρ=r:=bs h k
theorem ak(h:bw C c ρ=some (false,ρ1))(k:aW C sb ρ1=r):dN C (.iff c sa sb) ρ=r:=bs h k
theorem ja(m:ρ[i]?.join=some (.lst ys))(h:ev C e ρ=some (x,ρ1))(o:own1 ρ1 x=some (z,ρ2))(l:ρ2[i]?.join=some (.lst xs))(g:xs.length<1000000)(q:ρ2.set i (some (.lst (xs++[z])))=ρ3):dN C (.app i e) ρ=some (.nx,ρ3):=bs m (bs rfl (bs h (bs o (bs l (bs rfl (bg g (by rw[<-q])))))))
theorem lp(h:ev C e ρ=some (x,ρ1))(q:own1 ρ1 x=some (z,ρ2))(m:ρ2[i]?.join=some (.lst ys))(hk:ev C ke ρ2=some (y,ρ3))(o:aq ρ3 y=some (.int n))(g:ρ3[i]?.join=some (.lst xs))(l:ixN xs.length n=some jj)(t:ρ3.set i (some (.lst (xs.set jj z)))=ρ4):dN C (.sti i ke e) ρ=some (.nx,ρ4):=bs h (bs q (bs m (bs rfl (bs hk (bs o (bs rfl (bs g (bs rfl (bs l (by rw[<-t]))))))))))
theorem ik(h:su C it ρ=some (ds,ρ1))(k:bS (λd g=>(bH t (.fz d) g).bind λρ1=>aW C ss ρ1) ds ρ1=r):dN C (.fr t it ss) ρ=r:=bs h k
theorem gA(h:ev C e ρ=some (x,ρ1))(l:aq ρ1 x=some (.int n))(g:-(2^62)<=n/\n<2^62):su C (.rg1 e) ρ=some (bY 0 n.toNat,ρ1):=bs h (bs l (bs rfl (bg g rfl)))
theorem lq(h:ev C e ρ=some (x,ρ1))(l:frz1 ρ1 x=some (d,ρ2))(g:qB d=some ds):su C (.seq e) ρ=some (ds,ρ2):=bs h (bs l (bs g rfl))
theorem lr(h:ev C e ρ=some (x,ρ1))(g:frz1 ρ1 x=some (.list ds,ρ2)):su C (.enm e) ρ=some (cg ds,ρ2):=bs h (bs g (bs rfl rfl))
theorem yN(h:ev C a ρ=some (x,ρ1))(h':ev C b ρ1=some (y,ρ2))(m:frz1 ρ2 x=some (dx,ρ3))(l:frz1 ρ3 y=some (dy,ρ4))(o:qB dx=some ds)(g:qB dy=some es'):su C (.zip a b) ρ=some (f6 ds es',ρ4):=bs h (bs h' (bs m (bs l (bs o (bs g rfl)))))
theorem eU(l:su C it ρ=some (ds,ρ1))(hz:ds.length<1000000)(g:bZ ρ1 fr=some zc)(h:cm (cL C tg ifs elt) ds [] (List.replicate nt none++zc.1)=some (out,ρ'))(m:fB zc.2 fr (ρ'.drop nt)=ρ2):ev C (.comp nt fr it tg ifs elt) ρ=some (.val (.lst (out.map OD.fz)),ρ2):=bs l (bg hz (bs g (bs h (by rw[<-m]))))
theorem yO(m:bH tg (.fz d) ρ=some ρ1)(h:bw C ifs ρ1=some (true,ρ2))(l:ev C elt ρ2=some (x,ρ3))(g:frz1 ρ3 x=some (dx,ρ4)):cL C tg (.some ifs) elt d ρ=some ([dx],ρ4):=bs m (bs h (bs l (bs g rfl)))
theorem yP(h:bH tg (.fz d) ρ=some ρ1)(g:bw C ifs ρ1=some (false,ρ2)):cL C tg (.some ifs) elt d ρ=some ([],ρ2):=bs h (bs g rfl)
theorem BX(l:bH tg (.fz d) ρ=some ρ1)(h:ev C elt ρ1=some (x,ρ3))(g:frz1 ρ3 x=some (dx,ρ4)):cL C tg .none elt d ρ=some ([dx],ρ4):=bs l (bs rfl (bs h (bs g rfl)))
end
theorem oI{step:PyData->DEnv->Option (Fl×DEnv)}(P:List PyData->DEnv->Prop)(h:∀d ds ρ,P (d::ds) ρ->∃b a,step d ρ=some (b,a)/\(b=.nx\/b=.ct)/\P ds a):∀{ds:List PyData}{ρ:DEnv},P ds ρ->∃a,bS step ds ρ=some (.nx,a)/\P [] a:=by
 intro ds;induction ds with
 |nil=>exact λ{ρ} e=>⟨ρ,rfl,e⟩
 |cons d ds l=>
  intro ρ e;obtain⟨b,m,k,j,c⟩:=h d ds ρ e;obtain⟨g,i,f⟩:=l c;refine⟨g,bs k ?_,f⟩;rcases j with rfl|rfl
  ·exact i
  ·exact i
theorem ar{p:Pg}(a:p.F j=some fn)(b:xs.length=fn.io.length)(h:aW (p.ct n) fn.body (gb fn.n xs)=some (.rt r,ρ))(c:aU 0 fn.io xs ρ=some ys):p.call (n+1) j xs=some (r,ys):=by rw[Pg.ft,a];show (if xs.length=fn.io.length then ue (p.ct n) fn xs else none)=_;rw[if_pos b];exact bs h (bs c rfl)
theorem u6(h:k<n):ixN n (k:Int)=some k:=by unfold ixN;rw[if_pos (by omega),if_pos (by omega)];rfl
theorem fe{a:Type}{xs:List a}{k:Nat}{x:a}(h:xs[k]?=some x):atI xs (k:Int)=some x:=bs (u6 (aah.mp h).1) h
theorem jb{b:Type}{xs:List b}{i:Int}(d:0<=i)(c:i<xs.length):∃x,x∈xs/\atI xs i=some x:=by
 have e:i=(i.toNat:Int):=by omega
 have a:i.toNat<xs.length:=by omega
 refine⟨xs[i.toNat],List.getElem_mem a,?_⟩;have:=fe (aao a);rw[<-e]at this;exact this
section
variable{ρ:DEnv}{ds:List PyData}{d:PyData}{i:Int}{xs:List OD}{x:OD}
theorem jc(h:atI ds i=some d):bb ρ (.val (.fz (.list ds))) i=some (.fz d,ρ):=by simp only[bb,itemO,h]
theorem eV(h:atI ds i=some d):bb ρ (.val (.fz (.tuple ds))) i=some (.fz d,ρ):=by simp only[bb,itemO,h]
theorem gB(h:atI xs i=some x):bb ρ (.val (.lst xs)) i=some (x,ρ):=by simp only[bb,itemO,h]
end
end L2
namespace Np
open PySem L2
def top(i:Nat):Stmt:=PySem.Challenge.pw_nearpool_k11_rows_seen_again.main.body.getD i (.Pass ⟨0,0,0,0⟩)
def Fo(j:Nat):Stmt->Stmt
 |.ClassDef _ _ _ body ..=>body.getD j (.Pass ⟨0,0,0,0⟩)
 |s=>s
abbrev eb3:Es:=.cons (.nm 9) .nil
abbrev eb2:Es:=.cons (.nm 1) .nil
abbrev eb1:Es:=.cons (.nm 0) .nil
abbrev eb0:Es:=.cons (.nm 3) .nil
abbrev ebz:Es:=.cons (.int 2) .nil
abbrev eby:E:=.ix (.nm 0) (.nm 1)
abbrev ebx:E:=.ix (.nm 1) (.int 0)
abbrev ebw:E:=.ix (.nm 0) (.int 1)
abbrev ebv:E:=.ix (.nm 0) (.int 2)
abbrev ebu:E:=.ix (.nm 0) (.int 0)
abbrev ebt:Es:=.cons (.bl true) .nil
abbrev ebs:Es:=.cons (.bl false) .nil
abbrev ebr:E:=.cmp .eq (.nm 0) (.nm 1)
abbrev ebq:Ss:=.cons (.ret (.non)) .nil
abbrev ebp:Es:=.cons (.str "stop") .nil
abbrev Fp:E:=.cmp .inn (.nm 5) (.nm 2)
abbrev ebn:E:=.cmp .inn (.nm 2) (.nm 1)
abbrev ebm:E:=.bop .sub (.nm 0) (.nm 2)
abbrev ebl:E:=.bop .add (.nm 1) (.int 1)
abbrev ebk:E:=.bop .sub (.gc 17) (.gc 1)
abbrev ebj:E:=.call 0 eb1
abbrev ebi:E:=.call 15 (.cons (.nm 7) .nil)
abbrev ebh:Ss:=.cons (.ret (.bl false)) .nil
abbrev ebg:E:=.bop .mul (.int 100) (.gc 13)
abbrev Fq:E:=.blt .len (.cons (.nm 6) .nil)
abbrev ebe:E:=.blt .len eb2
abbrev ebd:E:=.blt .abs (.cons (.nm 2) .nil)
abbrev ebc:E:=.blt .len eb1
abbrev ebb:Es:=.cons (.nm 8) eb3
abbrev eba:Es:=.cons (.nm 6) eb3
abbrev ea9:Es:=.cons (.nm 6) (.cons (.nm 7) .nil)
abbrev ea8:Es:=.cons (.nm 0) eb2
abbrev ea7:Es:=.cons (.nm 2) eb0
abbrev ea6:S':=.set 4 (.sst (.cat (.nm 4) (.nm 5)))
abbrev ea5:Es:=.cons (.nm 1) ebt
abbrev ea4:S':=.set 3 (.call 13 (.cons (.nm 2) .nil))
abbrev ea3:Es:=.cons ebl .nil
abbrev ea2:Es:=.cons (.str "tell") (.cons (.nm 6) .nil)
abbrev ea1:Es:=.cons (.bop .mod (.nm 0) (.int 100)) .nil
abbrev ea0:E:=.bop .mul (.int 10) ebw
abbrev eaz:Es:=.cons (.str "go") (.cons (.str "nil") .nil)
abbrev eay:E:=.bop .mul (.int 100) ebw
abbrev Fs:E:=.call 8 eba
abbrev eaw:E:=.cmp .eq ebx (.str "nil")
abbrev eav:E:=.cmp .eq ebu (.str "set")
abbrev eau:E:=.call 17 ea8
abbrev eat:E:=.call 11 (.cons (.nm 0) (.cons (.int 3) .nil))
abbrev eas:E:=.call 11 (.cons (.nm 0) (.cons (.int 5) .nil))
abbrev ear:E:=.call 11 (.cons (.nm 1) (.cons (.int 10000) .nil))
abbrev eaq:S':=.set 4 (.call 14 ea7)
abbrev eap:S':=.set 2 (.call 10 ea8)
abbrev eao:Es:=.cons (.call 11 (.cons (.nm 0) (.cons (.int 100) .nil))) .nil
abbrev ean:E:=.not (.cmp2 .le .lt (.int 0) (.nm 1) ebc)
abbrev eam:E:=.blt .min (.cons (.int 8) (.cons ebc .nil))
abbrev eal:E:=.cmp .ne ebc ebe
abbrev Ft:E:=.call 17 (.cons Fs (.cons (.nm 12) .nil))
abbrev eaj:E:=.cmp .inn (.ix (.nm 7) (.int 0)) (.tup eaz)
abbrev eai:E:=.cmp .gt (.blt .abs (.cons (.bop .sub (.ix (.nm 1) (.int 2)) (.nm 0)) .nil)) (.int 40)
abbrev eah:S':=.ext 6 (.call 2 (.cons (.nm 8) (.cons (.nm 9) (.cons (.nm 10) (.cons (.nm 11) .nil)))))
abbrev eag:S':=.set 7 (.call 18 (.cons (.nm 2) (.cons (.nm 3) (.cons (.nm 4) (.cons Fq .nil)))))
abbrev eaf:S':=.app 4 (.bop .add (.ix (.nm 4) (.neg (.int 1))) (.call 16 (.cons (.nm 1) (.cons (.nm 2) (.cons (.nm 5) .nil)))))
abbrev eae:E:=.catT (.slt (.nm 7) .none (.some (.neg (.int 1)))) (.tup (.cons (.nm 10) (.cons Fp .nil)))
abbrev ead:Es:=.cons (.bl false) (.cons (.cmp .eq (.call 11 (.cons (.nm 2) ebz)) (.int 0)) ebt)
abbrev eac:S':=.iff (.not Ft) ebh .nil
abbrev eab:S':=.app 6 (.tup (.cons (.nm 7) (.cons (.ix (.nm 4) (.nm 5)) (.cons Fp (.cons (.nm 10) (.cons (.tup (.cons (.nm 11) (.cons (.ix (.nm 4) (.bop .add (.nm 5) (.int 1))) .nil))) .nil))))))
abbrev eaa:S':=.par [8,9] (.cons (.blt .max (.cons (.int 1) (.cons (.bop .sub (.bop .add (.ix (.nm 4) (.nm 5)) (.call 11 (.cons (.nm 0) (.cons (.int 2000) .nil)))) (.int 1000)) .nil))) eao)
def gC:Fn:=⟨[false],1,(.cons (.ret (.and eav (.cmp .gt ebv (.gc 3)))) .nil)⟩
def be:Fn:=⟨[false,false,false,false],4,(.cons (.iff (.cmp .eq ebu (.str "go")) (.cons (.ret (.ife (.nm 2) (.lst (.cons (.gc 6) eb0)) (.lst (.cons (.bop .sub (.bop .add (.gc 16) (.nm 3)) (.nm 1)) .nil)))) .nil) .nil) (.cons (.iff (.nm 2) (.cons (.ret (.lst (.cons (.bop .add (.gc 7) ebw) eb0))) .nil) .nil) (.cons (.ret (.lst (.cons (.bop .sub (.bop .add (.bop .add (.gc 17) (.bop .mul (.gc 9) ebw)) (.nm 3)) (.nm 1)) .nil))) .nil)))⟩
def aO:Fn:=⟨[false,false,false,false],7,(.cons (.set 4 ebu) (.cons (.iff (.cmp .eq (.nm 4) (.str "stop")) (.cons (.ret (.lst (.cons (.gc 18) .nil))) .nil) .nil) (.cons (.iff (.or (.cmp .eq (.nm 4) (.str "go")) (.cmp .eq (.nm 4) (.str "nil"))) (.cons (.ret (.call 1 (.cons (.nm 0) (.cons (.nm 1) ea7)))) .nil) .nil) (.cons (.iff ebj (.cons (.asg (.tp [5,6]) (.nm 3)) (.cons (.ret (.lst (.cons (.bop .add (.bop .add (.gc 2) eay) (.nm 6)) (.cons (.bop .sub (.bop .add (.gc 14) (.nm 5)) (.nm 1)) .nil)))) .nil)) .nil) (.cons (.iff (.cmp .eq (.nm 4) (.str "set")) (.cons (.ret (.lst (.cons (.bop .add (.bop .add (.gc 15) eay) ebv) .nil))) .nil) .nil) (.cons (.iff (.cmp .eq (.nm 4) (.str "sum")) (.cons (.ret (.lst (.cons (.bop .add (.bop .add (.gc 19) ea0) ebv) .nil))) .nil) .nil) (.cons (.iff (.cmp .eq (.nm 4) (.str "less")) (.cons (.ret (.lst (.cons (.bop .add (.bop .add (.gc 5) ea0) ebv) .nil))) .nil) .nil) (.cons (.ret (.lst (.cons (.bop .add (.gc 20) ebw) .nil))) .nil))))))))⟩
def fg:Fn:=⟨[false,false],4,(.cons (.par [2,3] (.cons (.bop .fdiv (.nm 1) (.int 10)) (.cons (.bop .mod (.nm 1) (.int 10)) .nil))) (.cons (.ret (.ife (.and (.cmp .lt (.nm 2) (.gc 13)) (.cmp .lt (.nm 3) (.gc 13))) (.tup (.cons (.nm 0) ea7)) (.non))) .nil))⟩
def gD:Fn:=⟨[false,false],5,(.cons (.set 2 (.bop .sub ebk (.int 1))) (.cons (.par [3,4] (.cons (.bop .fdiv ebm (.gc 9)) (.cons (.bop .mod ebm (.gc 9)) .nil))) (.cons (.ret (.ife (.cmp .gt (.nm 4) (.int 0)) (.tup (.cons (.str "nil") (.cons (.nm 3) (.cons (.bop .sub (.bop .sub (.bop .add (.nm 1) (.nm 4)) (.gc 1)) (.int 1)) ebs)))) (.non))) .nil)))⟩
def fh:Fn:=⟨[false,false],2,(.cons (.iff (.cmp .eq (.nm 0) (.gc 18)) (.cons (.ret (.tup ebp)) .nil) .nil) (.cons (.iff (.cmp2 .le .lt (.gc 15) (.nm 0) (.bop .add (.gc 15) ebg)) (.cons (.ret (.tup (.cons (.str "set") (.cons (.bop .fdiv (.bop .sub (.nm 0) (.gc 15)) (.int 100)) ea1)))) .nil) .nil) (.cons (.iff (.cmp2 .le .lt (.gc 19) (.nm 0) (.gc 5)) (.cons (.ret (.call 3 (.cons (.str "sum") (.cons (.bop .sub (.nm 0) (.gc 19)) .nil)))) .nil) .nil) (.cons (.iff (.cmp2 .le .lt (.gc 5) (.nm 0) (.gc 20)) (.cons (.ret (.call 3 (.cons (.str "less") (.cons (.bop .sub (.nm 0) (.gc 5)) .nil)))) .nil) .nil) (.cons (.iff (.cmp2 .le .lt (.gc 20) (.nm 0) (.bop .add (.gc 20) (.gc 13))) (.cons (.ret (.tup (.cons (.str "tell") (.cons (.bop .sub (.nm 0) (.gc 20)) .nil)))) .nil) .nil) (.cons (.iff (.cmp .le (.blt .abs (.cons (.bop .sub (.nm 0) (.gc 16)) .nil)) (.gc 0)) (.cons (.ret (.tup (.cons (.str "go") (.cons (.bop .sub (.bop .add (.nm 1) (.nm 0)) (.gc 16)) ebs)))) .nil) .nil) (.cons (.iff (.cmp .eq (.nm 0) (.gc 11)) (.cons (.ret (.tup (.cons (.str "pad") .nil))) .nil) .nil) (.cons (.iff (.cmp2 .le .lt ebk (.nm 0) (.gc 7)) (.cons (.ret (.call 4 ea8)) .nil) .nil) ebq))))))))⟩
def gE:Fn:=⟨[false,false,false],3,(.cons (.iff (.cmp2 .le .lt (.gc 2) (.nm 0) (.bop .add (.gc 2) ebg)) (.cons (.ret (.tup (.cons (.str "great") (.cons (.bop .fdiv (.bop .sub (.nm 0) (.gc 2)) (.int 100)) (.cons (.bop .sub (.bop .add (.nm 2) (.nm 1)) (.gc 14)) ea1))))) .nil) .nil) (.cons (.iff (.cmp .eq (.nm 0) (.gc 6)) (.cons (.ret (.tup (.cons (.str "go") ea5))) .nil) .nil) (.cons (.iff (.cmp .eq (.nm 0) (.gc 10)) (.cons (.ret (.tup (.cons (.str "over") eb2))) .nil) .nil) (.cons (.iff (.cmp2 .le .lt (.gc 7) (.nm 0) (.bop .add (.gc 7) (.gc 13))) (.cons (.ret (.tup (.cons (.str "nil") (.cons (.bop .sub (.nm 0) (.gc 7)) ea5)))) .nil) .nil) ebq))))⟩
def kc:Fn:=⟨[false,false],5,(.cons (.set 2 ebl) (.cons (.set 3 (.bop .add (.nm 2) (.bop .mul (.int 2) (.bop .sub eby (.gc 12))))) (.cons (.iff (.cmp .gt (.nm 3) ebc) ebq .nil) (.cons (.set 4 (.comp 1 [0] (.rg3 (.nm 2) (.nm 3)) (.nm 0) .none (.bop .add (.bop .mul (.ix (.nm 1) (.nm 0)) (.gc 4)) (.ix (.nm 1) (.bop .add (.nm 0) (.int 1)))))) (.cons (.ret (.tup (.cons (.tup (.cons (.str "pool") (.cons (.bnw .tuple (.nm 4)) .nil))) eb0))) .nil)))))⟩
abbrev ac:Str:="nil"
abbrev am:Str:="go"
abbrev ap:Str:="nearpool.codes"
abbrev bi:Str:="place"
abbrev bm:Str:="set"
abbrev bn:Str:="_law_script"
abbrev bv:Str:="_law_tape_here"
abbrev ce:Str:="_law_k"
abbrev ci:Str:="law"
abbrev cr:Str:="cell"
abbrev dL:Str:="_law_rows_here"
abbrev dV:Str:="less"
abbrev em:Str:="great"
abbrev eH:Str:="is_great"
abbrev ga:Str:="jump_cells"
abbrev gl:Str:="row_cells"
abbrev hF:Str:="pair_seen"
abbrev hY:Str:="nil_seen"
abbrev ii:Str:="lone_seen"
abbrev im:Str:="two_seen"
abbrev jp:Str:="pool_seen"
abbrev kt:Str:="seen_at"
abbrev lc:Str:="_law_cell_at"
abbrev lf:Str:="_law_tape"
abbrev ln:Str:="_law_take"
abbrev lv:Str:="_law_great"
abbrev lw:Str:="_law_rows"
abbrev na:Str:="_law_longs"
abbrev nb:Str:="_law_is_great"
abbrev np:Str:="_law_size"
abbrev pi:Str:="_law_longs_here"
abbrev pr:Str:="_law_same"
abbrev pu:Str:="_law_laid"
abbrev rc:Str:="/claim/cut.py"
abbrev re:Str:="_law_found"
abbrev sn:Str:="_law_row"
def F_seen_at:Fn:=⟨[false,false],5,(.cons (.iff ean ebq .nil) (.cons (.set 2 eby) (.cons (.iff (.cmp2 .lt .le (.gc 12) (.nm 2) (.bop .add (.gc 12) (.gc 8))) (.cons (.ret (.call 7 ea8)) .nil) .nil) (.cons (.set 3 (.call 5 (.cons (.nm 2) eb2))) (.cons (.iff (.isn true (.nm 3)) (.cons (.ret (.tup (.cons (.nm 3) ea3))) .nil) .nil) (.cons (.iff (.cmp .eq ebl ebc) ebq .nil) (.cons (.set 4 (.call 6 (.cons (.nm 2) (.cons (.ix (.nm 0) ebl) eb2)))) (.cons (.ret (.ife (.isn false (.nm 4)) (.non) (.tup (.cons (.nm 4) (.cons (.bop .add (.nm 1) (.int 2)) .nil))))) .nil))))))))⟩
def eW:Fn:=⟨[false,false],2,(.cons (.ret (.ife (.cmp .lt (.nm 1) ebc) eby (.int 0))) .nil)⟩
def rD:Fn:=⟨[false,false],3,(.cons (.set 2 (.call 9 ea8)) (.cons (.ret (.lst (.cons (.bop .mul ebd (.blt .int (.cons (.cmp .ge ebd (.bop .pow (.int 10) (.int 18))) .nil))) (.cons (.bop .mod (.bop .mul (.bop .add (.bop .add (.bop .mod (.nm 2) (.int 2147483647)) (.bop .mul (.int 7121) (.nm 1))) (.int 43)) (.int 48271)) (.int 2147483629)) (.cons (.int 0) .nil))))) .nil))⟩
def lu:Fn:=⟨[true,false],4,(.cons (.iff (.cmp .gt ebu (.int 0)) (.cons (.set 2 (.bop .mod ebu (.nm 1))) (.cons (.sti 0 (.int 0) (.bop .fdiv ebu (.nm 1))) (.cons (.ret (.nm 2)) .nil))) .nil) (.cons (.sti 0 (.int 2) (.bop .add ebv (.int 1))) (.cons (.set 3 (.bop .mod (.bop .mul (.bop .add ebw (.bop .mul (.int 39373) ebv)) (.bop .add (.int 48271) ebv)) (.int 2147483647))) (.cons (.sti 0 (.int 1) (.bop .mod (.bop .add (.bop .mul (.nm 3) (.bop .add (.bop .mod (.nm 3) (.int 40009)) (.int 7))) ebv) (.int 2147483629))) (.cons (.ret (.bop .mod (.bop .fdiv (.bop .mod (.bop .mul ebw (.bop .add (.bop .mod ebw (.int 1009)) (.int 3))) (.int 998244353)) (.int 7)) (.nm 1))) .nil)))))⟩
def mN:Fn:=⟨[true],3,(.cons (.set 1 (.call 11 (.cons (.nm 0) (.cons (.int 4) .nil)))) (.cons (.set 2 (.bop .add (.int 100) (.call 11 (.cons (.nm 0) (.cons (.int 99999900) .nil))))) (.cons (.ret (.ix (.lst (.cons (.ix (.lst (.cons (.int 100) (.cons (.int 101) (.cons (.int 12345) (.cons (.int 10000) (.cons (.int 9999) .nil)))))) eas) (.cons (.bop .add (.int 100) (.call 11 (.cons (.nm 0) (.cons (.int 6) .nil)))) (.cons (.nm 2) (.cons (.int 99999999) .nil))))) (.nm 1))) .nil)))⟩
def F_rows:Fn:=⟨[true],11,(.cons (.set 1 (.ife (.cmp .eq (.call 11 (.cons (.nm 0) (.cons (.int 8) .nil))) (.int 0)) (.bop .add (.int 20) (.call 11 (.cons (.nm 0) (.cons (.int 41) .nil)))) (.call 11 (.cons (.nm 0) (.cons (.int 11) .nil))))) (.cons (.set 2 (.ix (.lst (.cons (.int 2) (.cons (.int 5) (.cons (.int 9) .nil)))) eat)) (.cons (.set 3 (.lst .nil)) (.cons (.fr (.nm 4) (.rg1 (.nm 1)) (.cons (.par [5,6] (.cons (.call 11 (.cons (.nm 0) (.cons (.int 10) .nil))) (.cons eas .nil))) (.cons (.iff (.cmp .lt (.nm 5) (.nm 2)) (.cons (.app 3 (.tup (.cons (.str bm) (.cons (.nm 6) (.cons (.call 12 eb1) .nil))))) (.cons (.cont) .nil)) .nil) (.cons (.set 5 (.call 11 (.cons (.nm 0) (.cons (.int 9) .nil)))) (.cons (.par [7,8] (.cons eas (.cons (.call 11 (.cons (.nm 0) ea3)) .nil))) (.cons (.set 9 (.blt .max (.cons (.int 0) (.cons (.blt .min (.cons (.nm 1) (.cons (.bop .sub (.bop .add (.nm 4) (.call 11 (.cons (.nm 0) (.cons (.int 7) .nil)))) (.int 2)) .nil))) .nil)))) (.cons (.set 10 (.lst (.cons (.tup (.cons (.str bm) (.cons (.nm 6) eao))) (.cons (.tup (.cons (.str "sum") ea9)) (.cons (.tup (.cons (.str dV) ea9)) (.cons (.tup ea2) (.cons (.tup (.cons (.str am) eb3)) .nil))))))) (.cons (.set 10 (.cat (.nm 10) (.lst (.cons (.tup (.cons (.str ac) eba)) (.cons (.tup (.cons (.str ac) (.cons (.nm 6) (.cons (.nm 8) .nil)))) (.cons (.tup ea2) (.cons (.ix (.lst (.cons (.tup (.cons (.str am) (.cons (.nm 8) .nil))) (.cons (.tup ebp) .nil))) (.call 11 (.cons (.nm 0) ebz))) .nil))))))) (.cons (.app 3 (.ix (.nm 10) (.nm 5))) .nil))))))))) (.cons (.ret (.nm 3)) .nil)))))⟩
def mO:Fn:=⟨[true,false],4,(.cons (.set 2 eat) (.cons (.set 3 (.comp 2 [] (.enm (.nm 1)) (.tp [0,1]) (.some (.cmp .inn ebx (.tup eaz))) (.nm 0))) (.cons (.ret (.comp 1 [2,0] (.seq (.nm 3)) (.nm 0) (.some (.ix (.lst ead) (.nm 1))) (.nm 0))) .nil)))⟩
def dW:Fn:=⟨[false],1,(.cons (.ret (.and eav (.cmp .gt ebv (.int 99)))) .nil)⟩
def jd:Fn:=⟨[false,false,false],3,(.cons (.ret (.ife (.or (.call 15 (.cons (.ix (.nm 0) (.nm 2)) .nil)) ebn) (.int 2) (.int 1))) .nil)⟩
def gF:Fn:=⟨[false,false],2,(.cons (.iff (.isi .seq (.nm 1)) (.cons (.iff (.or (.cmp .ne (.isi .list (.nm 0)) (.isi .list (.nm 1))) (.cmp .ne (.isi .tuple (.nm 0)) (.isi .tuple (.nm 1)))) ebh .nil) (.cons (.iff eal ebh .nil) (.cons (.ret (.blt .all (.cons (.comp 2 [] (.zip (.nm 0) (.nm 1)) (.tp [0,1]) .none eau) .nil))) .nil))) .nil) (.cons (.iff (.or (.isn false (.nm 1)) (.isi .str (.nm 1))) (.cons (.ret (.and ebr (.cmp .eq (.isi .str (.nm 0)) (.isi .str (.nm 1))))) .nil) .nil) (.cons (.iff (.isi .bool (.nm 1)) (.cons (.ret (.and (.isi .bool (.nm 0)) ebr)) .nil) .nil) (.cons (.ret (.and (.isi .int (.nm 0)) (.and (.not (.isi .bool (.nm 0))) ebr))) .nil))))⟩
def F_laid:Fn:=⟨[true,false,false,false],12,(.cons (.set 4 (.lst eb0)) (.cons (.fr (.nm 5) (.rg1 ebe) (.cons eaf .nil)) (.cons (.set 6 (.lst .nil)) (.cons (.fr (.tp [5,7]) (.enm (.nm 1)) (.cons eaa (.cons (.set 10 (.ife eaj (.ix (.nm 4) (.ix (.nm 7) (.neg (.int 1)))) (.non))) (.cons (.set 11 (.nm 7)) (.cons (.iff ebi (.cons (.par [10,11] (.cons (.tup ebb) (.cons (.tup (.cons (.str em) (.cons (.ix (.nm 7) (.int 1)) ebb))) .nil))) .nil) .nil) (.cons (.iff eaj (.cons (.set 11 eae) .nil) .nil) (.cons eab .nil))))))) (.cons (.ret (.nm 6)) .nil)))))⟩
def F_law:Fn:=⟨[false],13,(.cons (.fr (.nm 1) (.rg1 (.bop .add (.int 1) eam)) (.cons eap (.cons ea4 (.cons eaq (.cons (.set 5 (.comp 2 [] (.enm (.nm 3)) (.tp [0,1]) (.some (.and eaw eai)) (.nm 0))) (.cons ea6 (.cons (.set 6 (.comp 1 [2] (.rg1 (.call 11 (.cons (.nm 2) (.cons (.int 60) .nil)))) (.nm 0) .none ear)) (.cons eag (.cons (.fr (.tp [8,9,10,11,12]) (.seq (.nm 7)) (.cons eah .nil)) (.cons (.ext 6 (.comp 1 [2] (.rg1 (.call 11 (.cons (.nm 2) (.cons (.int 3) .nil)))) (.nm 0) .none ear)) (.cons (.fr (.tp [8,9,10,11,12]) (.seq (.nm 7)) (.cons eac .nil)) .nil))))))))))) (.cons (.ret (.bl true)) .nil))⟩
def gG:Df:=⟨eH,eH,top 3,["row"],["row"],gC⟩
def dX:Df:=⟨ga,ga,top 24,["row",bi,"long","goal"],["row",bi,"long","goal"],be⟩
def fj:Df:=⟨gl,gl,top 25,["row",bi,"long","goal"],["row",bi,"long","goal","word","begin","at"],aO⟩
def fq:Df:=⟨hF,hF,top 26,["word","rest"],["word","rest","one","other"],fg⟩
def gH:Df:=⟨hY,hY,top 27,[cr,bi],[cr,bi,"lowest","one","step"],gD⟩
def fu:Df:=⟨ii,ii,top 28,[cr,bi],[cr,bi],fh⟩
def gJ:Df:=⟨im,im,top 29,[cr,"second",bi],[cr,"second",bi],gE⟩
def fv:Df:=⟨jp,jp,top 30,["cells",bi],["cells",bi,"begin","end","numbers"],kc⟩
def ip:Df:=⟨kt,kt,top 31,["cells",bi],["cells",bi,cr,"lone","two"],F_seen_at⟩
def iq:Df:=⟨lc,lc,top 33,[bn,ce],[bn,ce],eW⟩
def rE:Df:=⟨lf,lf,top 34,[bn,ce],[bn,ce,"_law_cell"],rD⟩
def rG:Df:=⟨ln,ln,top 35,[bv,"_law_many"],[bv,"_law_many",re,"_law_once"],lu⟩
def mP:Df:=⟨lv,lv,top 36,[bv],[bv,"_law_way","_law_any_one"],mN⟩
def rH:Df:=⟨lw,lw,top 37,[bv],[bv,"_law_many","_law_share","_law_made_rows","_law_number","_law_way","_law_r","_law_s","_law_t","_law_near","_law_some"],F_rows⟩
def mQ:Df:=⟨na,na,top 38,[bv,dL],[bv,dL,"_law_share","_law_jumps"],mO⟩
def dY:Df:=⟨nb,nb,top 39,[sn],[sn],dW⟩
def rJ:Df:=⟨np,np,top 40,[dL,pi,ce],[dL,pi,ce],jd⟩
def rK:Df:=⟨pr,pr,top 41,[re,"_law_due"],[re,"_law_due"],gF⟩
def rL:Df:=⟨pu,pu,top 42,[bv,dL,pi,"_law_first"],[bv,dL,pi,"_law_first","_law_places",ce,re,sn,"_law_b","_law_word","_law_goal","_law_thing"],F_laid⟩
def D_law:Df:=⟨ci,ci,top 43,[bn],[bn,ce,bv,dL,pi,"_law_far","_law_cells","_law_laid_here",sn,"_law_place","_law_long","_law_goal","_law_seen"],F_law⟩
def pl:Pl where
 ds:=[(gG,.fn),(dX,.fn),(fj,.fn),(fq,.fn),(gH,.fn),(fu,.fn),(gJ,.fn),(fv,.fn),(ip,.fn),(iq,.fn),(rE,.fn),(rG,.fn),(mP,.fn),(rH,.fn),(mQ,.fn),(dY,.fn),(rJ,.fn),(rK,.fn),(rL,.fn),(D_law,.fn)]
 cs:=[("FARTHEST_GO",.int 499),("FARTHEST_NIL",.int 99),("GREAT",.int 5000),("GREATEST_SMALL",.int 99),("HALF_WORD",.int 10000),("LESS",.int 3000),("LONG_GO",.int 7000),("LONG_NIL",.int 9000),("MOST_WORDS",.int 100),("NILS_OF_ONE",.int 200),("OVER",.int 7001),("PAD",.int 7002),("POOL",.int 7100),("REGISTERS",.int 5),("SAME_PLACE",.int 5000),("SET",.int 1000),("SHORT_GO",.int 6500),("SHORT_NIL",.int 8100),("STOP",.int 0),("SUM",.int 2000),("TELL",.int 4000)]
 nog:=["abs","all","bool","enumerate","int","isinstance","len","list","max","min","range",bm,"sorted","str","tuple","zip"]
 fld:=[]
abbrev BY:Nat:=19
theorem BZ:(pl.ds.all λz=>u0 pl.tb z.1)=true:=by decide +kernel
abbrev It(i:Int):OD:=.fz (.int i)
abbrev sw(i:Int):Option OD:=some (It i)
abbrev Tp(a b c:Int):OD:=.lst [It a,It b,It c]
abbrev sB(a b c:Int):Option OD:=some (Tp a b c)
structure TpOk (b c:Int)(n:Nat):Prop where
 b0:0<=b
 b1:b<2147483629
 c0:0<=c
 c1:c<=n
theorem fw{i j:Int}(h:(-(2^64)<i/\i<2^64)\/(-(2^64)<j/\j<2^64)):so .mul (.int i) (.int j)=some (.int (i*j)):=bs rfl (bs rfl (bs (bg h rfl) rfl))
theorem bU{i j:Int}(h:0<j):so .mod (.int i) (.int j)=some (.int (i%j)):=bs rfl (bs rfl (bs (bg h rfl) rfl))
theorem ir{i j:Int}(h:0<j/\j<1073741824):so .fdiv (.int i) (.int j)=some (.int (i/j)):=bs rfl (bs rfl (bs (bg h rfl) rfl))
theorem B3{x m:Int}(a:0<m)(h:m<=2^64):-(2^64)<x%m/\x%m<2^64:=by have b:=abl x (show m≠0 by omega);have c:=abm x a;omega
theorem up{m a k b:Nat}(h:m<=a)(e:Nat.ble (a+k) b=true):m+k<=b:=aat (acv h k) (acw e)
theorem Gk{m k b:Nat}(e:Nat.ble k b=true):m+k<=m+b:=abY (acw e) m
theorem aK{n m:Nat}{a b c many:Int}(h:TpOk b c m)(p:m<=1000000)(d:0<many)(j:many<1073741824):∃x k f e,pl.pg.call (n+1) 11 [Tp a b c,It many]=some (It x,[Tp k f e,It many])/\0<=x/\x<many/\TpOk f e (m+1):=by
 have o:=h.b0;have l:=h.b1;have q:=h.c0;have i:=h.c1;by_cases g:0<a
 ·refine⟨a%many,a/many,b,c,?_,abl _ (by omega),abm _ d,⟨h.b0,h.b1,h.c0,by omega⟩⟩;refine ar (fn:=lu) (ρ:=[sB (a/many) b c,sw many,sw (a%many),none]) rfl rfl ?_ rfl;refine ao (aL (aT (aN rfl rfl rfl rfl (show some (decide (0<a))=some true by rw[Dac g]))) ?_);refine ab (aj (af rfl rfl rfl rfl (bU d)) rfl rfl rfl) ?_;refine ab (lp (af rfl rfl rfl rfl (ir ⟨d,j⟩)) rfl rfl rfl rfl rfl rfl rfl) rfl
 ·exact⟨_,a,_,c+1,ar (fn:=lu) rfl rfl (ab (ak (aT (aN rfl rfl rfl rfl (show some (decide (0<a))=some false by rw[Dab g]))) rfl) (ab (lp rfl rfl rfl rfl rfl rfl rfl rfl) (ab (aj (af (af (af rfl (af rfl rfl rfl rfl (fw (.inl (by decide)))) rfl rfl rfl) (af rfl rfl rfl rfl rfl) rfl rfl (fw (.inr (by omega)))) rfl rfl rfl (bU (by decide))) rfl rfl rfl) (ab (lp (af (af (af rfl (af (af rfl rfl rfl rfl (bU (by decide))) rfl rfl rfl rfl) rfl rfl (fw (.inl (B3 (by decide) (by decide))))) rfl rfl rfl rfl) rfl rfl rfl (bU (by decide))) rfl rfl rfl rfl rfl rfl rfl) (ao (ae (af (af (af (af rfl (af (af rfl rfl rfl rfl (bU (by decide))) rfl rfl rfl rfl) rfl rfl (fw (.inl (B3 (by decide) (by decide))))) rfl rfl rfl (bU (by decide))) rfl rfl rfl (ir (by decide))) rfl rfl rfl (bU d)) rfl)))))) rfl,abl _ (by omega),abm _ d,⟨abl _ (by decide),abm _ (by decide),by omega,by omega⟩⟩
theorem yQ{n:Nat}{ns:List Int}{k:Nat}:∃x,pl.pg.call (n+1) 9 [.fz (.list (ns.map PyData.int)),It k]=some (It x,[.fz (.list (ns.map PyData.int)),It k]):=by
 by_cases b:(k:Int)<ns.length
 ·have a:k<ns.length:=by omega
  refine⟨ns[k],ar (fn:=eW) rfl rfl (ao (ae (fc (aT (aN rfl rfl rfl rfl (k:=true) ?_)) (bN rfl rfl rfl (jc (fe (x:=.int ns[k]) ?_)))) rfl)) rfl⟩
  ·show some (decide ((k:Int)<((ns.map PyData.int).length:Nat)))=some true;rw[aag,Dac b]
  ·rw[aaq,aao a];rfl
 ·refine⟨0,ar (fn:=eW) rfl rfl (ao (ae (c9 (aT (aN rfl rfl rfl rfl (k:=false) ?_)) rfl) rfl)) rfl⟩;show some (decide ((k:Int)<((ns.map PyData.int).length:Nat)))=some false;rw[aag,Dab b]
theorem yR{n:Nat}{ns:List Int}{k:Nat}(hk:k<=8):∃a b,pl.pg.call (n+2) 10 [.fz (.list (ns.map PyData.int)),It k]=some (Tp a b 0,[.fz (.list (ns.map PyData.int)),It k])/\TpOk b 0 0:=by obtain⟨x,c⟩:=yQ (n:=n) (ns:=ns) (k:=k);refine⟨_,_,ar (fn:=rD) rfl rfl (ab (aj (ag rfl rfl c rfl) rfl rfl rfl) (ao (ae (bu (aa (af rfl (bK (aa (aN rfl (af rfl rfl rfl rfl rfl) rfl rfl rfl) ai) rfl rfl) rfl rfl (fw (.inr ?_))) (aa (af (af (af (af (af rfl rfl rfl rfl (bU (by decide))) (af rfl rfl rfl rfl (fw (.inl (by decide)))) rfl rfl rfl) rfl rfl rfl rfl) rfl rfl rfl (fw (.inr (by decide)))) rfl rfl rfl (bU (by decide))) (aa rfl ai))) rfl rfl) rfl))) rfl,abl _ (by decide),abm _ (by decide),Int.le_refl _,Int.le_refl _⟩;exact(show ∀q:Bool,-(2^64)<(if q=true then (1:Int) else 0)/\(if q=true then (1:Int) else 0)<2^64 by decide) _
theorem je{ks:List Int}{i:Int}(d:0<=i)(b:i<ks.length):∃k,k∈ks/\atI (ks.map It) i=sw k:=by obtain⟨x,c,e⟩:=jb (xs:=ks.map It) d (by rw[aag];exact b);obtain⟨k,a,rfl⟩:=aaZ.mp c;exact⟨k,a,e⟩
theorem TpOk.up{b c:Int}{m a:Nat}(h:TpOk b c m)(d:m<=a):TpOk b c a:=⟨h.b0,h.b1,h.c0,by have:=h.c1;omega⟩
theorem u7{n m:Nat}{a b c:Int}(h:TpOk b c m)(e:m<=900000):∃k S o l,pl.pg.call (n+2) 12 [Tp a b c]=some (It k,[Tp S o l])/\(100<=k/\k<=99999999)/\TpOk o l (m+4):=by
 obtain⟨w,M,b1,Z,I,Q,y,C⟩:=aK (n:=n) (a:=a) (many:=4) h (up (k:=0) e rfl) (by decide) (by decide);obtain⟨q,J,Y,c2,s,G,N,D⟩:=aK (n:=n) (a:=M) (many:=99999900) C (up (k:=1) e rfl) (by decide) (by decide);obtain⟨x3,z,b3,c3,O,i,f,L⟩:=aK (n:=n) (a:=J) (many:=5) D (up (k:=2) e rfl) (by decide) (by decide);obtain⟨v,B,U,p,A,r,T,u⟩:=aK (n:=n) (a:=z) (many:=6) L (up (k:=3) e rfl) (by decide) (by decide);obtain⟨g,H,X⟩:=je (ks:=[100,101,12345,10000,9999]) i f;obtain⟨k,d,t⟩:=je (ks:=[g,100+v,100+q,99999999]) Q y;refine⟨k,B,U,p,ar (fn:=mN) rfl rfl (ab (aj (ag rfl rfl I rfl) rfl rfl rfl) (ab (aj (af rfl (ag rfl rfl s rfl) rfl rfl rfl) rfl rfl rfl) (ao (ae (bN (bu (aa (bN rfl (ag rfl rfl O rfl) rfl (gB X)) (aa (af rfl (ag rfl rfl A rfl) rfl rfl rfl) (aa rfl (aa rfl ai)))) rfl rfl) rfl rfl (gB t)) rfl)))) rfl,?_,u⟩;have j:100<=g/\g<=99999999:=(show ∀x∈[100,101,12345,10000,9999],(100:Int)<=x/\x<=99999999 by decide) g H;rcases aaa.mp d with rfl|d
 ·exact j
 rcases aaa.mp d with rfl|d
 ·omega
 rcases aaa.mp d with rfl|d
 ·omega
 rw[aas.mp d];decide
inductive R where|st (r k:Int)|ot (w:Str) (xs:List Int) (h:w≠bm/\PyData.strOk w=true)
def R.num:R->Int|.st _ k=>k|.ot _ _ _=>0
inductive Rkd:Str->List Int->Prop
 |sum (a b:Int) (h:(0<=a/\a<=4)/\0<=b/\b<=4):Rkd "sum" [a,b]
 |less (a b:Int) (h:(0<=a/\a<=4)/\0<=b/\b<=4):Rkd dV [a,b]
 |tell (a:Int) (h:0<=a/\a<=4):Rkd "tell" [a]
 |go (a:Int):Rkd am [a]
 |nil (a b:Int) (h:0<=a/\a<=4):Rkd ac [a,b]
 |stop:Rkd "stop" []
def R.ok:R->Prop|.st r k=>(0<=r/\r<=4)/\0<=k/\k<=99999999|.ot w xs _=>Rkd w xs
abbrev Nb(rs:List R):Prop:=∀r∈rs,r.ok
theorem Nb.snoc{rs:List R}{r:R}(h:Nb rs)(b:r.ok):Nb (rs++[r]):=λx a=>by
 rcases aaj.mp a with a|a
 ·exact h x a
 ·rw[aas.mp a];exact b
abbrev lx(a b:Int):R:=.ot "sum" [a,b] (by decide +kernel)
abbrev gK(a b:Int):R:=.ot dV [a,b] (by decide +kernel)
abbrev cN(a:Int):R:=.ot "tell" [a] (by decide +kernel)
abbrev u9(a:Int):R:=.ot am [a] (by decide +kernel)
abbrev jf(a b:Int):R:=.ot ac [a,b] (by decide +kernel)
abbrev B4:R:=.ot "stop" [] (by decide +kernel)
def R.d:R->PyData|.st r k=>.tuple [.str bm,.int r,.int k]|.ot w xs _=>.tuple (.str w::xs.map PyData.int)
def R.jm:R->Bool|.st _ _=>false|.ot w _ _=>decide (w=am)||decide (w=ac)
def R.tg:R->Int|.st _ _=>0|.ot _ xs _=>xs.getLastD 0
abbrev Jok(N:Int)(r:R):Prop:=r.jm=true->0<=r.tg/\r.tg<=N/\∃ys,r.d=.tuple (ys++[.int r.tg])
abbrev Jb(N:Int)(rs:List R):Prop:=∀r∈rs,Jok N r
theorem Jb.snoc{N:Int}{rs:List R}{r:R}(h:Jb N rs)(b:Jok N r):Jb N (rs++[r]):=λx a=>by
 rcases aaj.mp a with a|a
 ·exact h x a
 ·rw[aas.mp a];exact b
theorem B5{N a:Int}(c:0<=a)(b:a<=N):Jok N (u9 a):=λ_=>⟨c,b,[.str am],rfl⟩
theorem vW{N r a:Int}(c:0<=a)(b:a<=N):Jok N (jf r a):=λ_=>⟨c,b,[.str ac,.int r],rfl⟩
theorem ly{N:Int}{r:R}(h:r.jm=false):Jok N r:=λz=>by rw[h]at z;cases z
abbrev Rs(rs:List R):OD:=.lst (rs.map λr=>.fz r.d)
abbrev sK(rs:List R):Option OD:=some (Rs rs)
theorem vX{rs:List R}{i:Int}(c:0<=i)(a:i<rs.length):∃r,r∈rs/\atI (rs.map λr=>OD.fz r.d) i=some (.fz r.d):=by obtain⟨x,b,e⟩:=jb (xs:=rs.map λr=>OD.fz r.d) c (by rw[aag];exact a);obtain⟨r,f,rfl⟩:=aaZ.mp b;exact⟨r,f,e⟩
theorem vc{ρ:DEnv}{j:Nat}{rs:List R}{i:Int}{r:R}(h:ρ[j]?.join=sK rs)(b:atI (rs.map λr=>OD.fz r.d) i=some (.fz r.d)):bb ρ (.rf j) i=some (.fz r.d,ρ):=by
 obtain⟨k,c,a⟩:=bnd b;have e:itemS (Rs rs) i=some (r.d,Rs rs):=by simp only[Rs,itemS,c,a,OD.dat];rw[ba a]
 simp only[bb,h,e];rw[set_self (join_some h)]
theorem mR{rs:List R}{r:R}:Rs (rs++[r])=.lst ((rs.map λr=>OD.fz r.d)++[.fz r.d]):=by rw[Rs,aay];rfl
abbrev wp:=pl.pg.ct
theorem oJ{n m:Nat}{a b c many share i:Int}{rs:List R}{o4 o5 o6 o7 o8 o9 o10:Option OD}(h:TpOk b c m)(s:m<=100000)(hl:rs.length<=1000)(m0:0<=many)(m1:many<=100):
  ∃fl G,((bH (.nm 4) (.fz (.int i)) [sB a b c,sw many,sw share,sK rs,o4,o5,o6,o7,o8,o9,o10]).bind λρ1=>aW (wp (n+2)) (match F_rows.body with|.cons _ (.cons _ (.cons _ (.cons (.fr _ _ b) _)))=>b|_=>.nil) ρ1)=some (fl,G)/\(fl=.nx\/fl=.ct)/\∃(r:R) (a' b' c':Int) (p4 p5 p6 p7 p8 p9 b0:Option OD),G=[sB a' b' c',sw many,sw share,some (Rs (rs++[r])),p4,p5,p6,p7,p8,p9,b0]/\(r.ok/\Jok many r)/\TpOk b' c' (m+8):=by
 obtain⟨t,T,b1,c1,e1,d2,d6,t1⟩:=aK (n:=n+1) (a:=a) (many:=10) h (up (k:=0) s rfl) (by decide) (by decide);obtain⟨e,x,N,Q,e2,o,d4,t2⟩:=aK (n:=n+1) (a:=T) (many:=5) t1 (up (k:=1) s rfl) (by decide) (by decide);by_cases hw:t<share
 ·obtain⟨g,v,A,y,Z,g0,t3⟩:=u7 (n:=n) (a:=x) t2 (up (k:=2) s rfl);refine⟨.ct,_,bs rfl (ab (dA (ρ3:=[sB x N Q,sw many,sw share,sK rs,sw i,sw t,sw e,o7,o8,o9,o10]) (aa (ag (ρ3:=[sB T b1 c1,sw many,sw share,sK rs,sw i,o5,o6,o7,o8,o9,o10]) rfl rfl e1 rfl) (aa (ag (ρ3:=[sB x N Q,sw many,sw share,sK rs,sw i,o5,o6,o7,o8,o9,o10]) rfl rfl e2 rfl) ai)) rfl rfl rfl) (EF (aL (aT (aN rfl rfl rfl rfl (show some (decide (t<share))=some true by rw[Dac hw]))) (ab (ja (ρ3:=[sB v A y,sw many,sw share,some (Rs (rs++[.st e g])),sw i,sw t,sw e,o7,o8,o9,o10]) (xs:=rs.map λr=>.fz r.d) rfl (cZ (z:=.fz (R.st e g).d) (aa rfl (aa rfl (aa (ag (ρ3:=[sB v A y,sw many,sw share,sK rs,sw i,sw t,sw e,o7,o8,o9,o10]) rfl rfl Z rfl) ai))) rfl rfl rfl) rfl rfl (by rw[aag];omega) (by rw[mR];rfl)) rfl)))),.inr rfl,.st e g,v,A,y,sw i,sw t,sw e,o7,o8,o9,o10,rfl,⟨⟨⟨o,by omega⟩,by omega,g0.2⟩,ly rfl⟩,t3.up (Gk (k:=6) rfl)⟩
 ·obtain⟨q,v,A,y,Z,S,X,t3⟩:=aK (n:=n+1) (a:=x) (many:=9) t2 (up (k:=2) s rfl) (by decide) (by decide);obtain⟨l,a4,b4,c4,e4,D,d5,t4⟩:=aK (n:=n+1) (a:=v) (many:=5) t3 (up (k:=3) s rfl) (by decide) (by decide);obtain⟨p,a5,b5,c5,e5,H,I,t5⟩:=aK (n:=n+1) (a:=a4) (many:=many+1) t4 (up (k:=4) s rfl) (by omega) (by omega);obtain⟨O,a6,b6,c6,e6,d7,d3,t6⟩:=aK (n:=n+1) (a:=a5) (many:=7) t5 (up (k:=5) s rfl) (by decide) (by decide);obtain⟨u,a7,b7,c7,e7,U,d1,t7⟩:=aK (n:=n+1) (a:=a6) (many:=100) t6 (up (k:=6) s rfl) (by decide) (by decide);obtain⟨x8,L,M,J,e8,c0,a0,t8⟩:=aK (n:=n+1) (a:=a7) (many:=2) t7 (up (k:=7) s rfl) (by decide) (by decide);obtain⟨C,B,e9⟩:=vX (rs:=[u9 p,B4]) c0 a0;obtain⟨j,w⟩:∃j:Int,j=(if (if i+O-2<many then i+O-2 else many)>0 then (if i+O-2<many then i+O-2 else many) else 0):=⟨_,rfl⟩
  obtain⟨r,f,d0⟩:=vX (rs:=[.st e u,lx e l,gK e l,cN e,u9 j,jf e j,jf e p,cN e,C]) S X;have hb:r.ok:=by
   have Y:C.ok:=by
    rcases aaa.mp B with rfl|B
    ·exact Rkd.go _
    ·rw[aas.mp B];exact Rkd.stop
   rcases aaa.mp f with rfl|f
   ·exact⟨⟨o,by omega⟩,U,by omega⟩
   rcases aaa.mp f with rfl|f;exact Rkd.sum _ _ ⟨⟨o,by omega⟩,D,by omega⟩;rcases aaa.mp f with rfl|f;exact Rkd.less _ _ ⟨⟨o,by omega⟩,D,by omega⟩;rcases aaa.mp f with rfl|f;exact Rkd.tell _ ⟨o,by omega⟩;rcases aaa.mp f with rfl|f;exact Rkd.go _;rcases aaa.mp f with rfl|f;exact Rkd.nil _ _ ⟨o,by omega⟩;rcases aaa.mp f with rfl|f;exact Rkd.nil _ _ ⟨o,by omega⟩;rcases aaa.mp f with rfl|f;exact Rkd.tell _ ⟨o,by omega⟩;rw[aas.mp f];exact Y
  have n0:0<=j:=by rw[w];split<;>omega
  have n1:j<=many:=by rw[w];split<;>(try split)<;>omega
  have hj:Jok many r:=by
   have Y:Jok many C:=by
    rcases aaa.mp B with rfl|B
    ·exact B5 H (Int.lt_add_one_iff.mp I)
    ·rw[aas.mp B];exact ly rfl
   rcases aaa.mp f with rfl|f;exact ly rfl;rcases aaa.mp f with rfl|f;exact ly rfl;rcases aaa.mp f with rfl|f;exact ly rfl;rcases aaa.mp f with rfl|f;exact ly rfl;rcases aaa.mp f with rfl|f;exact B5 n0 n1;rcases aaa.mp f with rfl|f;exact vW n0 n1;rcases aaa.mp f with rfl|f;exact vW H (Int.lt_add_one_iff.mp I);rcases aaa.mp f with rfl|f;exact ly rfl;rw[aas.mp f];exact Y
  refine⟨.nx,_,bs rfl (ab (dA (ρ3:=[sB x N Q,sw many,sw share,sK rs,sw i,sw t,sw e,o7,o8,o9,o10]) (aa (ag (ρ3:=[sB T b1 c1,sw many,sw share,sK rs,sw i,o5,o6,o7,o8,o9,o10]) rfl rfl e1 rfl) (aa (ag (ρ3:=[sB x N Q,sw many,sw share,sK rs,sw i,o5,o6,o7,o8,o9,o10]) rfl rfl e2 rfl) ai)) rfl rfl rfl) (ab (ak (aT (aN rfl rfl rfl rfl (show some (decide (t<share))=some false by rw[Dab hw]))) rfl) ?_)),.inl rfl,r,L,M,J,sw i,sw q,sw e,sw l,sw p,sw j,some (Rs [.st e u,lx e l,gK e l,cN e,u9 j,jf e j,jf e p,cN e,C]),rfl,⟨hb,hj⟩,t8⟩;refine ab (aj (ρ3:=[sB v A y,sw many,sw share,sK rs,sw i,sw q,sw e,o7,o8,o9,o10]) (ag (ρ3:=[sB v A y,sw many,sw share,sK rs,sw i,sw t,sw e,o7,o8,o9,o10]) rfl rfl Z rfl) rfl rfl rfl) ?_;refine ab (dA (ρ3:=[sB a5 b5 c5,sw many,sw share,sK rs,sw i,sw q,sw e,sw l,sw p,o9,o10]) (aa (ag (ρ3:=[sB a4 b4 c4,sw many,sw share,sK rs,sw i,sw q,sw e,o7,o8,o9,o10]) rfl rfl e4 rfl) (aa (ag (ρ3:=[sB a5 b5 c5,sw many,sw share,sK rs,sw i,sw q,sw e,o7,o8,o9,o10]) rfl rfl e5 rfl) ai)) rfl rfl rfl) ?_;refine ab (aj (ρ3:=[sB a6 b6 c6,sw many,sw share,sK rs,sw i,sw q,sw e,sw l,sw p,sw j,o10]) (bK (aa rfl (aa (bK (aa rfl (aa (af (af rfl (ag (ρ3:=[sB a6 b6 c6,sw many,sw share,sK rs,sw i,sw q,sw e,sw l,sw p,o9,o10]) rfl rfl e6 rfl) rfl rfl rfl) rfl rfl rfl rfl) ai)) rfl rfl) ai)) rfl (show _=some (PyData.int j) by rw[w];rfl)) rfl rfl rfl) ?_;refine ab (aj (ρ3:=[sB a7 b7 c7,sw many,sw share,sK rs,sw i,sw q,sw e,sw l,sw p,sw j,some (Rs [.st e u,lx e l,gK e l,cN e,u9 j])]) (bu (zs:=[.fz (R.st e u).d,.fz (lx e l).d,.fz (gK e l).d,.fz (cN e).d,.fz (u9 j).d]) (aa (cZ (z:=.fz (R.st e u).d) (aa rfl (aa rfl (aa (ag (ρ3:=[sB a7 b7 c7,sw many,sw share,sK rs,sw i,sw q,sw e,sw l,sw p,sw j,o10]) rfl rfl e7 rfl) ai))) rfl rfl rfl) (aa rfl (aa rfl (aa rfl (aa rfl ai))))) rfl rfl) rfl rfl rfl) ?_;refine ab (aj (ρ3:=[sB L M J,sw many,sw share,sK rs,sw i,sw q,sw e,sw l,sw p,sw j,some (Rs [.st e u,lx e l,gK e l,cN e,u9 j,jf e j,jf e p,cN e,C])]) (vU rfl (bu (aa rfl (aa rfl (aa rfl (aa (bN rfl (ag (ρ3:=[sB L M J,sw many,sw share,sK rs,sw i,sw q,sw e,sw l,sw p,sw j,some (Rs [.st e u,lx e l,gK e l,cN e,u9 j])]) rfl rfl e8 rfl) rfl (gB e9)) ai)))) rfl rfl) rfl rfl (show 9<=1000000 by decide)) rfl rfl rfl) ?_;exact ab (ja (ρ3:=[sB L M J,sw many,sw share,some (Rs (rs++[r])),sw i,sw q,sw e,sw l,sw p,sw j,some (Rs [.st e u,lx e l,gK e l,cN e,u9 j,jf e j,jf e p,cN e,C])]) (xs:=rs.map λr=>.fz r.d) rfl (bN rfl rfl rfl (vc rfl d0)) rfl rfl (by rw[aag];omega) (by rw[mR];rfl)) rfl
theorem oK{lo:Int}{n:Nat}:∀d∈bY lo n,∃i,d=.int i:=λd a=>by obtain⟨i,_,rfl⟩:=aaZ.mp a;exact⟨_,rfl⟩
theorem oM{n m:Nat}{a b c many sh:Int}(h:TpOk b c (m+3))(M:m<=90000)(U:0<=many)(T:many<=60):∃(rs:List R) (v o l:Int) (o4 o5 o6 o7 o8 o9 o10:Option OD),bS (λd f=>(bH (.nm 4) (.fz d) f).bind λρ1=>aW (wp (n+2)) (match F_rows.body with|.cons _ (.cons _ (.cons _ (.cons (.fr _ _ b) _)))=>b|_=>.nil) ρ1) (bY 0 many.toNat) [sB a b c,sw many,sw sh,some (Rs []),none,none,none,none,none,none,none]=some (.nx,[sB v o l,sw many,sw sh,sK rs,o4,o5,o6,o7,o8,o9,o10])/\rs.length<=60/\(Nb rs/\Jb rs.length rs)/\TpOk o l (m+500):=by
 have u:many.toNat<=60:=by omega
 have p:many<=100:=abM T (by decide);obtain⟨f,A,rs,L,B,S,o4,o5,o6,o7,o8,o9,o10,rfl,g,_,k,H⟩:=oI (step:=λd f=>(bH (.nm 4) (.fz d) f).bind λρ1=>aW (wp (n+2)) (match F_rows.body with|.cons _ (.cons _ (.cons _ (.cons (.fr _ _ b) _)))=>b|_=>.nil) ρ1)
  (λds ρ=>∃(rs:List R) (a b c:Int) (o4 o5 o6 o7 o8 o9 o10:Option OD),ρ=[sB a b c,sw many,sw sh,sK rs,o4,o5,o6,o7,o8,o9,o10]/\rs.length+ds.length=many.toNat/\(∀d∈ds,∃i,d=.int i)/\(Nb rs/\Jb many rs)/\TpOk b c (m+3+8*rs.length)) (λd ds ρ=>by
   rintro⟨rs,a,b,c,o4,o5,o6,o7,o8,o9,o10,rfl,g,x,k,t⟩;obtain⟨i,rfl⟩:=x _ aal;have j:rs.length<=60:=aat (Nat.le.intro g) u;obtain⟨N,f,e,z,r,v,o,l,I,D,G,Q,J,O,s,rfl,w,C⟩:=oJ (n:=n) (share:=sh) (i:=i) (a:=a) (o4:=o4) (o5:=o5) (o6:=o6) (o7:=o7) (o8:=o8) (o9:=o9) (o10:=o10) t (aat (Nat.add_le_add (acv M 3) (acx 8 j)) (by decide)) (aat j (by decide):rs.length<=1000) U p;have y:(rs++[r]).length=rs.length+1:=aaw;exact⟨N,_,e,z,rs++[r],v,o,l,I,D,G,Q,J,O,s,rfl,by rw[y,Nat.add_right_comm];exact g,λd q=>x d (aak _ q),⟨k.1.snoc w.1,k.2.snoc w.2⟩,C.up (by rw[y];exact aac _)⟩)
  (ds:=bY 0 many.toNat) (ρ:=[sB a b c,sw many,sw sh,some (Rs []),none,none,none,none,none,none,none]) ⟨[],a,b,c,none,none,none,none,none,none,none,rfl,by rw[dH,List.length_nil,abj],oK,⟨(λr j=>absurd j aau),(λr j=>absurd j aau)⟩,h⟩
 have g:rs.length=many.toNat:=g;exact⟨rs,L,B,S,o4,o5,o6,o7,o8,o9,o10,A,g▸u,⟨k.1,(show (rs.length:Int)=many by omega)▸k.2⟩,H.up (aat (abY (acx 8 (g▸u)) (m+3)) (abY (show 3+8*60<=500 by decide) m))⟩
theorem yS{n m:Nat}{a b c:Int}(h:TpOk b c m)(w:m<=90000):∃(rs:List R) (L q p:Int),pl.pg.call (n+3) 13 [Tp a b c]=some (Rs rs,[Tp L q p])/\rs.length<=60/\(Nb rs/\Jb rs.length rs)/\TpOk q p (m+500):=by
 have v:∀(a b c many:Int),TpOk b c (m+2)->0<=many->many<=60->∃(rs:List R) (L q p:Int) (B:DEnv),aW (wp (n+2)) (match F_rows.body with|.cons _ ss=>ss|_=>.nil) [sB a b c,sw many,none,none,none,none,none,none,none,none,none]=some (.rt (Rs rs),sB L q p::B)/\rs.length<=60/\(Nb rs/\Jb rs.length rs)/\TpOk q p (m+500):=by intro a b c many h T S;obtain⟨y,f,j,i,A,x,u,z⟩:=aK (n:=n+1) (a:=a) (many:=3) h (up (k:=2) w rfl) (by decide) (by decide);obtain⟨sh,_,Q⟩:=je (ks:=[2,5,9]) x u;obtain⟨rs,e,d,g,Z,o5,U,Y,o8,X,O,o,r,s,t⟩:=oM (n:=n) (a:=f) (sh:=sh) z w T S;exact⟨rs,e,d,g,_,ab (aj (ρ3:=[sB f j i,sw many,sw sh,none,none,none,none,none,none,none,none]) (bN rfl (ag (ρ3:=[sB f j i,sw many,none,none,none,none,none,none,none,none,none]) rfl rfl A rfl) rfl (gB Q)) rfl rfl rfl) (ab (aj (ρ3:=[sB f j i,sw many,sw sh,some (Rs []),none,none,none,none,none,none,none]) rfl rfl rfl rfl) (ab (ik (gA rfl rfl (by omega)) o) (ao (ae rfl rfl)))),r,s,t⟩
 obtain⟨y,f,j,i,A,x,u,z⟩:=aK (n:=n+1) (a:=a) (many:=8) h (up (k:=0) w rfl) (by decide) (by decide);by_cases N:y=0
 ·obtain⟨l,e,d,g,o,D,H,t⟩:=aK (n:=n+1) (a:=f) (many:=41) z (up (k:=1) w rfl) (by decide) (by decide);obtain⟨rs,C,M,I,B,J,r,s,G⟩:=v e d g (20+l) t (by omega) (by omega);exact⟨rs,C,M,I,ar (fn:=F_rows) rfl rfl (ab (aj (ρ3:=[sB e d g,sw (20+l),none,none,none,none,none,none,none,none,none]) (fc (aT (aN (ag (ρ3:=[sB f j i,none,none,none,none,none,none,none,none,none,none]) rfl rfl A rfl) rfl rfl rfl (show some (decide (y=0))=some true by rw[Dac N]))) (af rfl (ag (ρ3:=[sB e d g,none,none,none,none,none,none,none,none,none,none]) rfl rfl o rfl) rfl rfl rfl)) rfl rfl rfl) J) rfl,r,s,G⟩
 ·obtain⟨l,e,d,g,o,D,H,t⟩:=aK (n:=n+1) (a:=f) (many:=11) z (up (k:=1) w rfl) (by decide) (by decide);obtain⟨rs,C,M,I,B,J,r,s,G⟩:=v e d g l t (by omega) (by omega);exact⟨rs,C,M,I,ar (fn:=F_rows) rfl rfl (ab (aj (ρ3:=[sB e d g,sw l,none,none,none,none,none,none,none,none,none]) (c9 (aT (aN (ag (ρ3:=[sB f j i,none,none,none,none,none,none,none,none,none,none]) rfl rfl A rfl) rfl rfl rfl (show some (decide (y=0))=some false by rw[Dab N]))) (ag (ρ3:=[sB e d g,none,none,none,none,none,none,none,none,none,none]) rfl rfl o rfl)) rfl rfl rfl) J) rfl,r,s,G⟩
def R.gr:R->Bool|.st _ k=>decide (99<k)|.ot _ _ _=>false
abbrev Rd(r:R):OD:=.fz r.d
abbrev ul(r:R):Option OD:=some (Rd r)
abbrev Rl(rs:List R):OD:=.fz (.list (rs.map R.d))
abbrev ut(rs:List R):Option OD:=some (Rl rs)
theorem cO{a:Type}{x:a}{xs:List a}:atI (x::xs) 0=some x:=fe (k:=0) rfl
theorem EG{n:Nat}(r:R):pl.pg.call (n+1) 0 [Rd r]=some (.fz (.bool r.gr),[Rd r]):=by
 cases r with
 |st r k=>rfl
 |ot w a h=>exact ar (fn:=gC) rfl rfl (ao (ae (rB (aN (bN rfl rfl rfl (eV cO)) rfl rfl rfl (show some (decide (w=bm))=some false by rw[Dab h.1]))) rfl)) rfl
theorem vY{n:Nat}(r:R):pl.pg.call (n+1) 15 [Rd r]=some (.fz (.bool r.gr),[Rd r]):=by
 cases r with
 |st r k=>rfl
 |ot w a h=>exact ar (fn:=dW) rfl rfl (ao (ae (rB (aN (bN rfl rfl rfl (eV cO)) rfl rfl rfl (show some (decide (w=bm))=some false by rw[Dab h.1]))) rfl)) rfl
def R.wd:R->Str|.st _ _=>bm |.ot w _ _=>w
def R.tl:R->List PyData|.st r k=>[.int r,.int k]|.ot _ xs _=>xs.map PyData.int
theorem dats_fz:∀ds:List PyData,OD.eo (ds.map OD.fz)=some ds
 |[]=>rfl
 |d::ds=>by rw[aan,OD.eo,dats_fz ds];rfl
theorem eX(ds:List PyData):(OD.lst (ds.map OD.fz)).dat=some (.list ds):=by rw[OD.dat,dats_fz]
theorem gL{ρ a:DEnv}{j:Nat}{x:OD}{d:PyData}(h:ρ[j]?.join=some x)(b:x.dat=some d)(c:ρ.set j (some (.fz d))=a):frz1 ρ (.rf j)=some (d,a):=by simp only[frz1,h,Option.bind_some,b,Option.map_some,c]
theorem unca_nil{ρ a:DEnv}:fB ρ [] a=ρ:=by cases a with|nil=>rfl|cons o a=>cases o<;>rfl
theorem R.d_is(r:R):r.d=.tuple (.str r.wd::r.tl):=by cases r<;>rfl
abbrev Il(gs:List Int):OD:=.lst (gs.map It)
abbrev wl(gs:List Int):Option OD:=some (Il gs)
theorem iu(gs:List Int):(gs.map PyData.int).map OD.fz=gs.map It:=by rw[aa5];rfl
theorem lz(gs:List Int):(Il gs).dat=some (.list (gs.map PyData.int)):=by rw[Il,<-iu,eX]
theorem B6(rs:List R):(rs.map R.d).map OD.fz=rs.map λr=>OD.fz r.d:=by rw[aa5];rfl
theorem cP{ρ:DEnv}{j:Nat}{gs:List Int}{i g:Int}(h:ρ[j]?.join=wl gs)(b:atI (gs.map It) i=sw g):bb ρ (.rf j) i=some (It g,ρ):=by
 obtain⟨k,c,a⟩:=bnd b;have d:itemS (Il gs) i=some (.int g,Il gs):=by simp only[Il,itemS,c,a,OD.dat];rw[ba a]
 simp only[bb,h,d];rw[set_self (join_some h)]
theorem B7{rs:List R}{k:Nat}{r:R}(h:rs[k]?=some r):atI (rs.map R.d) (k:Int)=some r.d:=fe (by rw[aaq,h];rfl)
theorem kf{x:Int}:∀{ls:List Int},memD (.int x) (ls.map PyData.int)=some (decide (x∈ls))
 |[]=>by simp[memD]
 |y::ls=>by rw[aan,memD,kf (ls:=ls)];show some (decide (y=x)||decide (x∈ls))=_;rw[<-Bool.decide_or];congr 1;rw[decide_eq_decide,aaa];exact⟨λh=>h.imp Eq.symm id,λh=>h.imp Eq.symm id⟩
theorem CF{x:Int}{ls:List Int}:sq .inn (.int x) (.list (ls.map PyData.int))=some (decide (x∈ls)):=bs (f:=λa=>(gd (ze (PyData.int x)=true)).bind λ_=>memD (.int x) a) rfl (bg rfl kf)
def enF:Int->List R->List PyData
 |_,[]=>[]
 |i,r::rs=>.tuple [.int i,r.d]::enF (i+1) rs
theorem mS:∀{rs:List R}{i:Int}{j:Nat},(enF i rs)[j]?=(rs[j]?).map λr=>.tuple [.int (i+j),r.d]
 |[],_,_=>by simp[enF]
 |r::rs,i,0=>by simp[enF]
 |r::rs,i,j+1=>by
  rw[enF,acy,acy,mS];congr 1;funext r;have e:i+1+(j:Int)=i+((j+1:Nat):Int):=by omega
  rw[e]
theorem jg(rs:List R):cg (rs.map R.d)=enF 0 rs:=by
 refine abQ λj=>?_;rw[mS,abZ];unfold cg;rw[aaq,aag];by_cases a:j<rs.length
 ·rw[acz a,aao a];simp[aa3,aaq,aao a]
 ·rw[abx (by simpa using a),abx (by omega)];rfl
theorem eY{lo:Int}{n:Nat}:bY lo (n+1)=.int lo::bY (lo+1) n:=by
 unfold bY;rw[List.range_succ_eq_map,aan,aa5];congr 1
 ·simp
 ·refine acs λi _=>?_;show PyData.int (lo+((i+1:Nat):Int))=_;congr 1;omega
theorem vd{ns:List Int}{x:Int}:Il (ns++[x])=.lst (ns.map It++[It x]):=by rw[Il,aay];rfl
abbrev Dl(gs:List Int):OD:=.fz (.list (gs.map PyData.int))
abbrev wn(gs:List Int):Option OD:=some (Dl gs)
theorem B8{a:Type}{f:a->PyData}{l:List a}:iK (.list (l.map f))=some l.length:=by show some (l.map f).length=_;rw[aag]
theorem blen{a:Type}{f:a->PyData}{l:List a}:zf .len [.list (l.map f)]=some (.int l.length):=by show (cJ [PyData.list (l.map f)]).bind (λd=>(iK d).bind λn=>some (PyData.int n))=_;exact bs rfl (bs B8 rfl)
theorem yT{C:Ct}{t:Tg}{e:E}{ρ ρ1 ρ2 ρ3:DEnv}{x:OR}{z:OD}(h:ev C e ρ=some (x,ρ1))(b:own1 ρ1 x=some (z,ρ2))(a:bH t z ρ2=some ρ3):dN C (.asg t e) ρ=some (.nx,ρ3):=bs h (bs b (bs a rfl))
theorem kg:∀ns:List Int,gk (ns.map PyData.int)=some ns
 |[]=>rfl
 |n::ns=>bs rfl (bs (kg ns) rfl)
theorem B9(r:R):r.jm=(decide (r.wd=am)||decide (r.wd=ac)):=by cases r<;>rfl
def jIx:Int->List R->List Int
 |_,[]=>[]
 |i,r::rs=>if r.jm=true then i::jIx (i+1) rs else jIx (i+1) rs
theorem jIx_mem:∀{rs:List R}{i a:Int},a∈jIx i rs->∃(j:Nat) (r:R),a=i+j/\rs[j]?=some r/\r.jm=true
 |[],i,a,h=>absurd h aau
 |r::rs,i,a,h=>by
  rw[jIx]at h;by_cases b:r.jm=true
  ·rw[if_pos b]at h;rcases aaa.mp h with rfl|h
   ·exact⟨0,r,by omega,rfl,b⟩
   ·obtain⟨j,q,e,c,d⟩:=jIx_mem h;exact⟨j+1,q,by rw[e];omega,c,d⟩
  ·rw[if_neg b]at h;obtain⟨j,q,e,c,d⟩:=jIx_mem h;exact⟨j+1,q,by rw[e];omega,c,d⟩
theorem fI:∀{rs:List R}{i:Int},(jIx i rs).length=(rs.filter R.jm).length
 |[],i=>rfl
 |r::rs,i=>by
  rw[jIx];by_cases a:r.jm=true
  ·rw[if_pos a,List.filter_cons_of_pos a,aav,aav,fI]
  ·rw[if_neg a,List.filter_cons_of_neg a,fI]
def farN(r:R)(a:Int):Int:=if r.wd=ac then (if 99<a then 99 else a) else a
theorem atI_last{a:Type}{xs:List a}{x:a}:atI (xs++[x]) (-1)=some x:=by
 have e:ixN (xs++[x]).length (-1)=some xs.length:=by unfold ixN;rw[aaw,ab7];rw[if_neg (by omega),if_pos (by omega)];congr 1;omega
 exact bs e List.getElem?_concat_length
theorem atI_get{b:Type}{g:Int->b}{gs:List Int}{i:Int}(d:0<=i)(c:i<gs.length):atI (gs.map g) i=some (g (gs.getD i.toNat 0)):=by
 have e:i=(i.toNat:Int):=by omega
 have a:i.toNat<gs.length:=by omega
 rw[e];refine fe ?_;rw[aaq,aaX,aao a,aa3,aao a];rfl
theorem vZ(r:R):sq .inn (.str r.wd) (.tuple [.str am,.str ac])=some r.jm:=by rw[B9];show some (decide (am=r.wd)||(decide (ac=r.wd)||false))=_;rw[abE,decide_eq_decide.mpr (eq_comm (a:=Str.ofString "go")),decide_eq_decide.mpr (eq_comm (a:=Str.ofString "nil"))]
theorem rM{ios:List Bool}{ρ ρ1 ρ2:DEnv}{r:OR}{rs:List OR}{d:PyData}{xs:List OD}(h:frz1 ρ r=some (d,ρ1))(k:aX ios ρ1 rs=some (xs,ρ2)):aX (false::ios) ρ (r::rs)=some (.fz d::xs,ρ2):=by simp only[aX,h,k]
theorem mT(ls:List Int):listOf (Il ls)=some (ls.map PyData.int):=by show pZ (ls.map It)=_;rw[<-iu];exact fzL_of _
abbrev jT:E:=.cmp .inn ebx (.tup eaz)
theorem jh{C:Ct}:∀{rs:List R}{i:Int}{out:List PyData}{o0 o1:Option OD},∃a,cm (cL C (.tp [0,1]) (.some jT) (.nm 0)) (enF i rs) out [o0,o1]=some (out++(jIx i rs).map PyData.int,a)
 |[],i,out,o0,o1=>⟨[o0,o1],by rw[jIx,aaQ,aaA];rfl⟩
 |r::rs,i,out,o0,o1=>by
  have b:bw C jT [sw i,ul r]=some (r.jm,[sw i,ul r]):=aT (aN (bN (z:=.fz (.str r.wd)) rfl rfl rfl (by rw[R.d_is];exact eV cO)) rfl rfl rfl (vZ r));rw[jIx];cases c:r.jm with
  |false=>rw[c]at b;obtain⟨a,e⟩:=jh (C:=C) (rs:=rs) (i:=i+1) (out:=out++[]) (o0:=sw i) (o1:=ul r);refine⟨a,bs (x:=([],[sw i,ul r])) (yP rfl b) ?_⟩;rw[if_neg aab,e,aaA]
  |true=>rw[c]at b;obtain⟨a,e⟩:=jh (C:=C) (rs:=rs) (i:=i+1) (out:=out++[.int i]) (o0:=sw i) (o1:=ul r);refine⟨a,bs (x:=([.int i],[sw i,ul r])) (yO rfl b rfl rfl) ?_⟩;rw[if_pos rfl,e,aaf];rfl
abbrev Gm:E:=.ix (.lst ead) (.nm 1)
theorem ji{n:Nat}{sh:Int}(p:0<=sh)(h:sh<3):∀{js:List Int}{m:Nat}{a b c:Int}{out:List PyData}{o:Option OD},TpOk b c m->m+js.length<=100000->∃(ls:List Int) (M A z:Int) (I:Option OD),cm (cL (wp (n+1)) (.nm 0) (.some Gm) (.nm 0)) (js.map PyData.int) out [o,sw sh,sB a b c]=some (out++ls.map PyData.int,[I,sw sh,sB M A z])/\ls.Sublist js/\TpOk A z (m+js.length)
 |[],m,a,b,c,out,o,t,_=>⟨[],a,b,c,o,by rw[aaQ,aaA];rfl,.slnil,t⟩
 |k::js,m,a,b,c,out,o,t,hm=>by
  rw[aav]at hm;obtain⟨H,d,u,r,L,O,J,B⟩:=aK (n:=n) (a:=a) (many:=2) t (by omega) (by decide) (by decide);obtain⟨y,G,N⟩:=jb (xs:=[OD.fz (.bool false),.fz (.bool (decide (H=0))),.fz (.bool true)]) p h;obtain⟨q,rfl⟩:∃q:Bool,y=.fz (.bool q):=by simp only[aaa,aau,or_false]at G;rcases G with rfl|rfl|rfl<;>exact⟨_,rfl⟩
  have D:=EE (C:=wp (n+1)) (ρ:=[sw k,sw sh,sB a b c]) (bN (bu (aa rfl (aa (aN (ag (f:=11) (es:=.cons (.nm 2) ebz) (ρ3:=[sw k,sw sh,sB d u r]) rfl rfl L rfl) (b:=.int 0) (o:=.eq) rfl rfl rfl rfl) (aa (e:=.bl true) rfl ai)) (e:=.bl false)) rfl rfl) (b:=.nm 1) rfl rfl (gB N));cases q with
  |false=>obtain⟨ls,s,j,v,w,g,i,l⟩:=ji (n:=n) p h (js:=js) (a:=d) (out:=out++[]) (o:=sw k) B (by omega);refine⟨ls,s,j,v,w,bs (x:=([],[sw k,sw sh,sB d u r])) (yP rfl D) ?_,i.cons _,l.up (by rw[aav];omega)⟩;rw[g,aaA]
  |true=>obtain⟨ls,s,j,v,w,g,i,l⟩:=ji (n:=n) p h (js:=js) (a:=d) (out:=out++[.int k]) (o:=sw k) B (by omega);refine⟨k::ls,s,j,v,w,bs (x:=([.int k],[sw k,sw sh,sB d u r])) (yO rfl D rfl rfl) ?_,i.cons₂ _,l.up (by rw[aav];omega)⟩;rw[g,aaf];rfl
theorem vf{n m:Nat}{a b c:Int}{rs:List R}(D:rs.length<=60)(h:TpOk b c m)(G:m<=90000):∃(ls:List Int) (H s q:Int),pl.pg.call (n+2) 14 [Tp a b c,Rl rs]=some (Il ls,[Tp H s q,Rl rs])/\ls.Sublist (jIx 0 rs)/\TpOk s q (m+100):=by
 have I:(jIx 0 rs).length<=60:=by rw[fI];exact aat (acA _ _) D
 obtain⟨e,d,g,f,A,l,j,w⟩:=aK (n:=n) (a:=a) (many:=3) h (up (k:=0) G rfl) (by decide) (by decide);obtain⟨x,p⟩:=jh (C:=wp (n+1)) (rs:=rs) (i:=0) (out:=[]) (o0:=none) (o1:=none);rw[aaN,<-jg]at p;obtain⟨ls,t,r,v,o,u,B,y⟩:=ji (n:=n) l j (js:=jIx 0 rs) (a:=d) (out:=[]) (o:=none) w (by omega);rw[aaN]at u;generalize jIx 0 rs=js at *;refine⟨ls,t,r,v,ar (fn:=mO) rfl rfl (ab (aj (ρ3:=[sB d g f,ut rs,sw e,none]) (ag (ρ3:=[sB d g f,ut rs,none,none]) rfl rfl A rfl) rfl rfl rfl) (ab (aj (ρ3:=[sB d g f,ut rs,sw e,some (.lst ((js.map PyData.int).map OD.fz))]) (eU (ρ2:=[sB d g f,ut rs,sw e,none]) (lr rfl rfl) (by rw[eF,aag];omega) rfl p unca_nil) rfl rfl rfl) (ao (ae (z:=Il ls) (eU (ρ2:=[sB t r v,ut rs,sw e,some (.fz (.list (js.map PyData.int)))]) (lq (ds:=js.map PyData.int) rfl (gL rfl (eX _) rfl) rfl) (by rw[aag];omega) rfl u rfl) (by rw[iu];rfl))))) rfl,B,y.up (by omega)⟩
def gI:PyData->Int|.int t=>t|_=>0
def zh:PyData->Int|.tuple (.int b::_)=>b|_=>0
def rN:PyData->Int|.tuple [_,.int i]=>i|_=>0
def dB(r:R)(p:Int)(lg:Bool)(g:PyData):List Int:=match r with
 |.st x n=>if 99<n then [5000+100*x+rN g,5000+zh g-p] else [1000+100*x+n]
 |.ot w xs _=>if w=am then (if lg=true then [7000,gI g] else [6500+gI g-p])
  else if w=ac then (if lg=true then [9000+xs.getD 0 0,gI g] else [8100+200*xs.getD 0 0+gI g-p])
  else if w="stop" then [0] else if w="tell" then [4000+xs.getD 0 0]
  else if w="sum" then [2000+10*xs.getD 0 0+xs.getD 1 0] else [3000+10*xs.getD 0 0+xs.getD 1 0]
def Gok(r:R)(g:PyData):Prop:=if r.gr=true then ∃b i,g=.tuple [.int b,.int i] else if r.jm=true then ∃t,g=.int t else g=.none
theorem bM{k:Nat}{x:Int}(h:(k:Int)<1000):so .mul (.int (k:Int)) (.int x)=some (.int ((k:Int)*x)):=fw (.inl ⟨by omega,by omega⟩)
abbrev EH(r:R)(p:Int)(lg:Bool)(g:PyData)(o4 o5 o6:Option OD):DEnv:=[ul r,sw p,some (.fz (.bool lg)),some (.fz g),o4,o5,o6]
theorem yU{n:Nat}{r:R}{p t:Int}{lg:Bool}(d:r.ok)(c:r.jm=true):pl.pg.call (n+1) 1 [Rd r,It p,.fz (.bool lg),It t]=some (Il (dB r p lg (.int t)),[Rd r,It p,.fz (.bool lg),It t]):=by
 cases r with
 |st x k=>cases c
 |ot w e h=>
  cases d with
  |sum _ _=>cases c
  |less _ _=>cases c
  |tell _=>cases c
  |stop=>cases c
  |go a=>
   cases lg with
   |true=>exact ar (fn:=be) rfl rfl (ao (aL rfl (ao (ae (fc rfl (bu (aa rfl (aa rfl ai)) rfl rfl)) rfl)))) rfl
   |false=>exact ar (fn:=be) rfl rfl (ao (aL rfl (ao (ae (c9 rfl (bu (aa (af (af rfl rfl rfl rfl rfl) rfl rfl rfl rfl) ai) rfl rfl)) rfl)))) rfl
  |nil a b=>
   cases lg with
   |true=>exact ar (fn:=be) rfl rfl (ab (ak rfl rfl) (ao (aL rfl (ao (ae (bu (aa (af rfl rfl rfl rfl rfl) (aa rfl ai)) rfl rfl) rfl))))) rfl
   |false=>exact ar (fn:=be) rfl rfl (ab (ak rfl rfl) (ab (ak rfl rfl) (ao (ae (bu (aa (af (af (af rfl (af rfl rfl rfl rfl (bM (k:=200) (by decide))) rfl rfl rfl) rfl rfl rfl rfl) rfl rfl rfl rfl) ai) rfl rfl) rfl)))) rfl
theorem yV{n:Nat}{r:R}{p:Int}{lg:Bool}{g:PyData}(o:r.ok)(d:Gok r g):pl.pg.call (n+2) 2 [Rd r,It p,.fz (.bool lg),.fz g]=some (Il (dB r p lg g),[Rd r,It p,.fz (.bool lg),.fz g]):=by
 have c:∀{s u l:Option OD},bw (wp (n+1)) ebj (EH r p lg g s u l)=some (r.gr,EH r p lg g s u l):=eT (ag (ρ3:=EH r p lg g _ _ _) rfl rfl (EG r) rfl);cases r with
 |st x k=>
  by_cases h:99<k
  ·have e:(R.st x k).gr=true:=Dac h;unfold Gok at d;rw[if_pos e]at d;obtain⟨b,i,rfl⟩:=d;rw[e]at c;have j:dB (R.st x k) p lg (.tuple [.int b,.int i])=[5000+100*x+i,5000+b-p]:=if_pos h;rw[j];exact ar (fn:=aO) rfl rfl (ab (aj rfl rfl rfl rfl) (ab (ak rfl rfl) (ab (ak rfl rfl) (ao (aL c (ab (yT rfl rfl rfl) (ao (ae (bu (aa (af (af rfl (af rfl rfl rfl rfl (bM (k:=100) (by decide))) rfl rfl rfl) rfl rfl rfl rfl) (aa (af (af rfl rfl rfl rfl rfl) rfl rfl rfl rfl) ai)) rfl rfl) rfl)))))))) rfl
  ·have e:(R.st x k).gr=false:=Dab h;rw[e]at c;have j:dB (R.st x k) p lg g=[1000+100*x+k]:=if_neg h;rw[j];exact ar (fn:=aO) rfl rfl (ab (aj rfl rfl rfl rfl) (ab (ak rfl rfl) (ab (ak rfl rfl) (ab (ak c rfl) (ao (aL rfl (ao (ae (bu (aa (af (af rfl (af rfl rfl rfl rfl (bM (k:=100) (by decide))) rfl rfl rfl) rfl rfl rfl rfl) ai) rfl rfl) rfl)))))))) rfl
 |ot w f h=>
  have e:(R.ot w f h).gr=false:=rfl;rw[e]at c;have q:(R.ot w f h).jm=true->(wp (n+1)).call 1 [Rd (R.ot w f h),It p,.fz (.bool lg),.fz g]=some (Il (dB (R.ot w f h) p lg g),[Rd (R.ot w f h),It p,.fz (.bool lg),.fz g]):=λm=>by unfold Gok at d;rw[if_neg (by rw[e];decide),if_pos m]at d;obtain⟨t,rfl⟩:=d;exact yU o m
  cases o with
  |sum a b=>exact ar (fn:=aO) rfl rfl (ab (aj rfl rfl rfl rfl) (ab (ak rfl rfl) (ab (ak rfl rfl) (ab (ak c rfl) (ab (ak rfl rfl) (ao (aL rfl (ao (ae (bu (aa (af (af rfl (af rfl rfl rfl rfl (bM (k:=10) (by decide))) rfl rfl rfl) rfl rfl rfl rfl) ai) rfl rfl) rfl))))))))) rfl
  |less a b=>exact ar (fn:=aO) rfl rfl (ab (aj rfl rfl rfl rfl) (ab (ak rfl rfl) (ab (ak rfl rfl) (ab (ak c rfl) (ab (ak rfl rfl) (ab (ak rfl rfl) (ao (aL rfl (ao (ae (bu (aa (af (af rfl (af rfl rfl rfl rfl (bM (k:=10) (by decide))) rfl rfl rfl) rfl rfl rfl rfl) ai) rfl rfl) rfl)))))))))) rfl
  |tell a=>exact ar (fn:=aO) rfl rfl (ab (aj rfl rfl rfl rfl) (ab (ak rfl rfl) (ab (ak rfl rfl) (ab (ak c rfl) (ab (ak rfl rfl) (ab (ak rfl rfl) (ab (ak rfl rfl) (ao (ae (bu (aa (af rfl rfl rfl rfl rfl) ai) rfl rfl) rfl))))))))) rfl
  |stop=>exact ar (fn:=aO) rfl rfl (ab (aj rfl rfl rfl rfl) (ao (aL rfl (ao (ae (bu (aa rfl ai) rfl rfl) rfl))))) rfl
  |go a=>exact ar (fn:=aO) rfl rfl (ab (aj rfl rfl rfl rfl) (ab (ak rfl rfl) (ao (aL (vV rfl) (ao (ae (ag rfl rfl (q rfl) rfl) rfl)))))) rfl
  |nil a b=>exact ar (fn:=aO) rfl rfl (ab (aj rfl rfl rfl rfl) (ab (ak rfl rfl) (ao (aL (kb rfl rfl) (ao (ae (ag rfl rfl (q rfl) rfl) rfl)))))) rfl
theorem mU{C:Ct}{o f:Co}{a b c:E}{ρ ρ1 ρ2 ρ3:DEnv}{x y z:OR}{dx dy dy' dz:PyData}{k:Bool}(j:ev C a ρ=some (x,ρ1))(h:ev C b ρ1=some (y,ρ2))(g:aq ρ2 x=some dx)(l:aq ρ2 y=some dy)(hk:sq o dx dy=some true)(i:ev C c ρ2=some (z,ρ3))(d:aq ρ3 y=some dy')(hz:aq ρ3 z=some dz)(e:sq f dy' dz=some k):ev C (.cmp2 o f a b c) ρ=some (.val (.fz (.bool k)),ρ3):=bs j (bs h (bs g (bs l (bs hk (bs i (bs d (bs hz (bs e rfl))))))))
theorem mV{C:Ct}{o h:Co}{a b c:E}{ρ ρ1 ρ2:DEnv}{x y:OR}{dx dy:PyData}(d:ev C a ρ=some (x,ρ1))(f:ev C b ρ1=some (y,ρ2))(g:aq ρ2 x=some dx)(e:aq ρ2 y=some dy)(hk:sq o dx dy=some false):ev C (.cmp2 o h a b c) ρ=some (.val (.fz (.bool false)),ρ2):=bs d (bs f (bs g (bs e (bs hk rfl))))
theorem fJ{C:Ct}{o d:Co}{a b c:E}{ρ ρ1:DEnv}{k:Bool}(h:ev C (.cmp2 o d a b c) ρ=some (.val (.fz (.bool k)),ρ1)):bw C (.cmp2 o d a b c) ρ=some (k,ρ1):=bs h rfl
section
variable{C:Ct}{a b c:E}{ρ:DEnv}{lo x hi:Int}
theorem aY(d:ev C a ρ=some (.val (It lo),ρ))(e:ev C b ρ=some (.val (It x),ρ))(f:ev C c ρ=some (.val (It hi),ρ)):bw C (.cmp2 .le .lt a b c) ρ=some (decide (lo<=x/\x<hi),ρ):=by
 by_cases h:lo<=x
 ·refine fJ (mU (dx:=.int lo) (dy:=.int x) (dy':=.int x) (dz:=.int hi) d e rfl rfl (show some (decide (lo<=x))=some true by rw[Dac h]) f rfl rfl (show some (decide (x<hi))=_ from ?_));rw[decide_eq_decide.mpr (show (x<hi) ↔ (lo<=x/\x<hi) by omega)]
 ·rw[Dab (by omega)];exact fJ (mV (dx:=.int lo) (dy:=.int x) d e rfl rfl (show some (decide (lo<=x))=some false by rw[Dab h]))
theorem yW(d:ev C a ρ=some (.val (It lo),ρ))(e:ev C b ρ=some (.val (It x),ρ))(f:ev C c ρ=some (.val (It hi),ρ)):bw C (.cmp2 .lt .le a b c) ρ=some (decide (lo<x/\x<=hi),ρ):=by
 by_cases h:lo<x
 ·refine fJ (mU (dx:=.int lo) (dy:=.int x) (dy':=.int x) (dz:=.int hi) d e rfl rfl (show some (decide (lo<x))=some true by rw[Dac h]) f rfl rfl (show some (decide (x<=hi))=_ from ?_));rw[decide_eq_decide.mpr (show (x<=hi) ↔ (lo<x/\x<=hi) by omega)]
 ·rw[Dab (by omega)];exact fJ (mV (dx:=.int lo) (dy:=.int x) d e rfl rfl (show some (decide (lo<x))=some false by rw[Dab h]))
theorem dZ(d:ev C a ρ=some (.val (It x),ρ))(e:ev C b ρ=some (.val (It lo),ρ)):bw C (.cmp .eq a b) ρ=some (decide (x=lo),ρ):=aT (aN (dx:=.int x) (dy:=.int lo) d e rfl rfl rfl)
theorem kh(d:ev C a ρ=some (.val (It x),ρ))(e:ev C b ρ=some (.val (It lo),ρ)):bw C (.cmp .lt a b) ρ=some (decide (x<lo),ρ):=aT (aN (dx:=.int x) (dy:=.int lo) d e rfl rfl rfl)
theorem v3(d:ev C a ρ=some (.val (It x),ρ))(e:ev C b ρ=some (.val (It lo),ρ)):bw C (.cmp .gt a b) ρ=some (decide (lo<x),ρ):=aT (aN (dx:=.int x) (dy:=.int lo) d e rfl rfl rfl)
theorem v5(d:ev C a ρ=some (.val (It x),ρ))(e:ev C b ρ=some (.val (It lo),ρ)):bw C (.cmp .le a b) ρ=some (decide (x<=lo),ρ):=aT (aN (dx:=.int x) (dy:=.int lo) d e rfl rfl rfl)
theorem rT{P:Prop}[Decidable P](h:bw C c ρ=some (decide P,ρ))(d:P):bw C c ρ=some (true,ρ):=by rw[h,Dac d]
theorem rF{P:Prop}[Decidable P](h:bw C c ρ=some (decide P,ρ))(d:¬ P):bw C c ρ=some (false,ρ):=by rw[h,Dab d]
end
def pairD(w:Str)(k:Int):PyData:=if k/10<5/\k%10<5 then .tuple [.str w,.int (k/10),.int (k%10)] else .none
theorem rO{n:Nat}{w:Str}{k:Int}:pl.pg.call (n+1) 3 [.fz (.str w),It k]=some (.fz (pairD w k),[.fz (.str w),It k]):=by
 refine ar (fn:=fg) (ρ:=[some (.fz (.str w)),sw k,sw (k/10),sw (k%10)]) rfl rfl ?_ rfl;refine ab (dA (ρ3:=[some (.fz (.str w)),sw k,sw (k/10),sw (k%10)]) (aa (af rfl rfl rfl rfl (ir (j:=10) (by decide))) (aa (af rfl rfl rfl rfl (bU (j:=10) (by decide))) ai)) rfl rfl rfl) ?_;unfold pairD;by_cases h:k/10<5
 ·by_cases a:k%10<5
  ·rw[if_pos ⟨h,a⟩];exact ao (ae (fc (ll (rT (kh rfl rfl) h) (rT (kh rfl rfl) a)) rfl) rfl)
  ·rw[if_neg λz=>a z.2];exact ao (ae (c9 (ll (rT (kh rfl rfl) h) (rF (kh rfl rfl) a)) rfl) rfl)
 ·rw[if_neg λz=>h z.1];exact ao (ae (c9 (t_andF (rF (kh rfl rfl) h)) rfl) rfl)
def nilD(c p:Int):PyData:=if 0<(c-8000)%200 then .tuple [.str ac,.int ((c-8000)/200),.int (p+(c-8000)%200-99-1),.bool false] else .none
theorem Ca{n:Nat}{c p:Int}:pl.pg.call (n+1) 4 [It c,It p]=some (.fz (nilD c p),[It c,It p]):=by
 refine ar (fn:=gD) (ρ:=[sw c,sw p,sw 8000,sw ((c-8000)/200),sw ((c-8000)%200)]) rfl rfl ?_ rfl;refine ab (aj (ρ3:=[sw c,sw p,sw 8000,none,none]) rfl rfl rfl rfl) (ab (dA (ρ3:=[sw c,sw p,sw 8000,sw ((c-8000)/200),sw ((c-8000)%200)]) (aa (af (dx:=.int (c-8000)) rfl rfl rfl rfl (ir (j:=200) (by decide))) (aa (af (dx:=.int (c-8000)) rfl rfl rfl rfl (bU (j:=200) (by decide))) ai)) rfl rfl rfl) ?_);unfold nilD;by_cases h:0<(c-8000)%200
 ·rw[if_pos h];exact ao (ae (fc (rT (v3 rfl rfl) h) rfl) rfl)
 ·rw[if_neg h];exact ao (ae (c9 (rF (v3 rfl rfl) h) rfl) rfl)
def loneD(c p:Int):PyData:=
 if c=0 then .tuple [.str "stop"] else if 1000<=c/\c<1500 then .tuple [.str bm,.int ((c-1000)/100),.int (c%100)]
 else if 2000<=c/\c<3000 then pairD "sum" (c-2000) else if 3000<=c/\c<4000 then pairD dV (c-3000)
 else if 4000<=c/\c<4005 then .tuple [.str "tell",.int (c-4000)] else if (if c-6500<0 then -(c-6500) else c-6500)<=499 then .tuple [.str am,.int (p+c-6500),.bool false]
 else if c=7002 then .tuple [.str "pad"] else if 8001<=c/\c<9000 then nilD c p else .none
theorem yX{n:Nat}{c p:Int}:pl.pg.call (n+2) 5 [It c,It p]=some (.fz (loneD c p),[It c,It p]):=by
 have a:(wp (n+1)).call=pl.pg.call (n+1):=rfl;refine ar (fn:=fh) (ρ:=[sw c,sw p]) rfl rfl ?_ rfl;unfold loneD;by_cases h:c=0
 ·rw[if_pos h];exact ao (aL (rT (dZ rfl rfl) h) (ao (ae rfl rfl)))
 rw[if_neg h];refine ab (ak (rF (dZ rfl rfl) h) rfl) ?_;clear h;by_cases h:1000<=c/\c<1500
 ·rw[if_pos h];exact ao (aL (rT (aY rfl rfl rfl) h) (ao (ae (cZ (aa rfl (aa (af (dx:=.int (c-1000)) rfl rfl rfl rfl (ir (j:=100) (by decide))) (aa (af rfl rfl rfl rfl (bU (j:=100) (by decide))) ai))) rfl rfl rfl) rfl)))
 rw[if_neg h];refine ab (ak (rF (aY rfl rfl rfl) h) rfl) ?_;clear h;by_cases h:2000<=c/\c<3000
 ·have e:=rO (n:=n) (w:="sum") (k:=c-2000);rw[<-a]at e;rw[if_pos h];exact ao (aL (rT (aY rfl rfl rfl) h) (ao (ae (ag (ρ3:=[sw c,sw p]) rfl rfl e rfl) rfl)))
 rw[if_neg h];refine ab (ak (rF (aY rfl rfl rfl) h) rfl) ?_;clear h;by_cases h:3000<=c/\c<4000
 ·have e:=rO (n:=n) (w:=dV) (k:=c-3000);rw[<-a]at e;rw[if_pos h];exact ao (aL (rT (aY rfl rfl rfl) h) (ao (ae (ag (ρ3:=[sw c,sw p]) rfl rfl e rfl) rfl)))
 rw[if_neg h];refine ab (ak (rF (aY rfl rfl rfl) h) rfl) ?_;clear h;by_cases h:4000<=c/\c<4005
 ·rw[if_pos h];exact ao (aL (rT (aY rfl rfl rfl) h) (ao (ae rfl rfl)))
 rw[if_neg h];refine ab (ak (rF (aY rfl rfl rfl) h) rfl) ?_;clear h;by_cases h:(if c-6500<0 then -(c-6500) else c-6500)<=499
 ·rw[if_pos h];exact ao (aL (rT (v5 rfl rfl) h) (ao (ae rfl rfl)))
 rw[if_neg h];refine ab (ak (rF (v5 rfl rfl) h) rfl) ?_;clear h;by_cases h:c=7002
 ·rw[if_pos h];exact ao (aL (rT (dZ rfl rfl) h) (ao (ae rfl rfl)))
 rw[if_neg h];refine ab (ak (rF (dZ rfl rfl) h) rfl) ?_;clear h;by_cases h:8001<=c/\c<9000
 ·have e:=Ca (n:=n) (c:=c) (p:=p);rw[<-a]at e;rw[if_pos h];exact ao (aL (rT (aY rfl rfl rfl) h) (ao (ae (ag (ρ3:=[sw c,sw p]) rfl rfl e rfl) rfl)))
 rw[if_neg h];exact ab (ak (rF (aY rfl rfl rfl) h) rfl) (ao (ae rfl rfl))
def twoD(c s p:Int):PyData:=
 if 5000<=c/\c<5500 then .tuple [.str em,.int ((c-5000)/100),.int (p+s-5000),.int (c%100)] else if c=7000 then .tuple [.str am,.int s,.bool true]
 else if c=7001 then .tuple [.str "over",.int s] else if 9000<=c/\c<9005 then .tuple [.str ac,.int (c-9000),.int s,.bool true] else .none
theorem Cb{n:Nat}{c s p:Int}:pl.pg.call (n+1) 6 [It c,It s,It p]=some (.fz (twoD c s p),[It c,It s,It p]):=by
 refine ar (fn:=gE) (ρ:=[sw c,sw s,sw p]) rfl rfl ?_ rfl;unfold twoD;by_cases h:5000<=c/\c<5500
 ·rw[if_pos h];exact ao (aL (rT (aY rfl rfl rfl) h) (ao (ae (cZ (aa rfl (aa (af (dx:=.int (c-5000)) rfl rfl rfl rfl (ir (j:=100) (by decide))) (aa rfl (aa (af rfl rfl rfl rfl (bU (j:=100) (by decide))) ai)))) rfl rfl rfl) rfl)))
 rw[if_neg h];refine ab (ak (rF (aY rfl rfl rfl) h) rfl) ?_;clear h;by_cases h:c=7000
 ·rw[if_pos h];exact ao (aL (rT (dZ rfl rfl) h) (ao (ae rfl rfl)))
 rw[if_neg h];refine ab (ak (rF (dZ rfl rfl) h) rfl) ?_;clear h;by_cases h:c=7001
 ·rw[if_pos h];exact ao (aL (rT (dZ rfl rfl) h) (ao (ae rfl rfl)))
 rw[if_neg h];refine ab (ak (rF (dZ rfl rfl) h) rfl) ?_;clear h;by_cases h:9000<=c/\c<9005
 ·rw[if_pos h];exact ao (aL (rT (aY rfl rfl rfl) h) (ao (ae rfl rfl)))
 rw[if_neg h];exact ab (ak (rF (aY rfl rfl rfl) h) rfl) (ao (ae rfl rfl))
def GL(cs:List Int)(b m:Nat):List Int:=(List.range m).map λj=>cs.getD (b+2*j) 0*10000+cs.getD (b+2*j+1) 0
abbrev Sx(cs:List Int)(p:Nat)(d:PyData)(q:Nat):Prop:=∀n:Nat,pl.pg.call (n+3) 8 [Dl cs,It p]=some (.fz (.tuple [d,.int q]),[Dl cs,It p])
section
variable{n:Nat}{cs:List Int}{p:Nat}
theorem Cc{C:Ct}{a o3 o4:Option OD}(b:p<cs.length):bw C ean [wn cs,sw p,a,o3,o4]=some (false,[wn cs,sw p,a,o3,o4]):=rA (k:=true) (rT (aY (lo:=0) (x:=p) (hi:=cs.length) rfl rfl (bK rfl rfl blen)) (by omega))
abbrev aE(cs:List Int)(p:Nat)(c:Int)(o3 o4:Option OD):DEnv:=[wn cs,sw p,sw c,o3,o4]
theorem rP{c:Int}{z:OD}{o3 o4:Option OD}(h:cs[p]?=some c)(b:¬ (7100<c/\c<=7200))(k:aW (wp (n+2)) (match F_seen_at.body with|.cons _ (.cons _ (.cons _ (.cons _ s)))=>s|_=>.nil) (aE cs p c (some (.fz (loneD c p))) none)=some (.rt z,aE cs p c o3 o4)):pl.pg.call (n+3) 8 [Dl cs,It p]=some (z,[Dl cs,It p]):=by have e:=yX (n:=n) (c:=c) (p:=p);have d:(wp (n+2)).call=pl.pg.call (n+2):=rfl;rw[<-d]at e;have a:p<cs.length:=(aah.mp h).1;exact ar (fn:=F_seen_at) (ρ:=aE cs p c o3 o4) rfl rfl (ab (ak (Cc a) rfl) (ab (aj (ρ3:=aE cs p c none none) (bN rfl rfl rfl (jc (fe (by rw[aaq,h];rfl)))) rfl rfl rfl) (ab (ak (rF (yW (lo:=7100) (x:=c) (hi:=7200) rfl rfl rfl) b) rfl) (ab (aj (ρ3:=aE cs p c (some (.fz (loneD c p))) none) (ag (ρ3:=aE cs p c none none) rfl rfl e rfl) rfl rfl rfl) k)))) rfl
theorem cf{c:Int}{ds:List PyData}(h:cs[p]?=some c)(a:¬ (7100<c/\c<=7200))(b:loneD c p=.tuple ds):Sx cs p (.tuple ds) (p+1):=λn=>by refine rP (o3:=some (.fz (.tuple ds))) (o4:=none) h a ?_;rw[b];exact ao (aL rfl (ao (ae rfl rfl)))
theorem lA{c s:Int}{ds:List PyData}(h:cs[p]?=some c)(h':cs[p+1]?=some s)(a:¬ (7100<c/\c<=7200))(d:loneD c p=.none)(f:twoD c s p=.tuple ds):Sx cs p (.tuple ds) (p+2):=λn=>by have e:=Cb (n:=n+1) (c:=c) (s:=s) (p:=p);have b:(wp (n+2)).call=pl.pg.call (n+2):=rfl;rw[<-b,f]at e;have g:p+1<cs.length:=(aah.mp h').1;refine rP (o3:=some (.fz .none)) (o4:=some (.fz (.tuple ds))) h a ?_;rw[d];exact ab (ak rfl rfl) (ab (ak (rF (dZ (x:=(p:Int)+1) (lo:=cs.length) rfl (bK rfl rfl blen)) (by omega)) rfl) (ab (aj (ρ3:=aE cs p c (some (.fz .none)) (some (.fz (.tuple ds)))) (ag (ρ3:=aE cs p c (some (.fz .none)) none) (aa rfl (aa (bN rfl rfl rfl (jc (show atI (cs.map PyData.int) ((p+1:Nat):Int)=_ from fe (by rw[aaq,h'];rfl)))) (aa rfl ai))) rfl e rfl) rfl rfl rfl) (ao (ae (c9 rfl rfl) rfl))))
end
def gO(r:R)(lg:Bool)(g:PyData):PyData:=match r with
 |.st x k=>if 99<k then .tuple [.str em,.int x,.int (zh g),.int (rN g)] else .tuple [.str bm,.int x,.int k]
 |.ot w xs _=>if w=am then .tuple [.str am,.int (gI g),.bool lg] else if w=ac then .tuple [.str ac,.int (xs.getD 0 0),.int (gI g),.bool lg] else .tuple (.str w::xs.map PyData.int)
theorem mW{w:Str}{a b c:Int}(e:c=10*a+b)(d:0<=a/\a<=4)(f:0<=b/\b<=4):pairD w c=.tuple [.str w,.int a,.int b]:=by subst e;unfold pairD;rw[show (10*a+b)/10=a by omega,show (10*a+b)%10=b by omega,if_pos ⟨by omega,by omega⟩]
theorem yY{cs:List Int}{p:Nat}{r:R}{lg:Bool}{g:PyData}(f:r.ok)(l:r.gr=true->0<=rN g/\rN g<=99)(j:r.jm=true->lg=false->-(farN r 499)<=gI g-p/\gI g-p<=farN r 499)(c:∀i x,(dB r p lg g)[i]?=some x->cs[p+i]?=some x):Sx cs p (gO r lg g) (p+(dB r p lg g).length):=by
 cases r with
 |st x k=>
  have q:=f.1;have n:=f.2;by_cases h:99<k
  ·have d:dB (R.st x k) p lg g=[5000+100*x+rN g,5000+zh g-p]:=if_pos h;have e:gO (R.st x k) lg g=.tuple [.str em,.int x,.int (zh g),.int (rN g)]:=if_pos h;have l:=l (Dac h);rw[d]at c ⊢;rw[e];refine lA (c 0 _ rfl) (c 1 _ rfl) (by omega) ?_ ?_
   ·unfold loneD;rw[if_neg (by omega),if_neg (by omega),if_neg (by omega),if_neg (by omega),if_neg (by omega),if_neg (by split<;>omega),if_neg (by omega),if_neg (by omega)]
   ·unfold twoD;rw[if_pos (by omega),show (5000+100*x+rN g-5000)/100=x by omega,show (5000+100*x+rN g)%100=rN g by omega,show (p:Int)+(5000+zh g-p)-5000=zh g by omega]
  ·have d:dB (R.st x k) p lg g=[1000+100*x+k]:=if_neg h;have e:gO (R.st x k) lg g=.tuple [.str bm,.int x,.int k]:=if_neg h;rw[d]at c ⊢;rw[e];refine cf (c 0 _ rfl) (by omega) ?_;unfold loneD;rw[if_neg (by omega),if_pos (by omega),show (1000+100*x+k-1000)/100=x by omega,show (1000+100*x+k)%100=k by omega]
 |ot w o s=>
  cases f with
  |sum a b h=>refine cf (c 0 (2000+10*a+b) rfl) (by omega) ?_;unfold loneD;rw[if_neg (by omega),if_neg (by omega),if_pos (by omega),mW (a:=a) (b:=b) (by omega) h.1 h.2];rfl
  |less a b h=>refine cf (c 0 (3000+10*a+b) rfl) (by omega) ?_;unfold loneD;rw[if_neg (by omega),if_neg (by omega),if_neg (by omega),if_pos (by omega),mW (a:=a) (b:=b) (by omega) h.1 h.2];rfl
  |tell a h=>refine cf (c 0 (4000+a) rfl) (by omega) ?_;unfold loneD;rw[if_neg (by omega),if_neg (by omega),if_neg (by omega),if_neg (by omega),if_pos (by omega),show 4000+a-4000=a by omega];rfl
  |stop=>exact cf (c 0 _ rfl) (by decide) rfl
  |go a=>
   cases lg with
   |true=>exact lA (c 0 _ rfl) (c 1 _ rfl) (by decide) rfl rfl
   |false=>have m:-499<=gI g-p/\gI g-p<=499:=j rfl rfl;refine cf (c 0 (6500+gI g-p) rfl) (by omega) ?_;unfold loneD;rw[if_neg (by omega),if_neg (by omega),if_neg (by omega),if_neg (by omega),if_neg (by omega),if_pos (by split<;>omega),show (p:Int)+(6500+gI g-p)-6500=gI g by omega]
  |nil a b h=>
   cases lg with
   |true=>
    refine lA (c 0 (9000+a) rfl) (c 1 _ rfl) (by omega) ?_ ?_
    ·unfold loneD;rw[if_neg (by omega),if_neg (by omega),if_neg (by omega),if_neg (by omega),if_neg (by omega),if_neg (by split<;>omega),if_neg (by omega),if_neg (by omega)]
    ·unfold twoD;rw[if_neg (by omega),if_neg (by omega),if_neg (by omega),if_pos (by omega),show 9000+a-9000=a by omega];rfl
   |false=>have m:-99<=gI g-p/\gI g-p<=99:=j rfl rfl;refine cf (c 0 (8100+200*a+gI g-p) rfl) (by omega) ?_;unfold loneD nilD;rw[if_neg (by omega),if_neg (by omega),if_neg (by omega),if_neg (by omega),if_neg (by omega),if_neg (by split<;>omega),if_neg (by omega),if_pos (by omega),if_pos (by omega),show (8100+200*a+gI g-(p:Int)-8000)/200=a by omega,show (p:Int)+(8100+200*a+gI g-p-8000)%200-99-1=gI g by omega];rfl
theorem Cd{X Y cs:List Int}{i:Nat}{x:Int}(h:cs=X++Y)(a:Y[i]?=some x):cs[X.length+i]?=some x:=by rw[h,abq (abb _ _),abI];exact a
abbrev Sm(n:Nat)(d:PyData):Prop:=pl.pg.call (n+1) 17 [.fz d,.fz d]=some (.fz (.bool true),[.fz d,.fz d])
theorem bq{n:Nat}{a:Int}:Sm n (.int a):=by have h:ev (wp n) ebr [sw a,sw a]=some (.val (.fz (.bool true)),[sw a,sw a]):=aN rfl rfl rfl rfl (show some (decide (a=a))=some true by rw[Dac rfl]);exact ar (fn:=gF) rfl rfl (ab (ak rfl rfl) (ab (ak rfl rfl) (ab (ak rfl rfl) (ao (ae (i9 rfl (i9 rfl h)) rfl))))) rfl
theorem ki:∀m:Nat,allB (List.replicate m (.bool true))=some (List.replicate m true)
 |0=>rfl
 |m+1=>by rw[aaK,allB,ki m];rfl
theorem vg{m:Nat}:zf .all [.list (List.replicate m (.bool true))]=some (.bool true):=by show (allB (List.replicate m (.bool true))).bind _=_;rw[ki];show some (PyData.bool ((List.replicate m true).all id))=_;rw[List.all_replicate];simp
theorem rQ{ρ:DEnv}{ds:List PyData}:cx ρ [.val (.lst (ds.map OD.fz))]=some [.list ds]:=by have:aq ρ (.val (.lst (ds.map OD.fz)))=some (.list ds):=eX ds;simp only[cx,this];rfl
theorem mX{n:Nat}:∀{ds out:List PyData}{o0 o1:Option OD},(∀d∈ds,Sm n d)->∃b a,cm (cL (wp (n+1)) (.tp [0,1]) .none eau) (f6 ds ds) out [o0,o1]=some (out++List.replicate ds.length (.bool true),[b,a])
 |[],out,o0,o1,_=>⟨o0,o1,by show some (out,_)=some (out++[],_);rw[aaA]⟩
 |x::xs,out,o0,o1,h=>by obtain⟨g,c,e⟩:=mX (n:=n) (ds:=xs) (out:=out++[.bool true]) (o0:=some (.fz x)) (o1:=some (.fz x)) λd f=>h d (aak _ f);refine⟨g,c,bs (x:=([.bool true],[some (.fz x),some (.fz x)])) (BX (x:=.val (.fz (.bool true))) rfl (ag (ρ3:=[some (.fz x),some (.fz x)]) rfl rfl (h x aal) rfl) rfl) ?_⟩;rw[aaf]at e;exact e
theorem mY{n:Nat}{ds:List PyData}(p:ds.length<=100000)(h:∀d∈ds,Sm n d):Sm (n+1) (.list ds)/\Sm (n+1) (.tuple ds):=by
 obtain⟨o0,o1,e⟩:=mX (n:=n) (ds:=ds) (out:=[]) (o0:=none) (o1:=none) h;rw[aaN]at e;have l:(f6 ds ds).length<1000000:=by unfold f6;rw[acu];omega
 have a:∀x:PyData,qB x=some ds->iK x=some ds.length->sr .seq x=true->Sm (n+1) x:=λx b i j=>by
  have o:=eU (C:=wp (n+1)) (nt:=2) (fr:=[]) (it:=.zip (.nm 0) (.nm 1)) (ρ:=[some (.fz x),some (.fz x)]) (ρ1:=[some (.fz x),some (.fz x)]) (ρ2:=[some (.fz x),some (.fz x)]) (yN (ρ3:=[some (.fz x),some (.fz x)]) rfl rfl rfl rfl b b) l rfl e unca_nil;have f:zf .len [x]=some (.int ds.length):=by show (iK x).bind (λn=>some (PyData.int n))=_;rw[i];rfl
  have g:bw (wp (n+1)) eal [some (.fz x),some (.fz x)]=some (false,[some (.fz x),some (.fz x)]):=aT (aN (dx:=.int ds.length) (dy:=.int ds.length) (bK rfl rfl f) (bK rfl rfl f) rfl rfl (show some (!decide ((ds.length:Int)=ds.length))=some false by rw[Dac rfl];rfl));have c:∀k,bw (wp (n+1)) (.cmp .ne (.isi k (.nm 0)) (.isi k (.nm 1))) [some (.fz x),some (.fz x)]=some (false,[some (.fz x),some (.fz x)]):=λk=>aT (aN (dx:=.bool (sr k x)) (dy:=.bool (sr k x)) rfl rfl rfl rfl (by cases sr k x<;>rfl));have m:bw (wp (n+1)) (.isi .seq (.nm 1)) [some (.fz x),some (.fz x)]=some (true,[some (.fz x),some (.fz x)]):=by show some (sr .seq x,_)=_;rw[j]
  exact ar (fn:=gF) rfl rfl (ao (aL m (ab (ak (kb (c .list) (c .tuple)) rfl) (ab (ak g rfl) (ao (ae (bK (ds:=[.list (List.replicate ds.length (.bool true))]) (aa o ai) rQ vg) rfl)))))) rfl
 exact⟨a _ rfl rfl rfl,a _ rfl rfl rfl⟩
theorem Ce{C:Ct}{a b:E}{ρ ρ1 ρ2:DEnv}{x y:OR}{xs ys:List Int}(d:ev C a ρ=some (x,ρ1))(g:ev C b ρ1=some (y,ρ2))(f:sk ρ2 x=some (xs.map PyData.int))(e:sk ρ2 y=some (ys.map PyData.int))(c:xs.length+ys.length<1000)(i:((xs++ys).foldl ddI []).length<64):ev C (.sst (.cat a b)) ρ=some (.val (Il (sortI ((xs++ys).foldl ddI []))),ρ2):=by have h:=vU d g f e (by rw[aag,aag];omega);rw[<-aay]at h;exact bs h (bs (eX _) (bs rfl (bs (kg _) (bg (by rw[aaw];exact c) (bg i rfl)))))
theorem yZ{ns:List Int}{m a:Int}:a∈ddI ns m ↔ a∈ns\/a=m:=by
 unfold ddI;by_cases h:m∈ns
 ·rw[if_pos h];exact⟨.inl,λz=>z.elim id λe=>e▸h⟩
 ·rw[if_neg h,aaj,aas]
theorem dds_mem:∀{l ns:List Int}{a:Int},a∈l.foldl ddI ns ↔ a∈ns\/a∈l
 |[],ns,a=>by simp
 |m::l,ns,a=>by rw[abG,dds_mem,yZ,aaa,or_assoc]
theorem iw:∀{l ns:List Int},ns.Nodup->(l.foldl ddI ns).Nodup
 |[],ns,h=>h
 |m::l,ns,h=>by
  refine iw (l:=l) ?_;unfold ddI;by_cases c:m∈ns
  ·rw[if_pos c];exact h
  ·rw[if_neg c];exact aaC.mpr ⟨h,aaF.mpr ⟨aau,.nil⟩,λa d b f e=>c (by rw[<-aas.mp f,<-e];exact d)⟩
theorem sub_len:∀{xs ys:List Int},xs.Nodup->(∀x∈xs,x∈ys)->xs.length<=ys.length
 |[],ys,_,_=>aaE _
 |x::xs,ys,h,hs=>by have b:=hs x aal;obtain⟨c,d⟩:=aaF.mp h;have:=sub_len (xs:=xs) (ys:=ys.erase x) d λy a=>(List.mem_erase_of_ne λ(e:y=x)=>c (e▸a)).mpr (hs y (aak _ a));rw[List.length_erase_of_mem b]at this;have:=List.length_pos_of_mem b;rw[aav];omega
abbrev fT:E:=.and eaw eai
def R.fr(r:R)(i:Int):Bool:=decide (r.wd=ac)&&decide (40<if r.tg-i<0 then -(r.tg-i) else r.tg-i)
theorem Cf{C:Ct}{r:R}{i:Int}(d:r.ok):bw C fT [sw i,ul r]=some (r.fr i,[sw i,ul r]):=by
 have c:bw C eaw [sw i,ul r]=some (decide (r.wd=ac),[sw i,ul r]):=aT (aN (dx:=.str r.wd) (dy:=.str ac) (bN (z:=.fz (.str r.wd)) rfl rfl rfl (by rw[R.d_is];exact eV cO)) rfl rfl rfl rfl);unfold R.fr;by_cases h:r.wd=ac
 ·rw[Dac h]at c ⊢;rw[Bool.true_and];refine ll c ?_;cases r with
  |st x k=>exact absurd (show (bm:Str)=ac from h) (by decide +kernel)
  |ot w e f=>
   cases d with
   |nil a b=>exact aT (aN (dx:=.int (if b-i<0 then -(b-i) else b-i)) (dy:=.int 40) (bK (ds:=[.int (b-i)]) (aa (af (dx:=.int b) (dy:=.int i) rfl rfl rfl rfl rfl) ai) rfl rfl) rfl rfl rfl rfl)
   |sum=>exact absurd (show ("sum":Str)=ac from h) (by decide +kernel)
   |less=>exact absurd (show (dV:Str)=ac from h) (by decide +kernel)
   |tell=>exact absurd (show ("tell":Str)=ac from h) (by decide +kernel)
   |go=>exact absurd (show (am:Str)=ac from h) (by decide +kernel)
   |stop=>exact absurd (show ("stop":Str)=ac from h) (by decide +kernel)
 ·rw[Dab h]at c ⊢;rw[Bool.false_and];exact t_andF c
def fIx:Int->List R->List Int
 |_,[]=>[]
 |i,r::rs=>if r.fr i=true then i::fIx (i+1) rs else fIx (i+1) rs
theorem fIx_sub:∀{rs:List R}{i a:Int},a∈fIx i rs->a∈jIx i rs
 |[],i,a,h=>h
 |r::rs,i,a,h=>by
  rw[fIx]at h;rw[jIx];by_cases b:r.fr i=true
  ·have d:r.jm=true:=by
    have:=(aax _ _▸b:_/\_).1;have c:=Daa this;cases r with
    |st x k=>exact absurd (show (bm:Str)=ac from c) (by decide +kernel)
    |ot w f g=>show (decide (w=am)||decide (w=ac))=true;rw[Dac (show w=ac from c),Bool.or_true]
   rw[if_pos b]at h;rw[if_pos d];rcases aaa.mp h with e|h
   ·rw[e];exact aal
   ·exact aak _ (fIx_sub h)
  ·rw[if_neg b]at h;split
   ·exact aak _ (fIx_sub h)
   ·exact fIx_sub h
theorem rR:∀{rs:List R}{i:Int}{j:Nat}{r:R},rs[j]?=some r->r.fr (i+j)=true->i+j∈fIx i rs
 |q::rs,i,0,r,h,hf=>by cases h;rw[fIx,if_pos (by simpa using hf)];simp
 |q::rs,i,j+1,r,h,hf=>by
  have e:i+((j+1:Nat):Int)=i+1+j:=by omega
  rw[e]at hf ⊢;have:=rR (i:=i+1) (j:=j) (rs:=rs) h hf;rw[fIx];split
  ·exact aak _ this
  ·exact this
theorem mZ:∀{rs:List R}{i:Int},(fIx i rs).length<=rs.length
 |[],i=>aac _
 |r::rs,i=>by
  have:=mZ (rs:=rs) (i:=i+1);rw[fIx];split
  ·rw[aav,aav];omega
  ·rw[aav];omega
theorem gM{C:Ct}:∀{rs:List R}{i:Int}{out:List PyData}{o0 o1:Option OD},Nb rs->∃a,cm (cL C (.tp [0,1]) (.some fT) (.nm 0)) (enF i rs) out [o0,o1]=some (out++(fIx i rs).map PyData.int,a)
 |[],i,out,o0,o1,_=>⟨[o0,o1],by rw[fIx,aaQ,aaA];rfl⟩
 |r::rs,i,out,o0,o1,hb=>by
  have c:=Cf (C:=C) (i:=i) (hb r aal);have b:Nb rs:=λx f=>hb x (aak _ f);rw[fIx];cases d:r.fr i with
  |false=>rw[d]at c;obtain⟨a,e⟩:=gM (C:=C) (rs:=rs) (i:=i+1) (out:=out++[]) (o0:=sw i) (o1:=ul r) b;refine⟨a,bs (x:=([],[sw i,ul r])) (yP rfl c) ?_⟩;rw[if_neg aab,e,aaA]
  |true=>rw[d]at c;obtain⟨a,e⟩:=gM (C:=C) (rs:=rs) (i:=i+1) (out:=out++[.int i]) (o0:=sw i) (o1:=ul r) b;refine⟨a,bs (x:=([.int i],[sw i,ul r])) (yO rfl c rfl rfl) ?_⟩;rw[if_pos rfl,e,aaf];rfl
def zk(L:List Int)(r:R)(k:Nat):Nat:=if r.gr=true\/(k:Int)∈L then 2 else 1
theorem EI{n:Nat}{rs:List R}{L:List Int}{k:Nat}{r:R}(h:rs[k]?=some r):pl.pg.call (n+2) 16 [Rl rs,Dl L,It k]=some (It (zk L r k),[Rl rs,Dl L,It k]):=by
 unfold zk;have a:=ag (C:=wp (n+1)) (f:=15) (es:=.cons (.ix (.nm 0) (.nm 2)) .nil) (ρ:=[ut rs,wn L,sw k]) (ρ3:=[ut rs,wn L,sw k]) (aa (bN rfl rfl rfl (jc (B7 h))) ai) rfl (vY r) rfl;cases d:r.gr with
 |true=>rw[d]at a;rw[if_pos (.inl rfl)];exact ar (fn:=jd) rfl rfl (ao (ae (fc (vV (eT a)) rfl) rfl)) rfl
 |false=>
  rw[d]at a;have b:bw (wp (n+1)) ebn [ut rs,wn L,sw k]=some (decide ((k:Int)∈L),[ut rs,wn L,sw k]):=aT (aN rfl rfl rfl rfl CF);by_cases c:(k:Int)∈L
  ·rw[Dac c]at b;rw[if_pos (.inr c)];exact ar (fn:=jd) rfl rfl (ao (ae (fc (kb (eT a) b) rfl) rfl)) rfl
  ·rw[Dab c]at b;rw[if_neg λz=>z.elim (λz=>absurd z aab) c];exact ar (fn:=jd) rfl rfl (ao (ae (c9 (kb (eT a) b) rfl) rfl)) rfl
def pc(L:List Int)(rs:List R)(c:Nat):Nat->Nat
 |0=>c
 |k+1=>pc L rs c k+(match rs[k]? with|some r=>zk L r k|none=>0)
abbrev pcs(L:List Int)(rs:List R)(c j:Nat):List Int:=(List.range (j+1)).map λi=>(pc L rs c i:Int)
section
variable{L:List Int}{rs:List R}{c n:Nat}{t:OD}
theorem rS{j:Nat}:pcs L rs c (j+1)=pcs L rs c j++[(pc L rs c (j+1):Int)]:=by rw[pcs,List.range_succ,aay];rfl
theorem jk{j k:Nat}(h:k<=j):atI ((pcs L rs c j).map It) (k:Int)=sw (pc L rs c k):=fe (by rw[aa5,aaq,acz (by omega)];rfl)
theorem rV{j:Nat}:atI ((pcs L rs c j).map It) (-1)=sw (pc L rs c j):=by rw[pcs,List.range_succ,aay,aay];exact atI_last
theorem vh{j:Nat}:(pcs L rs c j).length=j+1:=by rw[pcs,aag,abV]
theorem fK{k:Nat}{r:R}(h:rs[k]?=some r):pc L rs c (k+1)=pc L rs c k+zk L r k:=by rw[pc,h]
abbrev yE(t:OD)(rs:List R)(L:List Int)(c:Nat)(ps:List Int)(o5 o6 o7 o8 o9 o10 o11:Option OD):DEnv:=[some t,ut rs,wn L,sw c,wl ps,o5,o6,o7,o8,o9,o10,o11]
abbrev bP:Ss:=match F_laid.body with|.cons _ (.cons (.fr _ _ b) _)=>b|_=>.nil
theorem m3:∀{m i:Nat}{o5:Option OD},i+m=rs.length->rs.length<=60->∃a,bS (λd b=>(bH (.nm 5) (.fz d) b).bind λρ1=>aW (wp (n+2)) bP ρ1) (bY i m) (yE t rs L c (pcs L rs c i) o5 none none none none none none)=some (.nx,yE t rs L c (pcs L rs c rs.length) a none none none none none none)
 |0,i,o5,h,_=>⟨o5,by rw[<-h];rfl⟩
 |m+1,i,o5,h,hr=>by
  obtain⟨r,hi⟩:∃r,rs[i]?=some r:=⟨_,aao (by omega)⟩
  have e:=EI (n:=n) (L:=L) hi;have f:(wp (n+2)).call=pl.pg.call (n+2):=rfl;rw[<-f]at e;have g:dN (wp (n+2)) eaf (yE t rs L c (pcs L rs c i) (sw i) none none none none none none)=some (.nx,yE t rs L c (pcs L rs c (i+1)) (sw i) none none none none none none):=
   ja (xs:=(pcs L rs c i).map It) (ρ2:=yE t rs L c (pcs L rs c i) (sw i) none none none none none none) (z:=It (pc L rs c (i+1))) rfl (af (dx:=.int (pc L rs c i)) (dy:=.int (zk L r i)) (bN (z:=It (pc L rs c i)) rfl rfl rfl (cP rfl rV)) (ag (ρ3:=yE t rs L c (pcs L rs c i) (sw i) none none none none none none) rfl rfl e rfl) rfl rfl (by rw[fK hi];rfl)) rfl rfl (by rw[aag,vh];omega) (by rw[<-vd (ns:=pcs L rs c i),<-rS];rfl)
  obtain⟨o,j⟩:=m3 (m:=m) (i:=i+1) (o5:=sw i) (by omega) hr;refine⟨o,?_⟩;rw[eY];exact bs (x:=(Fl.nx,yE t rs L c (pcs L rs c (i+1)) (sw i) none none none none none none)) (bs rfl (ab g rfl)) j
end
structure Gd (L:List Int)(rs:List R)(c k:Nat)(r:R)(g:PyData):Prop where
 ok:Gok r g
 gr:r.gr=true->0<=rN g/\rN g<=99
 jm:r.jm=true->g=.int (pc L rs c r.tg.toNat)
inductive Gds (L:List Int)(rs:List R)(c:Nat):Nat->List R->List PyData->Prop
 |nil (k:Nat):Gds L rs c k [] []
 |cons {k:Nat}{r:R}{g:PyData}{ts:List R}{gs:List PyData}:Gd L rs c k r g->Gds L rs c (k+1) ts gs->Gds L rs c k (r::ts) (g::gs)
def ent(L:List Int)(rs:List R)(c k:Nat)(r:R)(g:PyData):PyData:=.tuple [r.d,.int (pc L rs c k),.bool (decide ((k:Int)∈L)),g,.tuple [gO r (decide ((k:Int)∈L)) g,.int (pc L rs c (k+1))]]
def ents(L:List Int)(rs:List R)(c:Nat):Nat->List R->List PyData->List PyData
 |k,r::ts,g::gs=>ent L rs c k r g::ents L rs c (k+1) ts gs
 |_,_,_=>[]
section
variable{L:List Int}{rs:List R}{c n:Nat}
abbrev zE(t:OD)(rs:List R)(L:List Int)(c:Nat)(fs:List PyData)(o5 o7 o8 o9 o10 o11:Option OD):DEnv:=yE t rs L c (pcs L rs c rs.length) o5 (some (.lst (fs.map OD.fz))) o7 o8 o9 o10 o11
abbrev bQ:Ss:=match F_laid.body with|.cons _ (.cons _ (.cons _ (.cons (.fr _ _ b) _)))=>b|_=>.nil
abbrev Gn:E:=.cmp .inn (.ix (.nm 7) (.int 0)) (.tup eaz)
theorem EJ{C:Ct}{t:OD}{fs:List PyData}{o5 o8 o9 o10 o11:Option OD}(r:R):bw C Gn (zE t rs L c fs o5 (ul r) o8 o9 o10 o11)=some (r.jm,zE t rs L c fs o5 (ul r) o8 o9 o10 o11):=aT (aN (bN (z:=.fz (.str r.wd)) rfl rfl rfl (by rw[R.d_is];exact eV cO)) rfl rfl rfl (vZ r))
theorem EK{t:OD}{fs:List PyData}{o5 o8 o9 o10 o11:Option OD}(r:R):bw (wp (n+1)) ebi (zE t rs L c fs o5 (ul r) o8 o9 o10 o11)=some (r.gr,zE t rs L c fs o5 (ul r) o8 o9 o10 o11):=eT (ag (ρ3:=zE t rs L c fs o5 (ul r) o8 o9 o10 o11) rfl rfl (vY r) rfl)
theorem rW{C:Ct}{t:OD}{fs:List PyData}{k:Nat}{r:R}{g:PyData}{o8 o9:Option OD}(hk:k<rs.length)(d:fs.length<=60):dN C eab (zE t rs L c fs (sw k) (ul r) o8 o9 (some (.fz g)) (some (.fz (gO r (decide ((k:Int)∈L)) g))))=some (.nx,zE t rs L c (fs++[ent L rs c k r g]) (sw k) (ul r) o8 o9 (some (.fz g)) (some (.fz (gO r (decide ((k:Int)∈L)) g)))):=by have b:bb (zE t rs L c fs (sw k) (ul r) o8 o9 (some (.fz g)) (some (.fz (gO r (decide ((k:Int)∈L)) g)))) (.rf 4) (k:Int)=some (It (pc L rs c k),_):=cP rfl (jk (aaO hk));have a:bb (zE t rs L c fs (sw k) (ul r) o8 o9 (some (.fz g)) (some (.fz (gO r (decide ((k:Int)∈L)) g)))) (.rf 4) ((k:Int)+1)=some (It (pc L rs c (k+1)),_):=cP rfl (jk (k:=k+1) hk);refine ja (xs:=fs.map OD.fz) (ρ2:=zE t rs L c fs (sw k) (ul r) o8 o9 (some (.fz g)) (some (.fz (gO r (decide ((k:Int)∈L)) g)))) (z:=.fz (ent L rs c k r g)) rfl (cZ (aa rfl (aa (bN rfl rfl rfl b) (aa (aN rfl rfl rfl rfl CF) (aa rfl (aa (cZ (aa rfl (aa (bN (n:=(k:Int)+1) rfl (af (dx:=.int k) (dy:=.int 1) rfl rfl rfl rfl rfl) rfl a) ai)) rfl rfl rfl) ai))))) rfl rfl rfl) rfl rfl (by rw[aag];omega) ?_;unfold zE yE;rw[aay];rfl
end
theorem rX{C:Ct}{a b:E}{ρ ρ1 ρ2:DEnv}{x y:OR}{dx dy:List PyData}(d:ev C a ρ=some (x,ρ1))(g:ev C b ρ1=some (y,ρ2))(f:sm ρ2 x=some dx)(e:sm ρ2 y=some dy)(c:dx≠[]/\dy≠[]/\dx.length+dy.length<=1000000):ev C (.catT a b) ρ=some (.val (.fz (.tuple (dx++dy))),ρ2):=bs d (bs g (bs f (bs e (bg c rfl))))
section
variable{L:List Int}{rs:List R}{c n:Nat}
theorem y3{m k:Nat}{a b d:Int}{r:R}{fs:List PyData}{o8 o9 o10 o11:Option OD}(hk:rs[k]?=some r)(hr:r.ok)(hj:Jok rs.length r)(T:fs.length<=60)(h:TpOk b d m)(hm:m<=90000):
  ∃(g:PyData) (O B d':Int) (M Q v u:Option OD),aW (wp (n+1)) bQ (zE (Tp a b d) rs L c fs (sw k) (ul r) o8 o9 o10 o11)=some (.nx,zE (Tp O B d') rs L c (fs++[ent L rs c k r g]) (sw k) (ul r) M Q v u)/\Gd L rs c k r g/\TpOk B d' (m+2):=by
 have A:k<rs.length:=(aah.mp hk).1;obtain⟨J,a1,b1,d1,e1,_,_,t1⟩:=aK (n:=n) (a:=a) (many:=2000) h (by omega) (by decide) (by decide);obtain⟨j,s,l,o,e2,a0,a3,Z⟩:=aK (n:=n) (a:=a1) (many:=100) t1 (by omega) (by decide) (by decide);have ec:(wp (n+1)).call=pl.pg.call (n+1):=rfl;rw[<-ec]at e1 e2;have i1:bb (zE (Tp a b d) rs L c fs (sw k) (ul r) o8 o9 o10 o11) (.rf 4) (k:Int)=some (It (pc L rs c k),zE (Tp a b d) rs L c fs (sw k) (ul r) o8 o9 o10 o11):=cP rfl (jk (aaO A));obtain⟨w,hw⟩:∃w:Int,w=if (pc L rs c k:Int)+J-1000>1 then (pc L rs c k:Int)+J-1000 else 1:=⟨_,rfl⟩
 have U:dN (wp (n+1)) eaa (zE (Tp a b d) rs L c fs (sw k) (ul r) o8 o9 o10 o11)=some (.nx,zE (Tp s l o) rs L c fs (sw k) (ul r) (sw w) (sw j) o10 o11):=by rw[hw];exact dA (ρ3:=zE (Tp s l o) rs L c fs (sw k) (ul r) (sw _) (sw j) o10 o11) (aa (bK (ds:=[.int 1,.int ((pc L rs c k:Int)+J-1000)]) (aa rfl (aa (af (dx:=.int ((pc L rs c k:Int)+J)) (dy:=.int 1000) (af (dx:=.int (pc L rs c k)) (dy:=.int J) (bN rfl rfl rfl i1) (ag (ρ3:=zE (Tp a1 b1 d1) rs L c fs (sw k) (ul r) o8 o9 o10 o11) rfl rfl e1 rfl) rfl rfl rfl) rfl rfl rfl rfl) ai)) rfl rfl) (aa (ag (ρ3:=zE (Tp s l o) rs L c fs (sw k) (ul r) o8 o9 o10 o11) rfl rfl e2 rfl) ai)) rfl rfl rfl
 have G:=λ{o5 o8 o9 o10 o11:Option OD}=>EJ (C:=wp (n+1)) (L:=L) (rs:=rs) (c:=c) (t:=Tp s l o) (fs:=fs) (o5:=o5) (o8:=o8) (o9:=o9) (o10:=o10) (o11:=o11) r;have N:=λ{o5 o8 o9 o10 o11:Option OD}=>EK (n:=n) (L:=L) (rs:=rs) (c:=c) (t:=Tp s l o) (fs:=fs) (o5:=o5) (o8:=o8) (o9:=o9) (o10:=o10) (o11:=o11) r;have p:r.jm=false->r.gr=false->gO r (decide ((k:Int)∈L)) .none=r.d->∃(g:PyData) (O B d':Int) (M Q v u:Option OD),aW (wp (n+1)) bQ (zE (Tp a b d) rs L c fs (sw k) (ul r) o8 o9 o10 o11)=some (.nx,zE (Tp O B d') rs L c (fs++[ent L rs c k r g]) (sw k) (ul r) M Q v u)/\Gd L rs c k r g/\TpOk B d' (m+2):=λI X Y=>by
  rw[I]at G;rw[X]at N;have H:=rW (C:=wp (n+1)) (L:=L) (rs:=rs) (c:=c) (t:=Tp s l o) (fs:=fs) (k:=k) (r:=r) (g:=.none) (o8:=sw w) (o9:=sw j) A T;rw[Y]at H;refine⟨.none,s,l,o,_,_,_,_,ab U (ab (aj (ρ3:=zE (Tp s l o) rs L c fs (sw k) (ul r) (sw w) (sw j) (some (.fz .none)) o11) (c9 G rfl) rfl rfl rfl) (ab (aj (ρ3:=zE (Tp s l o) rs L c fs (sw k) (ul r) (sw w) (sw j) (some (.fz .none)) (ul r)) rfl rfl rfl rfl) (ab (ak N rfl) (ab (ak G rfl) (ab H rfl))))),⟨?_,λz=>?_,λz=>?_⟩,Z⟩
  ·unfold Gok;rw[I,X];rfl
  ·rw[X]at z;cases z
  ·rw[I]at z;cases z
 cases r with
 |st x q=>
  by_cases S:99<q
  ·have hg:(R.st x q).gr=true:=Dac S;rw[hg]at N;have H:=rW (C:=wp (n+1)) (L:=L) (rs:=rs) (c:=c) (t:=Tp s l o) (fs:=fs) (k:=k) (r:=.st x q) (g:=.tuple [.int w,.int j]) (o8:=sw w) (o9:=sw j) A T;have Y:gO (.st x q) (decide ((k:Int)∈L)) (.tuple [.int w,.int j])=.tuple [.str em,.int x,.int w,.int j]:=if_pos S;rw[Y]at H;refine⟨.tuple [.int w,.int j],s,l,o,_,_,_,_,ab U (ab (aj (ρ3:=zE (Tp s l o) rs L c fs (sw k) (ul (.st x q)) (sw w) (sw j) (some (.fz .none)) o11) (c9 G rfl) rfl rfl rfl) (ab (aj (ρ3:=zE (Tp s l o) rs L c fs (sw k) (ul (.st x q)) (sw w) (sw j) (some (.fz .none)) (ul (.st x q))) rfl rfl rfl rfl) (ab (aL N (ab (dA (ρ3:=zE (Tp s l o) rs L c fs (sw k) (ul (.st x q)) (sw w) (sw j) (some (.fz (.tuple [.int w,.int j]))) (some (.fz (.tuple [.str em,.int x,.int w,.int j])))) (aa (cZ (aa rfl (aa rfl ai)) rfl rfl rfl) (aa (cZ (aa rfl (aa rfl (aa rfl (aa rfl ai)))) rfl rfl rfl) ai)) rfl rfl rfl) rfl)) (ab (ak G rfl) (ab H rfl))))),⟨?_,λ_=>⟨a0,by show j<=99;omega⟩,λz=>by cases z⟩,Z⟩;unfold Gok;rw[if_pos hg];exact⟨w,j,rfl⟩
  ·exact p rfl (Dab S) (if_neg S)
 |ot e f i=>
  have D:∀{z:PyData},(R.ot e f i).jm=true->(ev (wp (n+1)) eae (zE (Tp s l o) rs L c fs (sw k) (ul (R.ot e f i)) (sw w) (sw j) (sw (pc L rs c (R.ot e f i).tg.toNat)) (ul (R.ot e f i)))=some (.val (.fz (gO (R.ot e f i) (decide ((k:Int)∈L)) (.int (pc L rs c (R.ot e f i).tg.toNat)))),zE (Tp s l o) rs L c fs (sw k) (ul (R.ot e f i)) (sw w) (sw j) (sw (pc L rs c (R.ot e f i).tg.toNat)) (ul (R.ot e f i))))->∃(g:PyData) (O B d':Int) (M Q v u:Option OD),aW (wp (n+1)) bQ (zE (Tp a b d) rs L c fs (sw k) (ul (R.ot e f i)) o8 o9 o10 o11)=some (.nx,zE (Tp O B d') rs L c (fs++[ent L rs c k (R.ot e f i) g]) (sw k) (ul (R.ot e f i)) M Q v u)/\Gd L rs c k (R.ot e f i) g/\TpOk B d' (m+2):=λI he=>by rw[I]at G;obtain⟨g0,g1,ys,ed⟩:=hj I;have ht:(((R.ot e f i).tg.toNat:Nat):Int)=(R.ot e f i).tg:=acB g0;have H:=rW (C:=wp (n+1)) (L:=L) (rs:=rs) (c:=c) (t:=Tp s l o) (fs:=fs) (k:=k) (r:=R.ot e f i) (g:=.int (pc L rs c (R.ot e f i).tg.toNat)) (o8:=sw w) (o9:=sw j) A T;have i3:bb (zE (Tp s l o) rs L c fs (sw k) (ul (R.ot e f i)) (sw w) (sw j) o10 o11) (.rf 4) (R.ot e f i).tg=some (It (pc L rs c (R.ot e f i).tg.toNat),zE (Tp s l o) rs L c fs (sw k) (ul (R.ot e f i)) (sw w) (sw j) o10 o11):=cP rfl (by rw[<-ht];exact jk (by omega));refine⟨.int (pc L rs c (R.ot e f i).tg.toNat),s,l,o,_,_,_,_,ab U (ab (aj (ρ3:=zE (Tp s l o) rs L c fs (sw k) (ul (R.ot e f i)) (sw w) (sw j) (sw (pc L rs c (R.ot e f i).tg.toNat)) o11) (fc G (bN rfl (bN (z:=It (R.ot e f i).tg) rfl rfl rfl (by rw[ed];exact eV atI_last)) rfl i3)) rfl rfl rfl) (ab (aj (ρ3:=zE (Tp s l o) rs L c fs (sw k) (ul (R.ot e f i)) (sw w) (sw j) (sw (pc L rs c (R.ot e f i).tg.toNat)) (ul (R.ot e f i))) rfl rfl rfl rfl) (ab (ak N rfl) (ab (aL G (ab (aj (ρ3:=zE (Tp s l o) rs L c fs (sw k) (ul (R.ot e f i)) (sw w) (sw j) (sw (pc L rs c (R.ot e f i).tg.toNat)) (some (.fz (gO (R.ot e f i) (decide ((k:Int)∈L)) (.int (pc L rs c (R.ot e f i).tg.toNat)))))) he rfl rfl rfl) rfl)) (ab H rfl))))),⟨?_,λz=>(by cases z),λ_=>rfl⟩,Z⟩;unfold Gok;rw[if_neg (show ¬ (R.ot e f i).gr=true from aab),if_pos I];exact⟨_,rfl⟩
  cases hr with
  |sum _ _=>exact p rfl rfl rfl
  |less _ _=>exact p rfl rfl rfl
  |tell _=>exact p rfl rfl rfl
  |stop=>exact p rfl rfl rfl
  |go x=>exact D (z:=.none) rfl (rX (dx:=[.str am]) rfl (cZ (aa rfl (aa (aN rfl rfl rfl rfl CF) ai)) rfl rfl rfl) rfl rfl (by simp))
  |nil x y=>exact D (z:=.none) rfl (rX (dx:=[.str ac,.int x]) rfl (cZ (aa rfl (aa (aN rfl rfl rfl rfl CF) ai)) rfl rfl rfl) rfl rfl (by simp))
end
section
variable{L:List Int}{rs:List R}{c n:Nat}
theorem rY(A:Nb rs)(y:Jb rs.length rs)(B:rs.length<=60):∀{ts:List R}{k m:Nat}{a b d:Int}{fs:List PyData}{o5 o7 o8 o9 o10 o11:Option OD},rs.drop k=ts->fs.length=k->TpOk b d m->m+2*ts.length<=90000 ->
  ∃(gs:List PyData) (S w d':Int) (D X i j f e:Option OD),bS (λd l=>(bH (.tp [5,7]) (.fz d) l).bind λρ1=>aW (wp (n+1)) bQ ρ1) (enF k ts) (zE (Tp a b d) rs L c fs o5 o7 o8 o9 o10 o11)=some (.nx,zE (Tp S w d') rs L c (fs++ents L rs c k ts gs) D X i j f e)/\Gds L rs c k ts gs/\TpOk w d' (m+2*ts.length)
 |[],k,m,a,b,d,fs,o5,o7,o8,o9,o10,o11,_,_,t,_=>⟨[],a,b,d,o5,o7,o8,o9,o10,o11,by rw[show ents L rs c k [] []=[] from rfl,aaA];rfl,.nil k,t⟩
 |r::ts,k,m,a,b,d,fs,o5,o7,o8,o9,o10,o11,hd,hf,t,hm=>by
  rw[aav]at hm;have o:rs[k]?=some r:=by
   have:(rs.drop k)[0]?=some r:=by rw[hd];rfl
   rwa [abv]at this
  have p:rs.drop (k+1)=ts:=by rw[<-List.drop_drop,hd];rfl
  have U:k<rs.length:=(aah.mp o).1;have h:=aaT o;obtain⟨g,z,Q,Y,i,j,f,e,O,J,H⟩:=y3 (L:=L) (c:=c) (n:=n) (a:=a) (fs:=fs) (o8:=o8) (o9:=o9) (o10:=o10) (o11:=o11) o (A r h) (y r h) (by omega) t (by omega);obtain⟨gs,N,C,d2,G,M,Z,T,u,s,v,q,I⟩:=rY A y B (ts:=ts) (k:=k+1) (a:=z) (fs:=fs++[ent L rs c k r g]) (o5:=sw k) (o7:=ul r) (o8:=i) (o9:=j) (o10:=f) (o11:=e) p (by rw[aaw,hf];rfl) H (by omega);refine⟨g::gs,N,C,d2,G,M,Z,T,u,s,?_,.cons J q,I.up (by rw[aav];omega)⟩;rw[ents];rw[aaf]at v;exact bs (x:=(Fl.nx,zE (Tp z Q Y) rs L c (fs++[ent L rs c k r g]) (sw k) (ul r) i j f e)) (bs (x:=zE (Tp a b d) rs L c fs (sw k) (ul r) o8 o9 o10 o11) rfl O) v
theorem y4{m:Nat}{a b d:Int}(x:Nb rs)(v:Jb rs.length rs)(j:rs.length<=60)(t:TpOk b d m)(B:m<=80000):
  ∃(gs:List PyData) (y o d':Int),pl.pg.call (n+3) 18 [Tp a b d,Rl rs,Dl L,It c]=some (.lst ((ents L rs c 0 rs gs).map OD.fz),[Tp y o d',Rl rs,Dl L,It c])/\Gds L rs c 0 rs gs/\TpOk o d' (m+120):=by
 obtain⟨o5,w⟩:=m3 (L:=L) (rs:=rs) (c:=c) (n:=n) (t:=Tp a b d) (m:=rs.length) (i:=0) (o5:=none) (by omega) j;obtain⟨gs,p,l,q,r,u,A,z,h,g,e,f,s⟩:=rY (L:=L) (c:=c) (n:=n+1) x v j (ts:=rs) (k:=0) (a:=a) (fs:=[]) (o5:=o5) (o7:=none) (o8:=none) (o9:=none) (o10:=none) (o11:=none) rfl rfl t (by omega);rw[aaN]at e;rw[show enF ((0:Nat):Int) rs=cg (rs.map R.d) from (jg rs).symm]at e;refine⟨gs,p,l,q,ar (fn:=F_laid) (ρ:=zE (Tp p l q) rs L c (ents L rs c 0 rs gs) r u A z h g |>.set 6 none) rfl rfl (ab (aj (ρ3:=yE (Tp a b d) rs L c (pcs L rs c 0) none none none none none none none) (bu (aa rfl ai) rfl rfl) rfl rfl rfl) (ab (ik (gA (n:=rs.length) (bK rfl rfl blen) rfl (by omega)) w) (ab (aj (ρ3:=zE (Tp a b d) rs L c [] o5 none none none none none) (bu ai rfl rfl) rfl rfl rfl) (ab (ik (lr rfl rfl) e) (ao (ae rfl rfl)))))) rfl,f,s.up (by omega)⟩
end
theorem jl{n:Nat}:∀{j i m:Nat}{a b d:Int}{out:List PyData}{o:Option OD},TpOk b d m->m+j<=100000->∃(xs:List Int) (w f d':Int) (r:Option OD),cm (cL (wp (n+1)) (.nm 0) .none ear) (bY i j) out [o,sB a b d]=some (out++xs.map PyData.int,[r,sB w f d'])/\xs.length=j/\TpOk f d' (m+j)
 |0,i,m,a,b,d,out,o,t,_=>⟨[],a,b,d,o,by rw[aaQ,aaA];rfl,rfl,t⟩
 |j+1,i,m,a,b,d,out,o,t,hm=>by obtain⟨x,c,h,k,g,_,_,s⟩:=aK (n:=n) (a:=a) (many:=10000) t (by omega) (by decide) (by decide);have l:(wp (n+1)).call=pl.pg.call (n+1):=rfl;rw[<-l]at g;obtain⟨xs,v,p,z,y,e,q,u⟩:=jl (n:=n) (j:=j) (i:=i+1) (a:=c) (out:=out++[.int x]) (o:=sw i) s (by omega);refine⟨x::xs,v,p,z,y,?_,by rw[aav,q],u.up (by omega)⟩;rw[eY];refine bs (x:=([.int x],[sw i,sB c h k])) (BX (x:=.val (It x)) rfl (ag (ρ3:=[sw i,sB c h k]) rfl rfl g rfl) rfl) ?_;rw[aaf]at e;exact e
theorem rZ{C:Ct}{i:Nat}{e:E}{ρ ρ1 ρ2:DEnv}{xs ys zs:List OD}(c:ρ[i]?.join=some (.lst zs))(h:ev C e ρ=some (.val (.lst ys),ρ1))(b:ρ1[i]?.join=some (.lst xs))(a:xs.length+ys.length<=1000000)(d:ρ1.set i (some (.lst (xs++ys)))=ρ2):dN C (.ext i e) ρ=some (.nx,ρ2):=bs c (bs rfl (bs h (bs rfl (bs b (bs rfl (bg a (by rw[<-d])))))))
theorem eh{n:Nat}{w:Str}:Sm n (.str w):=by have h:ev (wp n) ebr [some (.fz (.str w)),some (.fz (.str w))]=some (.val (.fz (.bool true)),[some (.fz (.str w)),some (.fz (.str w))]):=aN rfl rfl rfl rfl (show some (decide (w=w))=some true by rw[Dac rfl]);exact ar (fn:=gF) rfl rfl (ab (ak rfl rfl) (ao (aL (kb rfl rfl) (ao (ae (i9 h rfl) rfl))))) rfl
theorem m4{n:Nat}{b:Bool}:Sm n (.bool b):=by have h:ev (wp n) ebr [some (.fz (.bool b)),some (.fz (.bool b))]=some (.val (.fz (.bool true)),[some (.fz (.bool b)),some (.fz (.bool b))]):=aN rfl rfl rfl rfl (by cases b<;>rfl);exact ar (fn:=gF) rfl rfl (ab (ak rfl rfl) (ab (ak rfl rfl) (ao (aL rfl (ao (ae (i9 rfl h) rfl)))))) rfl
theorem r6{n:Nat}{r:R}{lg:Bool}{g:PyData}(e:r.ok):∃ds:List PyData,gO r lg g=.tuple ds/\ds.length<=100000/\∀d∈ds,Sm n d:=by
 cases r with
 |st x q=>
  show ∃ds:List PyData,(if 99<q then _ else _:PyData)=.tuple ds/\_;by_cases h:99<q
  ·rw[if_pos h];exact⟨_,rfl,by simp,λd b=>by
    rcases aaa.mp b with rfl|b
    ·exact eh
    ·rcases aaa.mp b with rfl|b
     ·exact bq
     ·rcases aaa.mp b with rfl|b
      ·exact bq
      ·rw[aas.mp b];exact bq⟩
  ·rw[if_neg h];exact⟨_,rfl,by simp,λd b=>by
    rcases aaa.mp b with rfl|b
    ·exact eh
    ·rcases aaa.mp b with rfl|b
     ·exact bq
     ·rw[aas.mp b];exact bq⟩
 |ot w f i=>
  show ∃ds:List PyData,(if w=am then _ else if w=ac then _ else _:PyData)=.tuple ds/\_;by_cases h:w=am
  ·rw[if_pos h];exact⟨_,rfl,by simp,λd b=>by
    rcases aaa.mp b with rfl|b
    ·exact eh
    ·rcases aaa.mp b with rfl|b
     ·exact bq
     ·rw[aas.mp b];exact m4⟩
  ·rw[if_neg h];by_cases c:w=ac
   ·rw[if_pos c];exact⟨_,rfl,by simp,λd b=>by
     rcases aaa.mp b with rfl|b
     ·exact eh
     ·rcases aaa.mp b with rfl|b
      ·exact bq
      ·rcases aaa.mp b with rfl|b
       ·exact bq
       ·rw[aas.mp b];exact m4⟩
   ·rw[if_neg c];refine⟨_,rfl,?_,λd b=>?_⟩
    ·rw[aav,aag];cases e<;>simp
    ·rcases aaa.mp b with rfl|b
     ·exact eh
     ·obtain⟨a,_,rfl⟩:=aaZ.mp b;exact bq
theorem gN{L:List Int}{r:R}{k:Nat}{p:Int}{g:PyData}(f:r.ok)(e:(k:Int)∈L->r.jm=true):(dB r p (decide ((k:Int)∈L)) g).length=zk L r k:=by
 unfold zk;cases r with
 |st x q=>
  have i:(k:Int) ∉ L:=λh=>aab (e h);by_cases h:99<q
  ·rw[if_pos (.inl (Dac h))];show (if 99<q then _ else _:List Int).length=2;rw[if_pos h];rfl
  ·rw[if_neg λz=>z.elim (λz=>h (Daa z)) i];show (if 99<q then _ else _:List Int).length=1;rw[if_neg h];rfl
 |ot w j l=>
  by_cases c:(k:Int)∈L
  ·rw[if_pos (.inr c),Dac c];have d:=e c;cases f with
   |go a=>rfl
   |nil a b=>rfl
   |sum _ _=>cases d
   |less _ _=>cases d
   |tell _=>cases d
   |stop=>cases d
  ·rw[if_neg λz=>z.elim (λz=>absurd z aab) c,Dab c];cases f<;>rfl
theorem pc_le{L:List Int}{rs:List R}{c j:Nat}:∀{d:Nat},pc L rs c j<=pc L rs c (j+d)/\pc L rs c (j+d)<=pc L rs c j+2*d
 |0=>⟨aac _,aac _⟩
 |d+1=>by
  have a:=pc_le (L:=L) (rs:=rs) (c:=c) (j:=j) (d:=d);have e:pc L rs c (j+(d+1))=pc L rs c (j+d)+(match rs[j+d]? with|some r=>zk L r (j+d)|none=>0):=rfl;have h:(match rs[j+d]? with|some r=>zk L r (j+d)|none=>0)<=2:=by
   split
   ·unfold zk;split<;>omega
   ·omega
  rw[e];omega
structure Lk (L:List Int)(rs:List R):Prop where
 jm:∀(k:Nat) (r:R),rs[k]?=some r->(k:Int)∈L->r.jm=true
 far:∀(k:Nat) (r:R),rs[k]?=some r->(k:Int) ∉ L->r.fr k=false
theorem near{L:List Int}{rs:List R}{c k:Nat}{r:R}{g:PyData}(l:Lk L rs)(hk:rs[k]?=some r)(n:Jok rs.length r)(q:rs.length<=60)(m:Gd L rs c k r g):r.jm=true->decide ((k:Int)∈L)=false->-(farN r 499)<=gI g-pc L rs c k/\gI g-pc L rs c k<=farN r 499:=λf b=>by
 have b:=of_decide_eq_false b;obtain⟨i,u,_⟩:=n f;have o:k<rs.length:=(aah.mp hk).1;have a:=l.far k r hk b;rw[m.jm f];show -(farN r 499)<=(pc L rs c r.tg.toNat:Int)-pc L rs c k/\(pc L rs c r.tg.toNat:Int)-pc L rs c k<=farN r 499;have s:((r.tg.toNat:Nat):Int)=r.tg:=acB i;have t:(k<=r.tg.toNat/\pc L rs c k<=pc L rs c r.tg.toNat/\pc L rs c r.tg.toNat<=pc L rs c k+2*(r.tg.toNat-k))\/(r.tg.toNat<=k/\pc L rs c r.tg.toNat<=pc L rs c k/\pc L rs c k<=pc L rs c r.tg.toNat+2*(k-r.tg.toNat)):=by
  rcases Nat.le_total k r.tg.toNat with h|h
  ·have:=pc_le (L:=L) (rs:=rs) (c:=c) (j:=k) (d:=r.tg.toNat-k);rw[show k+(r.tg.toNat-k)=r.tg.toNat by omega]at this;exact .inl ⟨h,this⟩
  ·have:=pc_le (L:=L) (rs:=rs) (c:=c) (j:=r.tg.toNat) (d:=k-r.tg.toNat);rw[show r.tg.toNat+(k-r.tg.toNat)=k by omega]at this;exact .inr ⟨h,this⟩
 generalize pc L rs c r.tg.toNat=P at *;generalize pc L rs c k=p at *;unfold farN;by_cases e:r.wd=ac
 ·rw[if_pos e];rw[if_pos (by decide)];unfold R.fr at a;rw[Dac e,Bool.true_and]at a;have a:=of_decide_eq_false a;split at a<;>omega
 ·rw[if_neg e];omega
def cls(L:List Int)(rs:List R)(c:Nat):Nat->List R->List PyData->List Int
 |k,r::ts,g::gs=>dB r (pc L rs c k) (decide ((k:Int)∈L)) g++cls L rs c (k+1) ts gs
 |_,_,_=>[]
section
variable{L:List Int}{rs:List R}{c n:Nat}
abbrev vE(sc k t:OD)(rs:List R)(L:List Int)(fa x6:OD)(es:List PyData)(o8 o9 o10 o11 o12:Option OD):DEnv:=[some sc,some k,some t,ut rs,wn L,some fa,some x6,some (.fz (.list es)),o8,o9,o10,o11,o12]
abbrev bA:Ss:=.cons eah .nil
abbrev bB:Ss:=.cons eac .nil
abbrev CG:Tg:=.tp [8,9,10,11,12]
theorem dr_step{k:Nat}{r:R}{ts:List R}(a:rs.drop k=r::ts):rs[k]?=some r/\rs.drop (k+1)=ts:=by
 refine⟨?_,by rw[<-List.drop_drop,a];rfl⟩;have:(rs.drop k)[0]?=some r:=by rw[a];rfl
 rwa [abv]at this
theorem v7(z:Nb rs)(v:Lk L rs)(B:rs.length<=60)(D:c<=60){sc kk t fa:OD}{es:List PyData}:∀{ts:List R}{gs:List PyData}{k:Nat}{cs:List Int}{o8 o9 o10 o11 o12:Option OD},rs.drop k=ts->k<=rs.length->Gds L rs c k ts gs->cs.length=pc L rs c k ->
  ∃o q f e b,bS (λd i=>(bH CG (.fz d) i).bind λρ1=>aW (wp (n+2)) bA ρ1) (ents L rs c k ts gs) (vE sc kk t rs L fa (Il cs) es o8 o9 o10 o11 o12)=some (.nx,vE sc kk t rs L fa (Il (cs++cls L rs c k ts gs)) es o q f e b)
 |[],_,k,cs,o8,o9,o10,o11,o12,_,_,.nil _,_=>⟨o8,o9,o10,o11,o12,by rw[show cls L rs c k [] []=[] from rfl,aaA];rfl⟩
 |r::ts,_,k,cs,o8,o9,o10,o11,o12,hd,hk0,.cons (g:=g) (gs:=gs) hg hgs,hcs=>by
  obtain⟨h,m⟩:=dr_step hd;have y:=z r (aaT h);have s:k<rs.length:=(aah.mp h).1;have w:=yV (n:=n) (p:=pc L rs c k) (lg:=decide ((k:Int)∈L)) y hg.ok;have A:(wp (n+2)).call=pl.pg.call (n+2):=rfl;rw[<-A]at w;have a:=gN (L:=L) (r:=r) (k:=k) (p:=pc L rs c k) (g:=g) y (v.jm k r h);have l:=pc_le (L:=L) (rs:=rs) (c:=c) (j:=0) (d:=k);rw[abj,show pc L rs c 0=c from rfl]at l;have G:zk L r k<=2:=by unfold zk;split<;>omega
  have C:dN (wp (n+2)) eah (vE sc kk t rs L fa (Il cs) es (ul r) (sw (pc L rs c k)) (some (.fz (.bool (decide ((k:Int)∈L))))) (some (.fz g)) (some (.fz (.tuple [gO r (decide ((k:Int)∈L)) g,.int (pc L rs c (k+1))]))))=some (.nx,vE sc kk t rs L fa (Il (cs++dB r (pc L rs c k) (decide ((k:Int)∈L)) g)) es (ul r) (sw (pc L rs c k)) (some (.fz (.bool (decide ((k:Int)∈L))))) (some (.fz g)) (some (.fz (.tuple [gO r (decide ((k:Int)∈L)) g,.int (pc L rs c (k+1))])))):=
   rZ (zs:=cs.map It) (xs:=cs.map It) (ys:=(dB r (pc L rs c k) (decide ((k:Int)∈L)) g).map It) (ρ1:=vE sc kk t rs L fa (Il cs) es (ul r) (sw (pc L rs c k)) (some (.fz (.bool (decide ((k:Int)∈L))))) (some (.fz g)) (some (.fz (.tuple [gO r (decide ((k:Int)∈L)) g,.int (pc L rs c (k+1))])))) rfl (ag (ρ3:=vE sc kk t rs L fa (Il cs) es (ul r) (sw (pc L rs c k)) (some (.fz (.bool (decide ((k:Int)∈L))))) (some (.fz g)) (some (.fz (.tuple [gO r (decide ((k:Int)∈L)) g,.int (pc L rs c (k+1))])))) rfl rfl w rfl) rfl (by rw[aag,aag,hcs,a];omega) (by unfold vE;rw[Il,Il,aay];rfl)
  obtain⟨o,q,f,e,b,u⟩:=v7 z v B D (k:=k+1) (cs:=cs++dB r (pc L rs c k) (decide ((k:Int)∈L)) g) (o8:=ul r) (o9:=sw (pc L rs c k)) (o10:=some (.fz (.bool (decide ((k:Int)∈L))))) (o11:=some (.fz g)) (o12:=some (.fz (.tuple [gO r (decide ((k:Int)∈L)) g,.int (pc L rs c (k+1))]))) m s hgs (by rw[aaw,hcs,a,fK h]);refine⟨o,q,f,e,b,?_⟩;rw[ents,cls];rw[aaf]at u;exact bs (bs (x:=vE sc kk t rs L fa (Il cs) es (ul r) (sw (pc L rs c k)) (some (.fz (.bool (decide ((k:Int)∈L))))) (some (.fz g)) (some (.fz (.tuple [gO r (decide ((k:Int)∈L)) g,.int (pc L rs c (k+1))])))) rfl (ab C rfl)) u
theorem v8(G:Nb rs)(D:Jb rs.length rs)(u:Lk L rs)(B:rs.length<=60){sc kk t fa:OD}{es:List PyData}{CS T:List Int}:∀{ts:List R}{gs:List PyData}{k:Nat}{X:List Int}{x6:OD}{o8 o9 o10 o11 o12:Option OD},rs.drop k=ts->Gds L rs c k ts gs->X.length=pc L rs c k->CS=X++(cls L rs c k ts gs++T)->(x6=Il CS\/x6=Dl CS) ->
  ∃s w z h f e,bS (λd q=>(bH CG (.fz d) q).bind λρ1=>aW (wp (n+3)) bB ρ1) (ents L rs c k ts gs) (vE sc kk t rs L fa x6 es o8 o9 o10 o11 o12)=some (.nx,vE sc kk t rs L fa s es w z h f e)
 |[],_,k,X,x6,o8,o9,o10,o11,o12,_,.nil _,_,_,_=>⟨x6,o8,o9,o10,o11,o12,rfl⟩
 |r::ts,_,k,X,x6,o8,o9,o10,o11,o12,l,.cons (g:=g) (gs:=gs) hg hgs,hX,hC,hx=>by
  obtain⟨j,v⟩:=dr_step l;have b:=aaT j;have y:=G r b;have a:=gN (L:=L) (r:=r) (k:=k) (p:=pc L rs c k) (g:=g) y (u.jm k r j);rw[cls]at hC;have H:=yY (cs:=CS) (p:=pc L rs c k) (r:=r) (lg:=decide ((k:Int)∈L)) (g:=g) y hg.gr (near u j (D r b) B hg) λi x C=>by rw[<-hX];refine Cd hC ?_;rw[aaf,abr (aah.mp C).1];exact C
  rw[a,<-fK j]at H;have o:=H n;have A:(wp (n+3)).call=pl.pg.call (n+3):=rfl;rw[<-A]at o;obtain⟨S,O,J,M⟩:=r6 (n:=n) (r:=r) (lg:=decide ((k:Int)∈L)) (g:=g) y;have m:Sm (n+2) (.tuple [gO r (decide ((k:Int)∈L)) g,.int (pc L rs c (k+1))]):=(mY (n:=n+1) (by simp) λd l=>by
   rcases aaa.mp l with rfl|l
   ·rw[O];exact(mY J M).2
   ·rw[aas.mp l];exact bq).2
  unfold Sm at m;rw[<-A]at m;generalize hsd:PyData.tuple [gO r (decide ((k:Int)∈L)) g,.int (pc L rs c (k+1))]=sd at o m;have I:bw (wp (n+3)) Ft (vE sc kk t rs L fa x6 es (ul r) (sw (pc L rs c k)) (some (.fz (.bool (decide ((k:Int)∈L))))) (some (.fz g)) (some (.fz sd)))=some (true,vE sc kk t rs L fa (Dl CS) es (ul r) (sw (pc L rs c k)) (some (.fz (.bool (decide ((k:Int)∈L))))) (some (.fz g)) (some (.fz sd))):=by
   have N:ev (wp (n+3)) Fs (vE sc kk t rs L fa x6 es (ul r) (sw (pc L rs c k)) (some (.fz (.bool (decide ((k:Int)∈L))))) (some (.fz g)) (some (.fz sd)))=some (.val (.fz sd),vE sc kk t rs L fa (Dl CS) es (ul r) (sw (pc L rs c k)) (some (.fz (.bool (decide ((k:Int)∈L))))) (some (.fz g)) (some (.fz sd))):=by
    rcases hx with rfl|rfl
    ·exact ag (rs:=[.rf 6,.val (It (pc L rs c k))]) (ρ1:=vE sc kk t rs L fa (Il CS) es (ul r) (sw (pc L rs c k)) (some (.fz (.bool (decide ((k:Int)∈L))))) (some (.fz g)) (some (.fz sd))) (ρ2:=vE sc kk t rs L fa (Dl CS) es (ul r) (sw (pc L rs c k)) (some (.fz (.bool (decide ((k:Int)∈L))))) (some (.fz g)) (some (.fz sd))) (ρ3:=vE sc kk t rs L fa (Dl CS) es (ul r) (sw (pc L rs c k)) (some (.fz (.bool (decide ((k:Int)∈L))))) (some (.fz g)) (some (.fz sd))) rfl (show aX [false,false] _ _=_ from rM (gL rfl (lz _) rfl) (rM rfl rfl)) o rfl
    ·exact ag (ρ3:=vE sc kk t rs L fa (Dl CS) es (ul r) (sw (pc L rs c k)) (some (.fz (.bool (decide ((k:Int)∈L))))) (some (.fz g)) (some (.fz sd))) rfl rfl o rfl
   exact eT (ag (rs:=[.val (.fz sd),.val (.fz sd)]) (ρ3:=vE sc kk t rs L fa (Dl CS) es (ul r) (sw (pc L rs c k)) (some (.fz (.bool (decide ((k:Int)∈L))))) (some (.fz g)) (some (.fz sd))) (aa N (aa rfl ai)) rfl m rfl)
  obtain⟨s,w,z,h,f,e,Q⟩:=v8 G D u B (k:=k+1) (X:=X++dB r (pc L rs c k) (decide ((k:Int)∈L)) g) (x6:=Dl CS) (o8:=ul r) (o9:=sw (pc L rs c k)) (o10:=some (.fz (.bool (decide ((k:Int)∈L))))) (o11:=some (.fz g)) (o12:=some (.fz sd)) v hgs (by rw[aaw,hX,a,fK j]) (by rw[hC,aaf,aaf]) (.inr rfl);refine⟨s,w,z,h,f,e,?_⟩;rw[ents,ent,hsd];exact bs (bs (x:=vE sc kk t rs L fa x6 es (ul r) (sw (pc L rs c k)) (some (.fz (.bool (decide ((k:Int)∈L))))) (some (.fz g)) (some (.fz sd))) rfl (ab (ak (rA (k:=true) I) rfl) rfl)) Q
end
theorem y8{rs:List R}:(Rs rs).dat=some (.list (rs.map R.d)):=by rw[Rs,<-B6];exact eX _
theorem Cg{rs:List R}{ls:List Int}(m:∀a∈ls,a∈jIx 0 rs):Lk (sortI ((ls++fIx 0 rs).foldl ddI [])) rs:=by
 have c:∀a,a∈sortI ((ls++fIx 0 rs).foldl ddI []) ↔ a∈ls\/a∈fIx 0 rs:=λa=>by rw[(sortI_perm _).mem_iff,dds_mem,aaj];exact⟨λz=>z.elim (λz=>absurd z aau) id,.inr⟩
 refine⟨λk r b h=>?_,λk r b h=>?_⟩
 ·have:(k:Int)∈jIx 0 rs:=((c _).mp h).elim (m _) fIx_sub;obtain⟨j,q,e,d,l⟩:=jIx_mem this;have g:j=k:=by omega
  subst g;rw[b]at d;cases d;exact l
 ·cases f:r.fr k with
  |false=>rfl
  |true=>have:=rR (i:=0) b (by rw[abZ];exact f);rw[abZ]at this;exact absurd ((c _).mpr (.inr this)) h
abbrev uE(sc k t:OD)(x3:OD)(o4 o5 o6 o7 o8 o9 o10 o11 o12:Option OD):DEnv:=[some sc,some k,some t,some x3,o4,o5,o6,o7,o8,o9,o10,o11,o12]
abbrev rC(m:Int):E:=.comp 1 [2] (.rg1 (.call 11 (.cons (.nm 2) (.cons (.int m) .nil)))) (.nm 0) .none ear
abbrev lB:Ss:=match F_law.body with|.cons (.fr _ _ b) _=>b|_=>.nil
theorem r9{m:Nat}{sc k:OD}{a b d:Int}{rs:List R}{o4 o5 o6 o7 o8 o9 o10 o11 o12:Option OD}(Q:rs.length<=60)(Z:Nb rs)(hJ:Jb rs.length rs)(t:TpOk b d m)(hm:m<=1000):
  ∃U:DEnv,aW (wp 7) (match lB with|.cons _ (.cons _ s)=>s|_=>.nil) (uE sc k (Tp a b d) (Rs rs) o4 o5 o6 o7 o8 o9 o10 o11 o12)=some (.nx,some sc::U)/\U.length=12:=by
 obtain⟨ls,p,q,u,e1,hs,t1⟩:=vf (n:=5) (a:=a) Q t (by omega);have hj:(jIx 0 rs).length<=60:=by rw[fI];exact aat (acA _ _) Q
 have c2:=hs.length_le;have c5:=mZ (rs:=rs) (i:=0);have hL:=Cg (rs:=rs) (ls:=ls) λa ha=>hs.subset ha;have c0:((ls++fIx 0 rs).foldl ddI []).length<64:=abh (sub_len (iw .nil) λx S=>by
  rcases dds_mem.mp S with S|S
  ·cases S
  ·exact(aaj.mp S).elim (λz=>hs.subset z) fIx_sub) (abh hj (by decide))
 obtain⟨c3,e2⟩:=gM (C:=wp 7) (rs:=rs) (i:=0) (out:=[]) (o0:=none) (o1:=none) Z;rw[aaN,<-jg]at e2;obtain⟨L,a0⟩:∃L,L=sortI ((ls++fIx 0 rs).foldl ddI []):=⟨_,rfl⟩
 rw[<-a0]at hL;generalize fIx 0 rs=fs at *;obtain⟨x,a2,b2,d2,e3,x0,x1,t2⟩:=aK (n:=6) (a:=p) (many:=60) t1 (by omega) (by decide) (by decide);obtain⟨e,v,A,w,c6,e4,c7,t3⟩:=jl (n:=6) (j:=x.toNat) (i:=0) (a:=a2) (out:=[]) (o:=none) t2 (by omega);obtain⟨gs,B,I,D,e5,hg,t4⟩:=y4 (L:=L) (rs:=rs) (c:=e.length) (n:=4) (a:=v) Z hJ Q t3 (by omega);obtain⟨H,G,l,f,g,e6⟩:=v7 (n:=5) (c:=e.length) Z hL Q (by omega) (sc:=sc) (kk:=k) (t:=Tp B I D) (fa:=Il fs) (es:=ents L rs e.length 0 rs gs) (ts:=rs) (gs:=gs) (k:=0) (cs:=e) (o8:=o8) (o9:=o9) (o10:=o10) (o11:=o11) (o12:=o12) rfl (aaE _) hg rfl;obtain⟨y,a5,b5,d5,e7,y0,y1,t5⟩:=aK (n:=6) (a:=B) (many:=3) t4 (by omega) (by decide) (by decide);obtain⟨T,N,O,M,c4,e8,hT,t6⟩:=jl (n:=6) (j:=y.toNat) (i:=0) (a:=a5) (out:=[]) (o:=none) t5 (by omega);obtain⟨y6,q8,q9,c1,b8,b7,e9⟩:=v8 (n:=4) (c:=e.length) Z hJ hL Q (sc:=sc) (kk:=k) (t:=Tp N O M) (fa:=Il fs) (es:=ents L rs e.length 0 rs gs) (CS:=e++cls L rs e.length 0 rs gs++T) (T:=T) (ts:=rs) (gs:=gs) (k:=0) (X:=e) (x6:=Il (e++cls L rs e.length 0 rs gs++T)) (o8:=H) (o9:=G) (o10:=l) (o11:=f) (o12:=g) rfl hg rfl (by rw[aaf]) (.inl rfl);rw[aaN]at e4 e8;have ec:(wp 7).call=pl.pg.call 7:=rfl;have e1:pl.pg.call 7 14 [Tp a b d,Rl rs]=some (Il ls,[Tp p q u,Rl rs]):=e1;have e3:pl.pg.call 7 11 [Tp p q u,It 60]=some (It x,[Tp a2 b2 d2,It 60]):=e3;have e5:pl.pg.call 7 18 [Tp v A w,Rl rs,Dl L,It e.length]=some (.lst ((ents L rs e.length 0 rs gs).map OD.fz),[Tp B I D,Rl rs,Dl L,It e.length]):=e5;have e7:pl.pg.call 7 11 [Tp B I D,It 3]=some (It y,[Tp a5 b5 d5,It 3]):=e7;rw[<-ec]at e1 e3 e5 e7;have Y:∀{ts:List R}{gs:List PyData}{j:Nat},Gds L rs e.length j ts gs->rs.drop j=ts->(cls L rs e.length j ts gs).length<=2*ts.length:=by
  intro ts;induction ts with
  |nil=>intro gs j h _;cases h;exact aac _
  |cons r ts ih=>
   intro gs j h hd;cases h with
   |cons hg b0=>
    obtain⟨hk,a7⟩:=dr_step hd;have h1:=ih b0 a7;rw[cls,aaw,gN (Z r (aaT hk)) (hL.jm _ r hk),aav];have:zk L r j<=2:=by unfold zk;split<;>omega
    omega
 have Y:=Y hg rfl;generalize ents L rs e.length 0 rs gs=en at *;generalize cls L rs e.length 0 rs gs=cl at *;have s3:dN (wp 7) eaq (uE sc k (Tp a b d) (Rs rs) o4 o5 o6 o7 o8 o9 o10 o11 o12)=some (.nx,uE sc k (Tp p q u) (Rl rs) (wl ls) o5 o6 o7 o8 o9 o10 o11 o12):=by have zr:frz1 [some sc,some k,none,sK rs,o4,o5,o6,o7,o8,o9,o10,o11,o12] (.rf 3)=some (.list (rs.map R.d),[some sc,some k,none,ut rs,o4,o5,o6,o7,o8,o9,o10,o11,o12]):=gL rfl y8 rfl;refine aj (x:=.val (Il ls)) (z:=Il ls) (ρ1:=uE sc k (Tp p q u) (Rl rs) o4 o5 o6 o7 o8 o9 o10 o11 o12) (ρ2:=uE sc k (Tp p q u) (Rl rs) o4 o5 o6 o7 o8 o9 o10 o11 o12) (ag (rs:=[.rf 2,.rf 3]) (ρ1:=uE sc k (Tp a b d) (Rs rs) o4 o5 o6 o7 o8 o9 o10 o11 o12) (ρ2:=[some sc,some k,none,ut rs,o4,o5,o6,o7,o8,o9,o10,o11,o12]) rfl ?_ e1 rfl) rfl rfl rfl;show aX [true,false] _ [.rf 2,.rf 3]=_;have zm:mv1 (uE sc k (Tp a b d) (Rs rs) o4 o5 o6 o7 o8 o9 o10 o11 o12) (.rf 2)=some (Tp a b d,[some sc,some k,none,sK rs,o4,o5,o6,o7,o8,o9,o10,o11,o12]):=rfl;simp only[aX,zm,zr]
 have s4:dN (wp 7) (.set 5 (.comp 2 [] (.enm (.nm 3)) (.tp [0,1]) (.some fT) (.nm 0))) (uE sc k (Tp p q u) (Rl rs) (wl ls) o5 o6 o7 o8 o9 o10 o11 o12)=some (.nx,uE sc k (Tp p q u) (Rl rs) (wl ls) (wl fs) o6 o7 o8 o9 o10 o11 o12):=aj (ρ2:=uE sc k (Tp p q u) (Rl rs) (wl ls) o5 o6 o7 o8 o9 o10 o11 o12) (eU (ρ2:=uE sc k (Tp p q u) (Rl rs) (wl ls) o5 o6 o7 o8 o9 o10 o11 o12) (lr rfl rfl) (by rw[eF,aag];omega) rfl e2 unca_nil) (z:=Il fs) (by rw[iu];rfl) rfl rfl;have s5:dN (wp 7) ea6 (uE sc k (Tp p q u) (Rl rs) (wl ls) (wl fs) o6 o7 o8 o9 o10 o11 o12)=some (.nx,uE sc k (Tp p q u) (Rl rs) (wl L) (wl fs) o6 o7 o8 o9 o10 o11 o12):=by rw[a0];exact aj (ρ2:=uE sc k (Tp p q u) (Rl rs) (wl ls) (wl fs) o6 o7 o8 o9 o10 o11 o12) (Ce (xs:=ls) (ys:=fs) rfl rfl (mT _) (mT _) (by omega) c0) rfl rfl rfl
 have s6:dN (wp 7) (.set 6 (rC 60)) (uE sc k (Tp p q u) (Rl rs) (wl L) (wl fs) o6 o7 o8 o9 o10 o11 o12)=some (.nx,uE sc k (Tp v A w) (Rl rs) (wl L) (wl fs) (wl e) o7 o8 o9 o10 o11 o12):=aj (ρ2:=uE sc k (Tp v A w) (Rl rs) (wl L) (wl fs) o6 o7 o8 o9 o10 o11 o12) (eU (ρ2:=uE sc k (Tp v A w) (Rl rs) (wl L) (wl fs) o6 o7 o8 o9 o10 o11 o12) (gA (n:=x) (ρ1:=uE sc k (Tp a2 b2 d2) (Rl rs) (wl L) (wl fs) o6 o7 o8 o9 o10 o11 o12) (ag (ρ3:=uE sc k (Tp a2 b2 d2) (Rl rs) (wl L) (wl fs) o6 o7 o8 o9 o10 o11 o12) rfl rfl e3 rfl) rfl (by omega)) (by rw[dH];omega) rfl e4 rfl) (z:=Il e) (by rw[iu];rfl) rfl rfl;have s7:dN (wp 7) eag (uE sc k (Tp v A w) (Rl rs) (wl L) (wl fs) (wl e) o7 o8 o9 o10 o11 o12)=some (.nx,uE sc k (Tp B I D) (Rl rs) (wn L) (wl fs) (wl e) (some (.lst (en.map OD.fz))) o8 o9 o10 o11 o12):=by
  have hl:ev (wp 7) Fq (uE sc k (Tp v A w) (Rl rs) (wl L) (wl fs) (wl e) o7 o8 o9 o10 o11 o12)=some (.val (It e.length),uE sc k (Tp v A w) (Rl rs) (wl L) (wl fs) (wl e) o7 o8 o9 o10 o11 o12):=by have hd:aq (uE sc k (Tp v A w) (Rl rs) (wl L) (wl fs) (wl e) o7 o8 o9 o10 o11 o12) (.rf 6)=some (.list (e.map PyData.int)):=lz _;exact bK (rs:=[.rf 6]) (ds:=[.list (e.map PyData.int)]) rfl (by simp only[cx,hd];rfl) blen
  have zr:frz1 [some sc,some k,none,ut rs,wl L,wl fs,wl e,o7,o8,o9,o10,o11,o12] (.rf 4)=some (.list (L.map PyData.int),[some sc,some k,none,ut rs,wn L,wl fs,wl e,o7,o8,o9,o10,o11,o12]):=gL rfl (lz _) rfl;refine aj (x:=.val (.lst (en.map OD.fz))) (z:=.lst (en.map OD.fz)) (ρ1:=uE sc k (Tp B I D) (Rl rs) (wn L) (wl fs) (wl e) o7 o8 o9 o10 o11 o12) (ρ2:=uE sc k (Tp B I D) (Rl rs) (wn L) (wl fs) (wl e) o7 o8 o9 o10 o11 o12) (ag (rs:=[.rf 2,.val (Rl rs),.rf 4,.val (It e.length)]) (ρ1:=uE sc k (Tp v A w) (Rl rs) (wl L) (wl fs) (wl e) o7 o8 o9 o10 o11 o12) (ρ2:=[some sc,some k,none,ut rs,wn L,wl fs,wl e,o7,o8,o9,o10,o11,o12]) (aa rfl (aa rfl (aa rfl (aa hl ai)))) ?_ e5 rfl) rfl rfl rfl;show aX [true,false,false,false] _ [.rf 2,.val (Rl rs),.rf 4,.val (It e.length)]=_;have zm:mv1 (uE sc k (Tp v A w) (Rl rs) (wl L) (wl fs) (wl e) o7 o8 o9 o10 o11 o12) (.rf 2)=some (Tp v A w,[some sc,some k,none,ut rs,wl L,wl fs,wl e,o7,o8,o9,o10,o11,o12]):=rfl;have J:aX [false,false,false] [some sc,some k,none,ut rs,wl L,wl fs,wl e,o7,o8,o9,o10,o11,o12] [.val (Rl rs),.rf 4,.val (It e.length)]=some ([Rl rs,Dl L,It e.length],[some sc,some k,none,ut rs,wn L,wl fs,wl e,o7,o8,o9,o10,o11,o12]):=rM rfl (rM zr (rM rfl rfl));simp only[aX,zm]at J ⊢;rw[J]
 have s8:dN (wp 7) (.fr CG (.seq (.nm 7)) bA) (uE sc k (Tp B I D) (Rl rs) (wn L) (wl fs) (wl e) (some (.lst (en.map OD.fz))) o8 o9 o10 o11 o12)=some (.nx,vE sc k (Tp B I D) rs L (Il fs) (Il (e++cl)) en H G l f g):=ik (lq (ds:=en) rfl (gL rfl (eX _) rfl) rfl) e6;have s9:dN (wp 7) (.ext 6 (rC 3)) (vE sc k (Tp B I D) rs L (Il fs) (Il (e++cl)) en H G l f g)=some (.nx,vE sc k (Tp N O M) rs L (Il fs) (Il (e++cl++T)) en H G l f g):=by refine rZ (zs:=(e++cl).map It) (xs:=(e++cl).map It) (ys:=T.map It) (ρ1:=vE sc k (Tp N O M) rs L (Il fs) (Il (e++cl)) en H G l f g) rfl ?_ rfl (by rw[aag,aag,aaw];omega) (by rw[<-aay];rfl);rw[<-iu];exact eU (ρ2:=vE sc k (Tp N O M) rs L (Il fs) (Il (e++cl)) en H G l f g) (gA (n:=y) (ρ1:=vE sc k (Tp a5 b5 d5) rs L (Il fs) (Il (e++cl)) en H G l f g) (ag (ρ3:=vE sc k (Tp a5 b5 d5) rs L (Il fs) (Il (e++cl)) en H G l f g) rfl rfl e7 rfl) rfl (by omega)) (by rw[dH];omega) rfl e8 rfl
 have a8:dN (wp 7) (.fr CG (.seq (.nm 7)) bB) (vE sc k (Tp N O M) rs L (Il fs) (Il (e++cl++T)) en H G l f g)=some (.nx,vE sc k (Tp N O M) rs L (Il fs) y6 en q8 q9 c1 b8 b7):=ik (lq (ds:=en) rfl rfl rfl) e9;exact⟨_,ab s3 (ab s4 (ab s5 (ab s6 (ab s7 (ab s8 (ab s9 (ab a8 rfl))))))),rfl⟩
theorem Gp{ρ:DEnv}(h:ρ.length=12):∃o1 a o3 o4 o5 o6 o7 o8 o9 o10 o11 o12,ρ=[o1,a,o3,o4,o5,o6,o7,o8,o9,o10,o11,o12]:=by
 match ρ,h with
 |[o1,a,o3,o4,o5,o6,o7,o8,o9,o10,o11,o12],_=>exact⟨o1,a,o3,o4,o5,o6,o7,o8,o9,o10,o11,o12,rfl⟩
theorem pure(ns:List Int)(S:ns.length<=63):∃ys,pl.pg.call 8 BY [.fz (.list (ns.map PyData.int))]=some (.fz (.bool true),ys):=by
 obtain⟨sc,j⟩:∃sc:OD,sc=.fz (.list (ns.map PyData.int)):=⟨_,rfl⟩
 have v:∀(i:Nat) (f:DEnv),i<=8->f.length=12->∃c,((bH (.nm 1) (.fz (.int i)) (some sc::f)).bind λρ1=>aW (wp 7) lB ρ1)=some (.nx,some sc::c)/\c.length=12:=by intro i f N o;obtain⟨U,p,g,o4,o5,o6,o7,o8,o9,o10,o11,o12,rfl⟩:=Gp o;obtain⟨a,b,H,t⟩:=yR (n:=5) (ns:=ns) N;obtain⟨rs,y,C,B,w,A,u,O⟩:=yS (n:=4) (a:=a) t (aaE _);have G:(wp 7).call=pl.pg.call 7:=rfl;rw[show 5+2=7 from rfl,<-G,<-j]at H;rw[show 4+3=7 from rfl,<-G]at w;obtain⟨c,M,D⟩:=r9 (sc:=sc) (k:=It i) (a:=y) (o4:=o4) (o5:=o5) (o6:=o6) (o7:=o7) (o8:=o8) (o9:=o9) (o10:=o10) (o11:=o11) (o12:=o12) A u.1 u.2 O (by decide);have J:dN (wp 7) eap [some sc,sw i,p,g,o4,o5,o6,o7,o8,o9,o10,o11,o12]=some (.nx,[some sc,sw i,sB a b 0,g,o4,o5,o6,o7,o8,o9,o10,o11,o12]):=aj (ρ2:=[some sc,sw i,p,g,o4,o5,o6,o7,o8,o9,o10,o11,o12]) (ag (rs:=[.val sc,.val (It i)]) (ρ1:=[some sc,sw i,p,g,o4,o5,o6,o7,o8,o9,o10,o11,o12]) (ρ2:=[some sc,sw i,p,g,o4,o5,o6,o7,o8,o9,o10,o11,o12]) (ρ3:=[some sc,sw i,p,g,o4,o5,o6,o7,o8,o9,o10,o11,o12]) (by rw[j];rfl) (by rw[j];rfl) H rfl) rfl rfl rfl;have T:dN (wp 7) ea4 [some sc,sw i,sB a b 0,g,o4,o5,o6,o7,o8,o9,o10,o11,o12]=some (.nx,[some sc,sw i,sB y C B,sK rs,o4,o5,o6,o7,o8,o9,o10,o11,o12]):=aj (ρ2:=[some sc,sw i,sB y C B,g,o4,o5,o6,o7,o8,o9,o10,o11,o12]) (z:=Rs rs) (ag (ρ3:=[some sc,sw i,sB y C B,g,o4,o5,o6,o7,o8,o9,o10,o11,o12]) rfl rfl w rfl) rfl rfl rfl;exact⟨c,bs (x:=[some sc,sw i,p,g,o4,o5,o6,o7,o8,o9,o10,o11,o12]) rfl (ab J (ab T M)),D⟩
 have s:∀(m i:Nat) (f:DEnv),i+m<=9->f.length=12->∃c,bS (λd c=>(bH (.nm 1) (.fz d) c).bind λρ1=>aW (wp 7) lB ρ1) (bY i m) (some sc::f)=some (.nx,some sc::c):=by
  intro m;induction m with
  |zero=>intro i f _ _;exact⟨f,rfl⟩
  |succ m Q=>intro i f h o;obtain⟨ρ1,w,L⟩:=v i f (by omega) o;obtain⟨ρ2,I⟩:=Q (i+1) ρ1 (by omega) L;rw[eY];exact⟨ρ2,bs w I⟩
 obtain⟨l,r⟩:∃l:Int,l=if (ns.length:Int)<8 then (ns.length:Int) else 8:=⟨_,rfl⟩
 have X:0<=l/\l<=8:=by rw[r];split<;>omega
 obtain⟨c,e⟩:=s (1+l).toNat 0 [none,none,none,none,none,none,none,none,none,none,none,none] (by omega) rfl;rw[j]at e;have q:ev (wp 7) eam [some (.fz (.list (ns.map PyData.int))),none,none,none,none,none,none,none,none,none,none,none,none]=some (.val (It l),[some (.fz (.list (ns.map PyData.int))),none,none,none,none,none,none,none,none,none,none,none,none]):=bK (aa rfl (aa (bK rfl rfl blen) ai)) rfl (by rw[r];rfl);exact⟨_,ar (fn:=F_law) rfl rfl (ab (ik (gA (n:=1+l) (af rfl q rfl rfl rfl) rfl (by omega)) e) (ao (ae rfl rfl))) rfl⟩
set_option maxHeartbeats 0
def lm:Str:="law_nearpool_k11_rows_seen_again"
open PySem.W in
def vi(n:Int):Value:=.int n 0
def vr(a:Addr):Value:=.ref a
def vs(x:Str)(t:Nat):Value:=.str x t
def nt(P:Params)(k:Str)(t:Nat)(v:Value):DictEntry:=⟨PyData.keyHash P k,.str k t,v⟩
def fo(d:Df)(m:Str)(t c:Nat):Obj:=⟨.type "function",none,.func (PySem.W.fnOf d.name d.qual (bW d.st) (bo d.st) (aD d.st) .none .none .none (.str m t) none (.ref c) .none),List.toArray []⟩
def cq(vs:List Value):Obj:=⟨.type "code",none,.fields (List.toArray vs),List.toArray []⟩
def cu(n q:Str)(t l a r T:Nat):Obj:=cq [vs n t,vs q (t+1),vs rc (t+2),vi l,vi a,vi 0,vi 0,vi 3,vr r,.bool true,vi 181,vr (r+1),.none,vr (r+2),vr (r+3),vr (r+4),vi T,vi l,vs rc (T+1)]
def cw(n q:Str)(t l a r T:Nat):Obj:=cq [vs n t,vs q (t+1),vs rc (t+2),vi l,vi a,vi 0,vi 0,vi 3,vr r,.bool true,vi 181,vr (r+1),.none,.none,.none,vr (r+2),vi T,vi l,vs rc (T+1)]
def dq(es:List DictEntry):Obj:=⟨.type "dict",none,.dict (List.toArray es) 0,List.toArray []⟩
def KK(P:Params):Waa:=[(3,⟨(.type "dict"),none,(.dict (List.toArray [nt P "__name__" 165 (vs lm 318),nt P "__doc__" 166 .none,nt P "__package__" 167 .none,nt P "__loader__" 168 (.builtin "__main__.__loader__#opaque"),nt P "__spec__" 169 .none,nt P "__annotations__" 170 (vr 6),nt P "__builtins__" 171 (vr 4),nt P "__file__" 173 (vs rc 172),nt P "__cached__" 174 .none,nt P "REGISTERS" 190 (.int (5) 189),nt P "GREATEST_SMALL" 192 (.int (99) 191),nt P eH 199 (vr 21),nt P "STOP" 203 (.int (0) 202),nt P "SET" 205 (.int (1000) 204),nt P "SUM" 207 (.int (2000) 206),nt P "LESS" 209 (.int (3000) 208),nt P "TELL" 211 (.int (4000) 210),nt P "GREAT" 213 (.int (5000) 212),nt P "SHORT_GO" 215 (.int (6500) 214),nt P "LONG_GO" 217 (.int (7000) 216),nt P "OVER" 219 (.int (7001) 218),nt P "PAD" 221 (.int (7002) 220),nt P "POOL" 223 (.int (7100) 222),nt P "SHORT_NIL" 225 (.int (8100) 224),nt P "LONG_NIL" 227 (.int (9000) 226),nt P "SAME_PLACE" 229 (.int (5000) 228),nt P "FARTHEST_GO" 231 (.int (499) 230),nt P "FARTHEST_NIL" 233 (.int (99) 232),nt P "NILS_OF_ONE" 235 (.int (200) 234),nt P "MOST_WORDS" 237 (.int (100) 236),nt P "HALF_WORD" 239 (.int (10000) 238),nt P ga 249 (vr 28),nt P gl 262 (vr 35),nt P hF 272 (vr 42),nt P hY 283 (vr 49),nt P ii 291 (vr 56),nt P im 300 (vr 63),nt P jp 306 (vr 68),nt P kt 317 (vr 75),nt P lc 327 (vr 82),nt P lf 336 (vr 89),nt P ln 346 (vr 96),nt P lv 355 (vr 103),nt P lw 372 (vr 110),nt P na 378 (vr 115),nt P nb 385 (vr 122),nt P np 394 (vr 129),nt P pr 400 (vr 134),nt P pu 418 (vr 141),nt P ci 424 (vr 146)]) 50),List.toArray []⟩),
 (20,cu eH eH 193 4 1 15 197),
 (21,fo gG "nearpool.rows" 187 20),
 (27,cu ga ga 240 26 4 22 247),
 (28,fo dX ap 200 27),
 (34,cu gl gl 250 32 4 29 260),
 (35,fo fj ap 200 34),
 (41,cu hF hF 263 48 2 36 270),
 (42,fo fq ap 200 41),
 (48,cu hY hY 273 51 2 43 281),
 (49,fo gH ap 200 48),
 (55,cu ii ii 284 55 2 50 289),
 (56,fo fu ap 200 55),
 (62,cu im im 292 73 3 57 298),
 (63,fo gJ ap 200 62),
 (67,cw jp jp 301 83 2 64 304),
 (68,fo fv ap 200 67),
 (74,cu kt kt 307 90 2 69 315),
 (75,fo ip ap 200 74),
 (81,cu lc lc 320 104 2 76 325),
 (82,fo iq lm 318 81),
 (88,cu lf lf 328 106 2 83 334),
 (89,fo rE lm 318 88),
 (95,cu ln ln 337 109 2 90 344),
 (96,fo rG lm 318 95),
 (102,cu lv lv 347 118 1 97 353),
 (103,fo mP lm 318 102),
 (109,cu lw lw 356 122 1 104 370),
 (110,fo rH lm 318 109),
 (114,cw na na 373 138 2 111 376),
 (115,fo mQ lm 318 114),
 (121,cu nb nb 379 142 1 116 383),
 (122,fo dY lm 318 121),
 (128,cu np np 386 144 3 123 392),
 (129,fo rJ lm 318 128),
 (133,cw pr pr 395 146 2 130 398),
 (134,fo rK lm 318 133),
 (140,cu pu pu 401 158 4 135 416),
 (141,fo rL lm 318 140),
 (145,cw ci ci 419 173 1 142 422),
 (146,fo D_law lm 318 145)]
def qv:Program:=PySem.W.view PySem.Challenge.pw_nearpool_k11_rows_seen_again [1,2,3,5,6,7,8,9,10,11,12,13,14,15,16,17,18,19,20,21,22,23,24,25,26,27,28,29,30,31,33,34,35,36,37,38,39,40,41,42,43]
open PySem.W PyProof.Rows in
theorem vj{p q:Program}{loose:List Str}{Xt:Shared->Bool}{c:Type}{Yf:Shared->c}{Ya:World->c}{N:Nat}{b:Bool}(e:opening p=plainProg p.main.scope.names)(i:Nat.ble 600 N=true)(f:∀s,fenceModules? p s=some s)
  (h:∀(w:World) (a:OsState),(topFrom treeTable p w N ⟨boot_heap w.params,Array.mk [],boot_drawn,boot_toks,a⟩).map (λs=>(openSeen q loose (importedModules p.main.body) Xt b s,Yf s))=some (openGood q loose,Ya w)):LeftO p q loose Xt Yf Ya N b:=λw=>by
 obtain⟨⟨j,m,d,k,a⟩,l,g⟩:=aaJ.mp (boot_open e i f w);obtain⟨rfl,rfl,rfl,rfl⟩:j=boot_heap w.params/\m=Array.mk []/\d=boot_drawn/\k=boot_toks:=by simpa using g
 unfold openEnds;rw[l];exact h w a
def hk:PySem.W.Hook:=PySem.W.kHook KK [3,20,21,27,28,34,35,41,42,48,49,55,56,62,63,67,68,74,75,81,82,88,89,95,96,102,103,109,110,114,115,121,122,128,129,133,134,140,141,145,146] (λ_=>by kernel_rfl)
abbrev xt(s:Shared):Bool:=PySem.W.xlAt qv [] s&&PySem.W.recOk (PySem.W.RowW.records (PySem.Challenge.rw_nearpool_k11_rows_seen_again).row.toRowW) s
theorem left:PySem.W.LeftO PySem.Challenge.pw_nearpool_k11_rows_seen_again qv [] xt (PySem.W.Hook.obs hk) (PySem.W.Hook.val hk) 1802:=vj (by kernel_rfl) (by rfl) (λs=>by kernel_rfl) (λw a=>by kernel_rfl)
def dd:DefRec:=⟨ci,bW D_law.st,bo D_law.st,aD D_law.st,match D_law.st with|.FunctionDef _ _ _ _ _ _ _ _ _ p=>p|_=>⟨0,0,0,0⟩⟩
theorem said:(PySem.Challenge.rw_nearpool_k11_rows_seen_again).wellSaid=true:=by kernel_rfl
def se(K:Waa):L2.Sp:=λc H Q _=>∃(a:Addr) (b:List Int),c=[.ref a]/\SqL K H a (b.map V.int)/\b.length<=63/\∀d,Q (.bl true) d
def CH:Option (Option Value)->Bool
 |some none=>true
 |_=>false
def zi(f:Nat):Option (Option Value)->Bool
 |some (some (.ref g))=>g==f
 |_=>false
def EL:Option (Option Value)->Bool
 |some (some (.builtin s))=>decide (s="object.__setattr__")
 |_=>false
theorem sf{o:Option (Option Value)}(h:CH o=true):o=some none:=by
 unfold CH at h;split at h
 ·rfl
 ·cases h
theorem jn{f:Nat}{o:Option (Option Value)}(h:zi f o=true):o=some (some (.ref f)):=by
 unfold zi at h;split at h
 ·rw[beq_iff_eq.mp h]
 ·cases h
theorem y9{o:Option (Option Value)}(h:EL o=true):o=some (some (.builtin "object.__setattr__")):=by
 unfold EL at h;split at h
 ·rw[Daa h]
 ·cases h
open PySem.W in
def EM(K:Frag)(C:Addr):Bool:=plainGet K C Str.empty&&(hasDictIn K C&&(plainOver K C&&EL (findIn K (.ref C) "__setattr__")))
theorem si{K:Waa}{C:Addr}(h:EM K C=true):Cls K C:=by obtain⟨b,h⟩:=an2 h;obtain⟨c,h⟩:=an2 h;obtain⟨a,h⟩:=an2 h;exact⟨b,c,a,y9 h⟩
open PySem.W in
def Gq(K:Frag)(d:Df)(f c:Nat):Kd->Bool
 |.fn=>codeIn K (.ref c) d.qual&&(keepIn K (.ref f)&&zi f (nsIn K mainGlobals d.name))
 |.me x=>codeIn K (.ref c) d.qual&&(keepIn K (.ref f)&&(EM K (aI K x)&&(zi f (findIn K (.ref (aI K x)) d.name)&&isFn K (.ref f))))
 |.ini x=>codeIn K (.ref c) d.qual&&(keepIn K (.ref f)&&(makesIn K (aI K x)&&(zi f (findIn K (.ref (aI K x)) "__init__")&&(isFn K (.ref f)&&(keepIn K (.ref (aI K x))&&zi (aI K x) (nsIn K mainGlobals x))))))
theorem fk{K:Waa}{h:Heap}{n:Str->Option Value}(X:K.In h)(G:h.Ns mainGlobals n){d:Df}{i:Kd}(m:Str)(t c f:Nat)(l:K.lookup f=some (fo d m t c))(q:Gq K d f c i=true)
  (b:∀us:List Value,us.length=d.ps.length->bindArgs (PySem.W.fnOf d.name d.qual (bW d.st) (bo d.st) (aD d.st) .none .none .none (.str m t) none (.ref c) .none) ⟨us,[]⟩=Pure.pure (d.ps.zip us)):vT K n (d,i):=by
 cases i with
 |fn=>obtain⟨g,q⟩:=an2 q;obtain⟨a,e⟩:=an2 q;exact⟨f,_,iE l g a,.all b,abA X G (jn e),a⟩
 |me x=>obtain⟨g,q⟩:=an2 q;obtain⟨a,q⟩:=an2 q;obtain⟨e,q⟩:=an2 q;obtain⟨k,j⟩:=an2 q;exact⟨f,_,iE l g a,.all b,si e,jn k,j,a⟩
 |ini x=>obtain⟨g,q⟩:=an2 q;obtain⟨a,q⟩:=an2 q;obtain⟨e,q⟩:=an2 q;obtain⟨k,q⟩:=an2 q;obtain⟨j,q⟩:=an2 q;obtain⟨o,p⟩:=an2 q;exact⟨f,_,iE l g a,.all b,⟨e,jn k,j,o⟩,abA X G (jn p)⟩
theorem fm{a:Type}{P:a->Prop}{x:a}{l:List a}(h:P x)(k:∀y∈l,P y):∀y∈x::l,P y:=List.forall_mem_cons.mpr ⟨h,k⟩
theorem fC{K:Waa}{h:Heap}{a:Str->Option Value}(X:K.In h)(G:h.Ns mainGlobals a){x:Str}{k:Int}(t:Nat)(e:PySem.W.nsIn K mainGlobals x=some (some (.int k t))):∃v u,a x=some u/\RelV v u/\∀S H,Fz K S H v (.int k):=⟨.int k,_,abA X G e,⟨_,rfl⟩,λ_ _=>.int _⟩
theorem b1{a:Type}{P:List a->Prop}(h:∀a0,P [a0])(l:List a)(e:l.length=1):P l:=by
 match l,e with
 |[a0],_=>exact h a0
theorem b2{b:Type}{P:List b->Prop}(h:∀a0 a,P [a0,a])(l:List b)(e:l.length=2):P l:=by
 match l,e with
 |[a0,a],_=>exact h a0 a
theorem b3{c:Type}{P:List c->Prop}(h:∀a0 b a,P [a0,b,a])(l:List c)(e:l.length=3):P l:=by
 match l,e with
 |[a0,b,a],_=>exact h a0 b a
theorem b4{d:Type}{P:List d->Prop}(h:∀a0 c a b,P [a0,c,a,b])(l:List d)(e:l.length=4):P l:=by
 match l,e with
 |[a0,c,a,b],_=>exact h a0 c a b
theorem gives{w:World}{b:Str->Option Value}{fa:Addr}{h:Heap} (X:(KK w.params).In h) (G:h.Ns mainGlobals b) (c:b ci=some (.ref fa)):
  ∃f:FuncData,(∀(s:Shared) (v:Value),BindsTo s f ⟨[v],[]⟩ [(bn,v)])/\∀a:Heap,(KK w.params).In a->a.Ns mainGlobals b->FnOk (PySem.Challenge.rw_nearpool_k11_rows_seen_again).prog w (KK w.params) b a CX0 9 fa f [bn] (se (KK w.params)):=by
 have M:Md (KK w.params) b pl.tb pl.pg pl.D:=Pl.md BZ (fm (fk X G "nearpool.rows" 187 20 21 (by kernel_rfl) (by kernel_rfl) (b1 λ_=>rfl))
  (fm (fk X G ap 200 27 28 (by kernel_rfl) (by kernel_rfl) (b4 λ_ _ _ _=>rfl))
  (fm (fk X G ap 200 34 35 (by kernel_rfl) (by kernel_rfl) (b4 λ_ _ _ _=>rfl))
  (fm (fk X G ap 200 41 42 (by kernel_rfl) (by kernel_rfl) (b2 λ_ _=>rfl))
  (fm (fk X G ap 200 48 49 (by kernel_rfl) (by kernel_rfl) (b2 λ_ _=>rfl))
  (fm (fk X G ap 200 55 56 (by kernel_rfl) (by kernel_rfl) (b2 λ_ _=>rfl))
  (fm (fk X G ap 200 62 63 (by kernel_rfl) (by kernel_rfl) (b3 λ_ _ _=>rfl))
  (fm (fk X G ap 200 67 68 (by kernel_rfl) (by kernel_rfl) (b2 λ_ _=>rfl))
  (fm (fk X G ap 200 74 75 (by kernel_rfl) (by kernel_rfl) (b2 λ_ _=>rfl))
  (fm (fk X G lm 318 81 82 (by kernel_rfl) (by kernel_rfl) (b2 λ_ _=>rfl))
  (fm (fk X G lm 318 88 89 (by kernel_rfl) (by kernel_rfl) (b2 λ_ _=>rfl))
  (fm (fk X G lm 318 95 96 (by kernel_rfl) (by kernel_rfl) (b2 λ_ _=>rfl))
  (fm (fk X G lm 318 102 103 (by kernel_rfl) (by kernel_rfl) (b1 λ_=>rfl))
  (fm (fk X G lm 318 109 110 (by kernel_rfl) (by kernel_rfl) (b1 λ_=>rfl))
  (fm (fk X G lm 318 114 115 (by kernel_rfl) (by kernel_rfl) (b2 λ_ _=>rfl))
  (fm (fk X G lm 318 121 122 (by kernel_rfl) (by kernel_rfl) (b1 λ_=>rfl))
  (fm (fk X G lm 318 128 129 (by kernel_rfl) (by kernel_rfl) (b3 λ_ _ _=>rfl))
  (fm (fk X G lm 318 133 134 (by kernel_rfl) (by kernel_rfl) (b2 λ_ _=>rfl))
  (fm (fk X G lm 318 140 141 (by kernel_rfl) (by kernel_rfl) (b4 λ_ _ _ _=>rfl))
  (fm (fk X G lm 318 145 146 (by kernel_rfl) (by kernel_rfl) (b1 λ_=>rfl))
  (λ_ h=>by cases h))))))))))))))))))))) (fm (fC X G 230 (by kernel_rfl))
  (fm (fC X G 232 (by kernel_rfl))
  (fm (fC X G 212 (by kernel_rfl))
  (fm (fC X G 191 (by kernel_rfl))
  (fm (fC X G 238 (by kernel_rfl))
  (fm (fC X G 208 (by kernel_rfl))
  (fm (fC X G 216 (by kernel_rfl))
  (fm (fC X G 226 (by kernel_rfl))
  (fm (fC X G 236 (by kernel_rfl))
  (fm (fC X G 234 (by kernel_rfl))
  (fm (fC X G 218 (by kernel_rfl))
  (fm (fC X G 220 (by kernel_rfl))
  (fm (fC X G 222 (by kernel_rfl))
  (fm (fC X G 189 (by kernel_rfl))
  (fm (fC X G 228 (by kernel_rfl))
  (fm (fC X G 204 (by kernel_rfl))
  (fm (fC X G 214 (by kernel_rfl))
  (fm (fC X G 224 (by kernel_rfl))
  (fm (fC X G 202 (by kernel_rfl))
  (fm (fC X G 206 (by kernel_rfl))
  (fm (fC X G 210 (by kernel_rfl))
  (λ_ h=>by cases h))))))))))))))))))))))
  (λx g=>PySem.W.mg_none_of X G (sf (abf.mp (by kernel_rfl:(pl.nog.all λx=>CH (PySem.W.nsIn (KK w.params) mainGlobals x))=true) x g)))
  (λz i=>have q:=an2 (abf.mp (by kernel_rfl:(pl.fld.all λz=>EM (KK w.params) (aI (KK w.params) z.1)&&CH (PySem.W.findIn (KK w.params) (.ref (aI (KK w.params) z.1)) z.2))=true) z i);⟨si q.1,sf q.2⟩)
 have e:=c.symm.trans (abA X G (by kernel_rfl:PySem.W.nsIn (KK w.params) mainGlobals ci=some (some (.ref 146))));cases e;have F:Fun (KK w.params) D_law.name D_law.qual D_law.st 146 _:=iE (by kernel_rfl:(KK w.params).lookup 146=some (fo D_law lm 318 145)) (by kernel_rfl) (by kernel_rfl);exact⟨_,λs v=>.of_eq rfl,λa _ _=>M.law (n:=8) (j:=BY) (d:=D_law) rfl F pure⟩
theorem walk{l:PySem.W.OpenLaw}{q:Program}{loose:List Str}{XP:(Str->Option Value)->Heap->Prop}{YP:World->Heap->Prop}{d:DefRec}{K:Params->Waa}(i:l.most=some 63)(e:d.params.defaults=[])
  (m:∀(w:World) (h:Heap),YP w h->(K w.params).In h)
  (F:∀(w:World) (c:Str->Option Value) (fa:Addr) (h:Heap),(K w.params).In h->h.Ns mainGlobals c->c d.name=some (.ref fa) ->
   ∃g:FuncData,(∀(s:Shared) (u:Value),BindsTo s g ⟨[u],[]⟩ [(bn,u)])/\∀b:Heap,(K w.params).In b->b.Ns mainGlobals c->FnOk l.prog w (K w.params) c b CX0 9 fa g [bn] (se (K w.params))):
  PySem.W.WalkO q loose XP YP l.row.toRowW d [] (λf vs=>PySem.call f vs):=
 L2.walk_of (n:=63) (k:=9) (x:=bn) (CX:=λ_=>CX0) (sp:=λw=>se (K w.params)) i (by decide) e ⟨rfl,by decide,by decide,rfl⟩ m F (λ_ _ a o j _ p=>⟨a,o,rfl,p,j,λ_=>rfl⟩) λ_ _ _ _ _ z=>z
end Np
open PySem PySem.W PyProof.Rows
set_option maxRecDepth 100000 in
set_option maxHeartbeats 0 in
theorem PySem.Challenge.cw_nearpool_k11_rows_seen_again_holds : PySem.Challenge.rw_nearpool_k11_rows_seen_again.Holds := by
 w_on
 refine holds_law Np.said λa=>?_;refine holds_open (q:=Np.qv) (loose:=[]) (Xt:=Np.xt) (XP:=XL Np.qv []) (Yf:=Hook.obs Np.hk) (Ya:=Hook.val Np.hk) (YP:=Hook.says Np.hk) (N:=1802) (d:=Np.dd) (kwd:=[]) Np.left (Hook.of Np.hk) (Hook.keeps Np.hk) (λs e=>xl_of s (aby.mp e).1) XL.keeps (by kernel_rfl) (by kernel_rfl) (by kernel_rfl) (λs e=>recFacts_of (aby.mp e).2) (by rfl) a (by kernel_rfl) ⟨rfl,rfl,rfl,rfl,rfl,by decide +kernel⟩ ?hw ?hc
 case hw=>w_witness2
 case hc=>exact Np.walk (l:=PySem.Challenge.rw_nearpool_k11_rows_seen_again) (K:=Np.KK) (d:=Np.dd) rfl (by kernel_rfl) (λw h Y=>kIn_of Y) (λw g f h c G b=>Np.gives c G b)
