import PyProof.Rows.All
import Wide.All
import OpenK.AllK
import Wide.FinOn
import Lean
import PyProof.EqAt
import PyProof.EqKinds
import PyProof.TupleCall
import PyProof.Draws
import PyProof.ZipIter
import PyProof.Rows.ListRangeD
import PyProof.EnumFor
import PyProof.EnumStmt
import PyProof.EnumMake
import PyProof.AutoListH
import PyProof.RangeFor
import PyProof.Rows.Range3
import KE.KUnpack
import PyProof.ReprRoads
import PyProof.ReprLen
import PyProof.FitsInt
import PyProof.DictCompW
import PyProof.SumWalk
import PySem.Challenge.RW_nearpool_k20_rows_that_need_pools
set_option compiler.extract_closed false
set_option genSizeOf false
set_option Elab.async false
set_option linter.all false
set_option maxRecDepth 100000
noncomputable section
abbrev WF:=PySem.W.Frag
def aaa:=@List.length_map
def aab:=@List.mem_append_right
def aac:=@List.mem_cons
def aad:=@List.mem_append_left
def aae:=@Bool.false_ne_true
def aaf:=@Nat.le_refl
def aag:=@List.mem_cons_of_mem
def aah:=@List.append_assoc
def aai:=@List.mem_append
def aaj:=@List.mem_cons_self
def aak:=@List.not_mem_nil
def aal:=@List.map_cons
def aam:=@List.length_append
def aan:=@Nat.le_trans
def aao:=@Nat.ne_of_lt
def aap:=@List.length_cons
def aaq:=@List.append_nil
def aar:=@List.getElem?_eq_getElem
def aas:=@List.getElem?_eq_some_iff
def aat:=@List.mem_singleton
def aau:=@List.getElem?_map
def aav:=@List.perm_middle
def aaw:=@List.size_toArray
def aax:=@List.map_append
def aay:=@Nat.lt_of_lt_of_le
def aaz:=@List.nodup_cons
def aaA:=@Option.some.inj
def aaB:=@Bool.and_eq_true
def aaC:=@List.nodup_append
def aaD:=@List.set_cons_succ
def aaE:=@List.length_singleton
def aaF:=@Ne.symm
def aaG:=@List.map_nil
def aaH:=@Option.map_eq_some_iff
def aaI:=@List.cons_append
def aaJ:=@Option.bind_eq_some_iff
def aaK:=@Nat.zero_add
def aaL:=@List.length_nil
def aaM:=@Nat.zero_le
def aaN:=@List.mem_map
def aaO:=@List.any_cons
def aaP:=@List.nil_append
def aaQ:=@Nat.le_of_lt
def aaR:=@List.lookup_cons
def aaS:=@List.find?_cons
def aaT:=@List.perm_append_comm
def aaU:=@List.all_eq_true
def aaV:=@Nat.lt_irrefl
def aaW:=@List.getElem?_set_self
def aaX:=@List.getElem?_set_ne
def aaY:=@Nat.ne_of_gt
def aaZ:=@Nat.lt_succ_self
def aa0:=@List.length_take
def aa1:=@PySem.mem_of_lookup
def aa2:=@List.Perm.append_left
def aa3:=@List.map_map
def aa4:=@Nat.add_le_add_left
def aa5:=@Int.le_refl
def aa6:=@Option.isSome_iff_exists
def aa7:=@Nat.le_add_right
def aa8:=@List.nodup_nil
def aa9:=@List.replicate_succ
def aba:=@Bool.or_eq_true
def abb:=@Nat.mul_le_mul_left
def abc:=@List.getElem?_append_left
def abd:=@Nat.lt_succ_of_lt
def abe:=@List.findIdx?_cons
def abf:=@Int.emod_nonneg
def abg:=@Int.emod_lt_of_pos
def abh:=@List.getElem?_concat_length
def abi:=@List.eq_nil_or_concat
def abj:=@List.concat_eq_append
def abk:=@List.set_comm
def abl:=@PyProof.Rows.callWith_type1
def abm:=@Bool.eq_iff_iff
def abn:=@Nat.le_succ
def abo:=@List.getElem?_append_right
def abp:=@List.mem_of_getElem?
def abq:=@List.length_replicate
def abr:=@List.length_drop
def abt:=@List.all_cons
def abu:=@Nat.lt_trans
def abv:=@Int.toNat_natCast
def abw:=@Option.getD_some
def abx:=@List.zip_cons_cons
def aby:=@Bool.and_eq_true_iff
def abz:=@Bool.not_eq_true'
def abA:=@Nat.blt_eq
def abB:=@List.length_filter_le
def abC:=@List.countP_cons
def abD:=@List.getLast?_append
def abE:=@PySem.W.mg_of
def abF:=@List.filterMap_cons
def abG:=@Array.length_toList
def abH:=@PySem.W.plainGet_of
def abI:=@PySem.W.callWith_K
def abJ:=@List.of_mem_zip
def abK:=@List.length_set
def abL:=@List.forIn_cons
def abM:=@Bool.false_or
def abN:=@Option.isSome_map
def abO:=@List.set_cons_zero
def abP:=@List.perm_append_comm_assoc
def abQ:=@Bool.or_eq_false_iff
def abR:=@List.getElem_mem
def abS:=@List.take_length
def abT:=@List.drop_length
def abU:=@List.Sublist.refl
def abV:=@PySem.F.plainAttrs_list
def abW:=@PySem.F.slot_list_append
def abX:=@PySem.F.type_list_append
def abY:=@List.any_eq_true
def abZ:=@Nat.add_le_add_right
def ab0:=@Nat.le.intro
def ab1:=@Nat.add_right_comm
def ab2:=@List.filter_cons_of_neg
def ab3:=@Option.map_some
def ab4:=@Bool.true_and
def ab5:=@List.length_zipWith
def ab6:=@PySem.W.methodCall_KW
def ab7:=@PySem.W.cellsFrom_some
def ab8:=@List.getElem?_replicate
def ab9:=@Nat.add_sub_cancel_left
def aca:=@Nat.add_left_cancel
def acb:=@List.Perm.append_right
def acd:=@List.zip_eq_zipWith
def ace:=@List.getD_eq_getElem?_getD
def acf:=@Classical.axiomOfChoice
def acg:=@Classical.choose_spec
def ach:=@List.drop_eq_getElem_cons
def aci:=@List.map_congr_left
def acj:=@Nat.le_of_ble_eq_true
def ack:=@Int.le_add_of_nonneg_right
def acl:=@List.filter_cons_of_pos
def acm:=@List.getElem?_cons_succ
def acn:=@List.getElem?_eq_none
def aco:=@List.countP_le_length
def acp:=@List.pairwise_singleton
def acq:=@List.pairwise_append
namespace L2
open PySem PySem.Spec PyProof.Rows
section
abbrev Key:=Sum Int Str
def keyIs:Key->Value->Bool
 | .inl k,v=>Value.isInt k v
 | .inr x,v=>Value.isStrOf x v
def keyH(w:World):Key->Int
 | .inl k=>hashInt k
 | .inr x=>hashStr w x
theorem aL:∀{k:Key} {v:Value},keyIs k v=true->(∃i t,k=Sum.inl i/\v=Value.int i t)\/(∃x t,k=Sum.inr x/\v=Value.str x t)
 | .inl i,v,h=>by
  obtain⟨t,e⟩:=Value.isInt_shape (k:=i) (v:=v) h
  exact .inl ⟨i,t,rfl,e⟩
 | .inr x,v,h=>by
  obtain⟨t,e⟩:=Value.isStrOf_shape (x:=x) (v:=v) h
  exact .inr ⟨x,t,rfl,e⟩
theorem oR(i:Int)(t:Tok):keyIs (.inl i) (.int i t)=true:=by simp[keyIs,Value.isInt]
theorem oS(x:Str)(t:Tok):keyIs (.inr x) (.str x t)=true:=by simp[keyIs,Value.isStrOf]
theorem xO(a b:Int):decide ((Sum.inl a:Key)=Sum.inl b)=(a == b):=by
 by_cases e:a=b
 ·subst e;simp
 ·have h:¬ (Sum.inl a:Key)=Sum.inl b:=fun q=>e (Sum.inl.inj q)
  rw[decide_eq_false h]
  exact (beq_eq_false_iff_ne.mpr e).symm
theorem xP(a b:Str):decide ((Sum.inr a:Key)=Sum.inr b)=decide (a=b):=by
 by_cases e:a=b
 ·subst e;simp
 ·have h:¬ (Sum.inr a:Key)=Sum.inr b:=fun q=>e (Sum.inr.inj q)
  rw[decide_eq_false h,decide_eq_false e]
theorem xQ(a:Int)(b:Str):decide ((Sum.inl a:Key)=Sum.inr b)=false:=decide_eq_false (fun q=>nomatch q)
theorem xR(a:Str)(b:Int):decide ((Sum.inr a:Key)=Sum.inl b)=false:=decide_eq_false (fun q=>nomatch q)
def aX(prog:Program)(w:World):PySem.KeyKind prog w Key where
 is:=keyIs
 hash:=keyH w
 inj:=fun v a b ha hb=>by
  rcases aL ha with ⟨i,t,rfl,rfl⟩ | ⟨x,t,rfl,rfl⟩
  ·rcases aL hb with ⟨j,u,rfl,e⟩ | ⟨y,u,rfl,e⟩
   ·injection e with e1 _;rw[e1]
   ·exact nomatch e
  ·rcases aL hb with ⟨j,u,rfl,e⟩ | ⟨y,u,rfl,e⟩
   ·exact nomatch e
   ·injection e with e1 _;rw[e1]
 byValue:=fun k v h=>by
  rcases aL h with ⟨i,t,rfl,rfl⟩ | ⟨x,t,rfl,rfl⟩<;>rfl
 pyHash:=fun hv h=>by
  rcases aL hv with ⟨i,t,rfl,rfl⟩ | ⟨x,t,rfl,rfl⟩
  ·exact wpAny_pyHash_int h
  ·exact wpAny_pyHash_str h
 eqBool:=fun hu hv h=>by
  rcases aL hu with ⟨i,t,rfl,rfl⟩ | ⟨x,t,rfl,rfl⟩
  ·rcases aL hv with ⟨j,u,rfl,rfl⟩ | ⟨y,u,rfl,rfl⟩
   ·rw[xO]at h;exact wpAny_eqBool_int h
   ·rw[xQ]at h;exact SeqAt.EqAt.int_str i t y u _ _ _ _ h
  ·rcases aL hv with ⟨j,u,rfl,rfl⟩ | ⟨y,u,rfl,rfl⟩
   ·rw[xR]at h;exact SeqAt.EqAt.str_int x t j u _ _ _ _ h
   ·rw[xP]at h;exact wpAny_eqBool_str h
 «strs»:=fun k x t v h=>by
  rcases aL h with ⟨i,u,rfl,e⟩ | ⟨y,u,rfl,e⟩
  ·exact nomatch e
  ·injection e with e1 _
   subst e1
   cases v<;>rfl
theorem j7(prog:Program)(w:World)(i:Int)(t:Tok):(aX prog w).is (.inl i) (.int i t)=true:=oR i t
theorem mixKind_str(prog:Program)(w:World)(x:Str)(t:Tok):(aX prog w).is (.inr x) (.str x t)=true:=oS x t
end
section
inductive V where
 | non | bl (b:Bool) | int (i:Int) | str (x:Str) | byt (b:Array UInt8) | flt (b:UInt64) | ref (a:Addr) | ty (n:String)
 deriving DecidableEq
def RelV:V->Value->Prop
 | .non,u=>u=Value.none
 | .bl b,u=>u=Value.bool b
 | .int i,u=>∃t,u=Value.int i t
 | .str x,u=>∃t,u=Value.str x t
 | .byt b,u=>∃t,u=Value.bytes b t
 | .flt b,u=>∃t,u=Value.float b t
 | .ref a,u=>u=Value.ref a
 | .ty n,u=>u=Value.type n
abbrev Vals:List V->List Value->Prop:=Paired RelV
theorem Vals.length{xs:List V}{us:List Value}(r:Vals xs us):xs.length=us.length:=Paired.length r
theorem Vals.get:∀{xs:List V} {us:List Value} {i:Nat} {x:V},Vals xs us->xs[i]?=some x->∃u,us[i]?=some u/\RelV x u
 | _,_,_,_,.nil,e=>by simp at e
 | _,_,0,_,.cons r _,e=>by simp at e;subst e;exact⟨_,rfl,r⟩
 | _,_,i + 1,x,.cons _ t,e=>by
  obtain⟨u,h1,h2⟩:=Vals.get (i:=i) (x:=x) t (by simpa using e)
  exact⟨u,by simpa using h1,h2⟩
theorem Vals.set{x:V}{u:Value}(r:RelV x u):∀{xs:List V} {us:List Value} (i:Nat),Vals xs us->Vals (xs.set i x) (us.set i u)
 | _,_,_,.nil=>.nil
 | _,_,0,.cons _ t=>.cons r t
 | _,_,i + 1,.cons q t=>.cons q (Vals.set r i t)
theorem Vals.append:∀{xs ys:List V} {us ws:List Value},Vals xs us->Vals ys ws->Vals (xs++ys) (us++ws)
 | _,_,_,_,.nil,s=>s
 | _,_,_,_,.cons r t,s=>.cons r (Vals.append t s)
theorem Vals.take:∀{xs:List V} {us:List Value} (n:Nat),Vals xs us->Vals (xs.take n) (us.take n)
 | _,_,0,_=>.nil
 | _,_,_ + 1,.nil=>.nil
 | _,_,n + 1,.cons r t=>.cons r (Vals.take n t)
theorem Vals.drop:∀{xs:List V} {us:List Value} (n:Nat),Vals xs us->Vals (xs.drop n) (us.drop n)
 | _,_,0,r=>r
 | _,_,_ + 1,.nil=>.nil
 | _,_,n + 1,.cons _ t=>Vals.drop n t
def RelO:Option V->Option Value->Prop
 | some v,some u=>RelV v u
 | none,none=>True
 | _,_=>False
def KV{κ:Type}:List (κ × V)->List (κ × Value)->Prop:=Paired fun (p:κ × V) (q:κ × Value)=>p.1=q.1/\RelV p.2 q.2
def kV:Key->V
 | .inl i=>.int i
 | .inr x=>.str x
inductive HO where
 | lst (xs:List V)
 | tup (xs:List V)
 | dK (kvs:List (Key × V)) | dT (kvs:List (List Key × V))
 | set (S:Int->Bool) (n:Nat)
 | ins (C dx:Addr) (fs:List (Str × V))
 | own (x:Addr)
 | xd (fs:List (Str × V))
 | met (f x:Addr)
 | rng (lo hi:Int)
 | frz (o:Obj) (u:HO)
 | tbl (ps:Array Value)
 | ext (φ:Heap->Prop)
abbrev Hp:=Addr->Option HO
def upd(H:Hp)(a:Addr)(o:HO):Hp:=fun b=>if b=a then some o else H b
theorem ar{H:Hp}{a:Addr}{o:HO}:upd H a o a=some o:=by unfold upd;rw[if_pos rfl]
theorem upd_ne{H:Hp}{a b:Addr}{o:HO}(h:b≠a):upd H a o b=H b:=by unfold upd;rw[if_neg h]
theorem Aw{H:Hp}{a b:Addr}{o u:HO}(h:H a=some o)(h':H b=some u)(d:o≠u):a≠b:=by
 intro e;subst e;rw[h]at h';exact d (aaA h')
theorem ai{H:Hp}{a b:Addr}{o:HO}(h:H a=some o)(h':H b=none):a≠b:=by
 intro e;subst e;rw[h]at h';cases h'
section
variable(P:Program)(w:World)
def ObjOk(H:Hp)(h:Heap)(a:Addr):HO->Prop
 | .lst xs=>xs.length≤sizeLine/\∃(its:List Value) (n:Nat),Vals xs its/\h.get? a=some { cls:=.type "list",data:=.seq its.toArray n }
 | .tup xs=>xs.length≤sizeLine/\∃its:List Value,Vals xs its/\IsTup h a its.toArray
 | .dK kvs=>kvs.length≤sizeLine/\(a == sysModules)=false/\∃vs,KV kvs vs/\h.DictOf (aX P w) a vs
 | .dT kvs=>kvs.length≤sizeLine/\(a == sysModules)=false/\∃xs:List (List Key × Addr × Value),
   Paired (fun (p:List Key × V) (q:List Key × Addr × Value)=>p.1=q.1/\H q.2.1=some (.tup (p.1.map kV))/\RelV p.2 q.2.2) kvs xs /\
   ∃o es ep,h.get? a=some o/\o.ExactDict/\o.data=.dict es ep/\es.toList=xs.map (entryOfKey (tupleKind (aX P w)))/\(xs.map (·.1)).Nodup
 | .set S n=>h.SetOf (intKind P w) a S n
 | .ins C dx fs=>H dx=some (.own a)/\fs.length≤1000/\dx≠a/\h.get? a=some (PySem.W.instObj C dx) /\
   ∃mA,h.Ns1 dx mA/\(∀f,RelO (fs.lookup f) (mA f))/\PySem.Within mA (fs.map (·.1))
 | .own _=>∃o,h.get? a=some o
 | .xd fs=>∃mA,h.Ns1 a mA/\∀f,RelO (fs.lookup f) (mA f)
 | .rng lo hi=>∃t u v,h.get? a=some { cls:=.type "range",data:=.fields #[.int lo t,.int hi u,.int 1 v] }
 | .frz o u=>h.get? a=some o/\ObjOk H h a u
 | .tbl ps=>h.get? a=some { cls:=.none,data:=.fields ps }
 | .met f x=>h.get? a=some (PySem.W.methodObj (.ref f) (.ref x))
 | .ext φ=>φ h/\(∃o,h.get? a=some o)/\∀h1 h2:Heap,φ h1->(∀o,h1.get? a=some o->h2.get? a=some o)->φ h2
def HOk(H:Hp)(h:Heap):Prop:=∀a o,H a=some o->ObjOk P w H h a o
end
section
variable{P:Program}{w:World}{H H':Hp}{h h':Heap}{a:Addr}{o:HO}
theorem ObjOk.lt(x:ObjOk P w H h a o):a < h.objs.size:=by
 cases o with
 | lst xs=>obtain⟨_,_,_,_,e⟩:=x;exact Heap.lt_size e
 | tup xs=>obtain⟨_,_,_,p⟩:=x;exact p.lt
 | dK kvs=>obtain⟨_,_,_,_,o,_,_,e,_⟩:=x;exact Heap.lt_size e
 | dT kvs=>obtain⟨_,_,_,_,o,_,_,e,_⟩:=x;exact Heap.lt_size e
 | set S n=>obtain⟨o,_,_,_,e,_⟩:=x;exact Heap.lt_size e
 | ins C dx fs=>obtain⟨_,_,_,e,_⟩:=x;exact Heap.lt_size e
 | own y=>obtain⟨_,e⟩:=x;exact Heap.lt_size e
 | xd fs=>obtain⟨_,⟨_,_,_,e,_⟩,_⟩:=x;exact Heap.lt_size e
 | rng lo hi=>obtain⟨_,_,_,e⟩:=x;exact Heap.lt_size e
 | frz ob u=>obtain⟨e,_⟩:=x;exact Heap.lt_size e
 | tbl ps=>exact Heap.lt_size (show h.get? a=some _ from x)
 | met f y=>exact Heap.lt_size (show h.get? a=some _ from x)
 | ext φ=>obtain⟨_,⟨_,e⟩,_⟩:=x;exact Heap.lt_size e
theorem Paired.mapP{α β:Type}{F G:α->β->Prop}:∀{l₁:List α} {l₂:List β},Paired F l₁ l₂->(∀a b,F a b->G a b)->Paired G l₁ l₂
 | _,_,.nil,_=>.nil
 | _,_,.cons r t,f=>.cons (f _ _ r) (Paired.mapP t f)
theorem ObjOk.stay(x:ObjOk P w H h a o)(k:∀b u,(b=a\/H b=some (.own a))->h.get? b=some u->h'.get? b=some u)
  (ho:∀b,H b=some (.own a)->H' b=some (.own a)) (ht:∀b xs,H b=some (.tup xs)->H' b=some (.tup xs)):ObjOk P w H' h' a o:=by
 induction o with
 | lst xs=>obtain⟨z,its,n,r,e⟩:=x;exact⟨z,its,n,r,k _ _ (.inl rfl) e⟩
 | tup xs=>obtain⟨z,its,r,ob,e,c⟩:=x;exact⟨z,its,r,ob,k _ _ (.inl rfl) e,c⟩
 | dK kvs=>obtain⟨z,y,vs,r,ob,es,ep,e,c⟩:=x;exact⟨z,y,vs,r,ob,es,ep,k _ _ (.inl rfl) e,c⟩
 | dT kvs =>
  obtain⟨z,y,xs,r,ob,es,ep,e,c⟩:=x
  exact⟨z,y,xs,Paired.mapP r fun p q z=>⟨z.1,ht _ _ z.2.1,z.2.2⟩,ob,es,ep,k _ _ (.inl rfl) e,c⟩
 | set S n=>obtain⟨ob,es,ep,t,e,c⟩:=x;exact⟨ob,es,ep,t,k _ _ (.inl rfl) e,c⟩
 | ins C dx fs =>
  obtain⟨d,z,ne,e,mA,⟨od,es,ep,e2,c⟩,r⟩:=x
  exact⟨ho _ d,z,ne,k _ _ (.inl rfl) e,mA,⟨od,es,ep,k _ _ (.inr d) e2,c⟩,r⟩
 | own y=>obtain⟨ob,e⟩:=x;exact⟨ob,k _ _ (.inl rfl) e⟩
 | xd fs=>obtain⟨mA,⟨od,es,ep,e,c⟩,r⟩:=x;exact⟨mA,⟨od,es,ep,k _ _ (.inl rfl) e,c⟩,r⟩
 | rng lo hi=>obtain⟨t,u,v,e⟩:=x;exact⟨t,u,v,k _ _ (.inl rfl) e⟩
 | frz ob u ih=>obtain⟨e,q⟩:=x;exact⟨k _ _ (.inl rfl) e,ih q⟩
 | tbl ps =>
  have e:h.get? a=some { cls:=.none,data:=.fields ps }:=x
  show h'.get? a=some { cls:=.none,data:=.fields ps }
  exact k a _ (.inl rfl) e
 | met f y =>
  have e:h.get? a=some (PySem.W.methodObj (.ref f) (.ref y)):=x
  show h'.get? a=some (PySem.W.methodObj (.ref f) (.ref y))
  exact k a _ (.inl rfl) e
 | ext φ=>obtain⟨p,⟨o,e⟩,st⟩:=x;exact⟨st _ _ p fun o q=>k _ _ (.inl rfl) q,⟨o,k _ _ (.inl rfl) e⟩,st⟩
theorem HOk.lt(x:HOk P w H h)(e:H a=some o):a < h.objs.size:=(x a o e).lt
theorem HOk.fresh(x:HOk P w H h)(e:h.objs.size≤a):H a=none:=by
 cases q:H a with
 | none=>rfl
 | some u=>exact absurd (aay (x.lt q) e) (aaV _)
theorem HOk.kept(x:HOk P w H h)(k:∀b u,h.get? b=some u->h'.get? b=some u):HOk P w H h':=fun a o e =>
 (x a o e).stay (fun b u _ q=>k b u q) (fun _ q=>q) fun _ _ q=>q
theorem HOk.laid(x:HOk P w H h)(k:∀b u,h.get? b=some u->h'.get? b=some u)(hp:h.objs.size≤a)(new:ObjOk P w (upd H a o) h' a o):HOk P w (upd H a o) h':=fun b u e=>by
 have hn:=x.fresh hp
 by_cases hb:b=a
 ·subst hb;rw[ar]at e;cases e;exact new
 ·rw[upd_ne hb]at e
  exact (x b u e).stay (fun c v _ q=>k c v q) (fun c q=>by rw[upd_ne (ai q hn)];exact q) fun c xs q=>by rw[upd_ne (ai q hn)];exact q
end
def Rd(H:Hp)(a:Addr)(u:HO):Prop:=H a=some u\/∃o,H a=some (.frz o u)
theorem Rd.ok{P:Program}{w:World}{H:Hp}{h:Heap}{a:Addr}{u:HO}(r:Rd H a u)(x:HOk P w H h):ObjOk P w H h a u:=by
 rcases r with r | ⟨o,r⟩
 ·exact x a u r
 ·obtain⟨_,q⟩:=x a _ r
  exact q
def Ax:Option HO->Prop
 | some (.lst _)=>True
 | some (.dK _)=>True
 | some (.dT _)=>True
 | some (.set _ _)=>True
 | some (.ins _ _ _)=>True
 | some (.ext _)=>True
 | _=>False
section
variable{P:Program}{w:World}{H:Hp}{h h':Heap}{x e:Addr}{o':HO}
theorem HOk.write(ok:HOk P w H h)(mu:Ax (H x))(he:e=x\/H e=some (.own x))(k:∀b u,b≠e->h.get? b=some u->h'.get? b=some u)(heo:∃u,h'.get? e=some u)
  (new:ObjOk P w (upd H x o') h' x o'):HOk P w (upd H x o') h':=fun b u q=>by
 have nown:∀c y,H c=some (.own y)->c≠x:=fun c y r z=>by subst z;rw[r]at mu;exact mu
 have ntup:∀c xs,H c=some (.tup xs)->c≠x:=fun c xs r z=>by subst z;rw[r]at mu;exact mu
 by_cases hb:b=x
 ·subst hb;rw[ar]at q;cases q;exact new
 ·rw[upd_ne hb]at q
  by_cases hbe:b=e
  ·have q':H b=some (.own x):=by
    rcases he with z | z
    ·exact absurd (hbe.trans z) hb
    ·rw[hbe];exact z
   rw[q]at q';cases q'
   obtain⟨v,hv⟩:=heo
   exact⟨v,by rw[hbe];exact hv⟩
  ·refine (ok b u q).stay (fun c v hc r=>k c v ?_ r) (fun c r=>by rw[upd_ne (nown c b r)];exact r) fun c xs r=>by rw[upd_ne (ntup c xs r)];exact r
   rcases hc with rfl | hc
   ·exact hbe
   ·rintro rfl
    rcases he with z | z
    ·exact nown c b hc z
    ·rw[hc]at z;cases z;exact hb rfl
end
structure Un (fs ex:List Addr)(H H':Hp)(h h':Heap):Prop where
 keep:∀b o,h.get? b=some o->H b=none->b ∉ fs->b ∉ ex->h'.get? b=some o
 slot:∀b o,h.get? b=some o->H b=none->b∈fs->b ∉ ex->∃sl,h'.get? b=some { o with slots:=sl }
 free:∀b o,h.get? b=some o->H b=none->b ∉ ex->H' b=none
 there:∀b o,h.get? b=some o->b ∉ ex->∃o',h'.get? b=some o'
 tups:∀b xs,H b=some (.tup xs)->H' b=some (.tup xs)
 frzs:∀b o u,H b=some (.frz o u)->H' b=some (.frz o u)
 tbls:∀b ps,H b=some (.tbl ps)->∃more,H' b=some (.tbl (ps++more))
section
variable{fs fs' ex ex':List Addr}{H H1 H2:Hp}{h h1 h2 h':Heap}{a x e:Addr}{o:HO}
theorem Un.any(u:Un fs ex H H1 h h1){b:Addr}{ob:Obj}(q:h.get? b=some ob)(n:H b=none)(hx:b ∉ ex):∃sl,h1.get? b=some { ob with slots:=sl }:=by
 by_cases hb:b∈fs
 ·exact u.slot b ob q n hb hx
 ·exact⟨ob.slots,u.keep b ob q n hb hx⟩
theorem Un.kept(k:∀b u,h.get? b=some u->h'.get? b=some u):Un fs ex H H h h' :=
 ⟨fun b ob q _ _ _=>k b ob q,fun b ob q _ _ _=>⟨ob.slots,k b ob q⟩,fun _ _ _ n _=>n,fun b ob q _=>⟨ob,k b ob q⟩,fun _ _ q=>q,fun _ _ _ q=>q,fun _ ps q=>⟨#[],by rw[q];simp⟩⟩
theorem Un.refl:Un fs ex H H h h:=Un.kept fun _ _ q=>q
theorem Un.laid(k:∀b u,h.get? b=some u->h'.get? b=some u)(hp:h.objs.size≤a)(hn:H a=none):Un fs ex H (upd H a o) h h' where
 keep:=fun b u q _ _ _=>k b u q
 slot:=fun b u q _ _ _=>⟨u.slots,k b u q⟩
 free:=fun b u q n _=>by rw[upd_ne (aao (aay (Heap.lt_size q) hp))];exact n
 there:=fun b u q _=>⟨u,k b u q⟩
 tups:=fun b xs q=>by rw[upd_ne (ai q hn)];exact q
 frzs:=fun b u xs q=>by rw[upd_ne (ai q hn)];exact q
 tbls:=fun b ps q=>⟨#[],by rw[upd_ne (ai q hn),q];simp⟩
theorem Un.write(mu:Ax (H x))(he:e=x\/H e=some (.own x))(k:∀b u,b≠e->h.get? b=some u->h'.get? b=some u)(heo:∃u,h'.get? e=some u):Un fs ex H (upd H x o) h h':=by
 have hx:∀b,H b=none->b≠x:=fun b n z=>by subst z;rw[n]at mu;exact mu
 have hb:∀b,H b=none->b≠e:=fun b n z=>by
  subst z
  rcases he with r | r
  ·exact hx b n r
  ·rw[n]at r;cases r
 have hm:∀b u,H b=some u->¬ Ax (some u)->b≠x:=fun b u q nm z=>by subst z;rw[q]at mu;exact nm mu
 refine⟨fun b u q n _ _=>k b u (hb b n) q,fun b u q n _ _=>⟨u.slots,k b u (hb b n) q⟩,fun b u q n _=>by rw[upd_ne (hx b n)];exact n,fun b u q _=>?_,
  fun b xs q=>by rw[upd_ne (hm b _ q fun z=>z)];exact q,fun b u xs q=>by rw[upd_ne (hm b _ q fun z=>z)];exact q,fun b ps q=>⟨#[],by rw[upd_ne (hm b _ q fun z=>z),q];simp⟩⟩
 by_cases hbe:b=e
 ·subst hbe;exact heo
 ·exact⟨u,k b u hbe q⟩
end
def trk(h:Heap)(H:Hp):List Addr:=(List.range h.objs.size).filter fun a=>(H a).isSome
def jc(h:Heap)(H:Hp):Heap:=PySem.W.hideAll h (trk h H)
theorem oT(h:Heap)(H:Hp):(jc h H).objs.size=h.objs.size:=PySem.W.hideAll_size _ _
theorem hidT_get{h:Heap}{H:Hp}{b:Addr}{o:Obj}(e:h.get? b=some o)(n:H b=none):(jc h H).get? b=some o :=
 PySem.W.hideAll_get _ e fun hm=>by
  have q:(H b).isSome=true:=(List.mem_filter.mp hm).2
  rw[n]at q;simp at q
theorem ur{h:Heap}{H:Hp}{b:Addr}{o:Obj}(e:(jc h H).get? b=some o):h.get? b=some o/\H b=none:=by
 have e':h.get? b=some o:=PySem.W.of_hideAll (trk h H) e
 refine⟨e',?_⟩
 cases q:H b with
 | none=>rfl
 | some x =>
  have hm:b∈trk h H:=List.mem_filter.mpr ⟨List.mem_range.mpr (Heap.lt_size e'),by simp[q]⟩
  have z:(jc h H).get? b=none:=PySem.W.hideAll_none (trk h H) hm
  rw[z]at e;cases e
end
section
structure Mod (K:WF)(mg:Str->Option Value)(base:Heap):Prop where
 kin:K.In base
 glob:base.Ns mainGlobals mg
 blt:∃mb,base.Ns builtinsNs mb/\∀x:Str,x≠"__name__"->mb x=bootBuiltins x
 nolimit:base.NoLimit
structure Cx where
 prog:Program
 w:World
 K:WF
 mg:Str->Option Value
 base:Heap
 A:Around
 N:List Str
 s₀:Shared
 H₀:Hp
 env:Env
 outer:List Env
 stack:List Env
 ex:List Addr
 fn:Str->Bool
 calm:Bool
 pn:List (Addr × Obj)
 xe:Value->Shared->Prop
def qo(l:List Env):List Addr:=l.filterMap (·.frame)
abbrev Cx.fs(X:Cx):List Addr:=qo X.outer
def Vis(sc:Scope)(x:Str):Prop:=sc.names.lookup x=some .local\/sc.names.lookup x=some .cell\/sc.names.lookup x=some .free
def Loc(sc:Scope)(x:Str):Prop:=sc.names.lookup x=some .local\/sc.names.lookup x=some .cell
def Look(env:Env)(h:Heap)(m:Str->Option Value)(x:Str)(u:Value):Prop :=
 (env.kindOf x=some .local/\m x=some u)\/((env.kindOf x=some .cell\/env.kindOf x=some .free)/\∃c,env.cells.lookup x=some c/\h.IsCell c (some u))
structure Cx.Ok (X:Cx):Prop where
 mod:Mod X.K X.mg X.base
 kind:X.env.scope.kind=.function
 glob:X.env.globals=mainGlobals
 blt:X.env.builtins=builtinsNs
 above:X.s₀.heap.objs.size≤X.env.locals
 inj:∀x y c,X.env.cells.lookup x=some c->X.env.cells.lookup y=some c->x=y
 has:∀x,(X.env.kindOf x=some .cell\/X.env.kindOf x=some .free)->∃c,X.env.cells.lookup x=some c
 cab:∀x c,X.fn x=true->X.env.cells.lookup x=some c->X.s₀.heap.objs.size≤c
 hd:X.calm=true->X.A.handled=none
 frames:X.A.frames=some X.stack
 stk:X.stack=X.outer\/(X.stack=X.env::X.outer/\X.env.frame=some X.env.locals)
 exf:∀b∈X.ex,b≠X.env.locals/\∀x c,X.env.cells.lookup x=some c->c≠b
 bs:∀b o,X.base.get? b=some o->X.s₀.heap.get? b=some o/\X.H₀ b=none
 bsz:X.base.objs.size≤X.s₀.heap.objs.size
 noex:∀b o,X.base.get? b=some o->b ∉ X.ex
 exfs:∀b∈X.ex,b ∉ X.fs
 funs:X.s₀.heap.FunFrames X.base X.outer
 frf:∀b∈X.fs,X.H₀ b=none
structure Inv (X:Cx)(pins:List (Addr × Obj))(σ:List (Option V))(H:Hp)(s:Shared):Prop where
 ok:X.Ok
 os:s.os=X.s₀.os
 bare:AllBare s.gens
 base:Un X.fs X.ex X.H₀ H X.s₀.heap s.heap
 loc:∃m,s.heap.Ns X.env.locals m/\∀(i:Nat) (x:Str) (v:V),X.N[i]?=some x->σ[i]?=some (some v)->Vis X.env.scope x->∃u,RelV v u/\Look X.env s.heap m x u
 cell:∀x c,X.env.cells.lookup x=some c->∃v,s.heap.IsCell c v
 free:H X.env.locals=none
 freeC:∀x c,X.env.cells.lookup x=some c->H c=none
 pin:∀p∈X.pn++pins,s.heap.get? p.1=some p.2/\H p.1=none/\p.1≠X.env.locals/\p.1 ∉ X.fs/\∀v,p.2.data≠.cell v
 hok:HOk X.prog X.w H s.heap
 len:σ.length=X.N.length
section
variable{X:Cx}{pins:List (Addr × Obj)}{σ:List (Option V)}{H H':Hp}{s:Shared}{h':Heap}
theorem Cx.Ok.nofr(ok:X.Ok){b:Addr}{o:Obj}(e:X.base.get? b=some o):b ∉ X.fs:=fun hb=>by
 have:=(ok.funs.mem hb).1
 rw[e]at this;cases this
theorem Inv.bs(I:Inv X pins σ H s):∀b o,X.base.get? b=some o->s.heap.get? b=some o/\H b=none:=fun b o e =>
 ⟨I.base.keep b o (I.ok.bs b o e).1 (I.ok.bs b o e).2 (I.ok.nofr e) (I.ok.noex b o e),I.base.free b o (I.ok.bs b o e).1 (I.ok.bs b o e).2 (I.ok.noex b o e)⟩
theorem Inv.bk(I:Inv X pins σ H s):∀b o,X.base.get? b=some o->s.heap.get? b=some o:=fun b o e=>(I.bs b o e).1
theorem Inv.mod(I:Inv X pins σ H s):Mod X.K X.mg X.base:=I.ok.mod
theorem Inv.kIn(I:Inv X pins σ H s):X.K.In s.heap:=I.ok.mod.kin.keeps I.bk
theorem Inv.fr(I:Inv X pins σ H s):∃m,Fr X.base X.env.locals s.heap m :=
 let ⟨m,hn,_⟩:=I.loc
 ⟨m,hn,I.bk,aan I.ok.bsz I.ok.above⟩
theorem Inv.lt(I:Inv X pins σ H s):X.env.locals < s.heap.objs.size:=let ⟨_,hn,_⟩:=I.loc;hn.lt
theorem Inv.sz(I:Inv X pins σ H s):X.s₀.heap.objs.size≤s.heap.objs.size:=aan I.ok.above (aaQ I.lt)
theorem Inv.nofs(I:Inv X pins σ H s){a:Addr}(h:s.heap.objs.size≤a):a ∉ X.fs:=fun hb=>by
 obtain⟨_,o,ho,_⟩:=I.ok.funs.mem hb
 exact absurd (aay (Heap.lt_size ho) (aan I.sz h)) (aaV _)
theorem Inv.cne(I:Inv X pins σ H s):∀x c,X.env.cells.lookup x=some c->c≠X.env.locals:=fun x c e z=>by
 obtain⟨v,o,ho,hd⟩:=I.cell x c e
 obtain⟨m,⟨o',es,ep,ho',hd',_⟩,_⟩:=I.loc
 rw[z,ho']at ho;cases ho;rw[hd']at hd;cases hd
theorem Inv.funs(I:Inv X pins σ H s):s.heap.FunFrames X.base X.outer:=by
 have all:∀(l:List Env),(∀b∈qo l,b∈X.fs)->X.s₀.heap.FunFrames X.base l->s.heap.FunFrames X.base l:=by
  intro l
  induction l with
  | nil=>intro _ _;trivial
  | cons env r ih =>
   intro hs hl
   obtain⟨hk,⟨L,o,hf,hn,ho,hd⟩,hr⟩:=hl
   have hL:L∈X.fs:=hs L (by unfold qo;rw[abF,hf];exact aaj)
   obtain⟨sl,e⟩:=I.base.slot L o ho (I.ok.frf L hL) hL fun z=>I.ok.exfs L z hL
   exact⟨hk,⟨L,_,hf,hn,e,hd⟩,ih (fun b hb=>hs b (by unfold qo;rw[abF,hf];exact aag _ hb)) hr⟩
 exact all X.outer (fun _ hb=>hb) I.ok.funs
theorem Inv.stack(I:Inv X pins σ H s):s.heap.FunFrames X.base X.stack:=by
 rcases I.ok.stk with e | ⟨e,hf⟩
 ·rw[e];exact I.funs
 ·rw[e]
  obtain⟨m,hn,_⟩:=I.loc
  refine .cons (by rw[I.ok.kind];decide) hf hn ?_ I.funs
  exact Heap.get?_none_of_le (aan I.ok.bsz I.ok.above)
theorem Inv.stkSub(I:Inv X pins σ H s):∀b∈qo X.stack,b∈X.env.locals::X.fs:=fun b hb=>by
 rcases I.ok.stk with e | ⟨e,hf⟩
 ·rw[e]at hb;exact aag _ hb
 ·rw[e]at hb
  unfold qo at hb
  rw[abF,hf]at hb
  exact hb
theorem Inv.stkFree(I:Inv X pins σ H s):∀b∈qo X.stack,H b=none:=fun b hb=>by
 rcases aac.mp (I.stkSub b hb) with e | hb
 ·rw[e];exact I.free
 ·obtain⟨_,o,ho,_⟩:=I.ok.funs.mem hb
  exact I.base.free b o ho (I.ok.frf b hb) fun z=>I.ok.exfs b z hb
theorem Inv.step{g':Array GenState}{t':Nat}{d':Drawn}{ch:List Addr}(I:Inv X pins σ H s)
  (hch:∀b∈ch,(b∈X.ex\/X.s₀.heap.objs.size≤b)/\b≠X.env.locals/\(∀x c,X.env.cells.lookup x=some c->c≠b)/\∀p∈X.pn++pins,p.1≠b)
  (keep:∀b o,b≠X.env.locals->b ∉ X.fs->b ∉ ch->s.heap.get? b=some o->H b=none->h'.get? b=some o)
  (slot:∀b o,b≠X.env.locals->b∈X.fs->b ∉ ch->s.heap.get? b=some o->H b=none->∃sl,h'.get? b=some { o with slots:=sl }) (free:∀b o,b ∉ ch->s.heap.get? b=some o->H b=none->H' b=none)
  (there:∀b o,b ∉ ch->s.heap.get? b=some o->∃o',h'.get? b=some o')
  (tups:∀b xs,H b=some (.tup xs)->H' b=some (.tup xs)) (frzs:∀b o u,H b=some (.frz o u)->H' b=some (.frz o u)) (tbls:∀b ps,H b=some (.tbl ps)->∃more,H' b=some (.tbl (ps++more)))
  (ns:∀m,s.heap.Ns X.env.locals m->h'.Ns X.env.locals m) (hok:HOk X.prog X.w H' h') (hg:AllBare g') :
  Inv X pins σ H' { s with heap:=h',gens:=g',drawn:=d',toks:=t' }:=by
 have neL:∀b o,X.s₀.heap.get? b=some o->b≠X.env.locals:=fun b o e=>aao (aay (Heap.lt_size e) I.ok.above)
 have neC:∀b o,X.s₀.heap.get? b=some o->b ∉ X.ex->b ∉ ch:=fun b o e hx hb=>by
  rcases (hch b hb).1 with z | z
  ·exact hx z
  ·exact absurd (aay (Heap.lt_size e) z) (aaV _)
 have cellK:∀x c,X.env.cells.lookup x=some c->∀v,s.heap.IsCell c v->h'.IsCell c v:=fun x c e v ⟨o,ho,hd⟩=>by
  have nch:c ∉ ch:=fun z=>(hch c z).2.2.1 x c e rfl
  by_cases hc:c∈X.fs
  ·obtain⟨sl,q⟩:=slot c o (I.cne x c e) hc nch ho (I.freeC x c e)
   exact⟨_,q,hd⟩
  ·exact⟨o,keep c o (I.cne x c e) hc nch ho (I.freeC x c e),hd⟩
 refine⟨I.ok,I.os,hg,⟨fun b o e n hb hx=>?_,fun b o e n hb hx=>?_,fun b o e n hx=>?_,fun b o e hx=>?_,fun b xs e=>tups b xs (I.base.tups b xs e),fun b o xs e=>frzs b o xs (I.base.frzs b o xs e),fun b ps e=>?_⟩,?_,fun x c e=>?_,?_,fun x c e=>?_,fun p hp=>?_,hok,I.len⟩
 ·exact keep b o (neL b o e) hb (neC b o e hx) (I.base.keep b o e n hb hx) (I.base.free b o e n hx)
 ·obtain⟨sl,e1⟩:=I.base.slot b o e n hb hx
  obtain⟨sl',e2⟩:=slot b _ (neL b o e) hb (neC b o e hx) e1 (I.base.free b o e n hx)
  exact⟨sl',e2⟩
 ·obtain⟨o',e1⟩:=I.base.there b o e hx
  exact free b o' (neC b o e hx) e1 (I.base.free b o e n hx)
 ·obtain⟨o',e1⟩:=I.base.there b o e hx
  exact there b o' (neC b o e hx) e1
 ·obtain⟨m1,e1⟩:=I.base.tbls b ps e
  obtain⟨m2,e2⟩:=tbls b _ e1
  exact⟨m1++m2,by rw[e2,Array.append_assoc]⟩
 ·obtain⟨m,hn,hl⟩:=I.loc
  refine⟨m,ns m hn,fun i x v e1 e2 e3=>?_⟩
  obtain⟨u,r,l⟩:=hl i x v e1 e2 e3
  refine⟨u,r,?_⟩
  rcases l with l | ⟨k,c,e,z⟩
  ·exact .inl l
  ·exact .inr ⟨k,c,e,cellK x c e _ z⟩
 ·obtain⟨v,z⟩:=I.cell x c e
  exact⟨v,cellK x c e v z⟩
 ·obtain⟨m,⟨o,_,_,ho,_⟩,_⟩:=I.loc
  exact free _ o (fun z=>(hch _ z).2.1 rfl) ho I.free
 ·obtain⟨v,o,ho,hd⟩:=I.cell x c e
  exact free c o (fun z=>(hch c z).2.2.1 x c e rfl) ho (I.freeC x c e)
 ·obtain⟨e,n,ne,nf,d⟩:=I.pin p hp
  have nch:p.1 ∉ ch:=fun z=>(hch p.1 z).2.2.2 p hp rfl
  exact⟨keep p.1 p.2 ne nf nch e n,free p.1 p.2 nch e n,ne,nf,d⟩
theorem Inv.un{t':Nat}(I:Inv X pins σ H s)(u:Un X.fs [] H H' s.heap h')(hok:HOk X.prog X.w H' h'):Inv X pins σ H' { s with heap:=h',toks:=t' }:=by
 obtain⟨m,⟨o,es,ep,ho,r⟩,_⟩:=id I.loc
 obtain⟨sl,hL⟩:=u.any ho I.free (by simp)
 exact I.step (g':=s.gens) (d':=s.drawn) (ch:=[]) (fun _ z=>nomatch z) (fun b o _ hb _ e n=>u.keep b o e n hb (by simp)) (fun b o _ hb _ e n=>u.slot b o e n hb (by simp)) (fun b o _ e n=>u.free b o e n (by simp)) (fun b o _ e=>u.there b o e (by simp)) u.tups u.frzs u.tbls (fun m' hm=>by
  obtain⟨o',es',ep',ho',r'⟩:=hm
  rw[ho]at ho';cases ho'
  exact⟨_,es',ep',hL,r'⟩) hok I.bare
theorem Inv.call{g':Array GenState}{t':Nat}{d':Drawn}{ch:List Addr}(I:Inv X pins σ H s)(u:Un (qo X.stack) ch H H' s.heap h')(hok:HOk X.prog X.w H' h')(hg:AllBare g')
  (hch:∀b∈ch,(b∈X.ex\/X.s₀.heap.objs.size≤b)/\b≠X.env.locals/\(∀x c,X.env.cells.lookup x=some c->c≠b)/\∀p∈X.pn++pins,p.1≠b) :
  Inv X pins σ H' { s with heap:=h',gens:=g',drawn:=d',toks:=t' }:=by
 obtain⟨m,⟨o,es,ep,ho,r⟩,_⟩:=id I.loc
 obtain⟨sl,hL⟩:=u.any ho I.free fun z=>(hch _ z).2.1 rfl
 exact I.step (ch:=ch) hch (fun b o hL hb hc e n=>u.keep b o e n (fun z=>(aac.mp (I.stkSub b z)).elim hL hb) hc) (fun b o _ _ hc e n=>u.any e n hc) (fun b o hc e n=>u.free b o e n hc) (fun b o hc e=>u.there b o e hc) u.tups u.frzs u.tbls (fun m' hm=>by
  obtain⟨o',es',ep',ho',r'⟩:=hm
  rw[ho]at ho';cases ho'
  exact⟨_,es',ep',hL,r'⟩) hok hg
theorem Inv.turned{t':Nat}{it:Addr}(I:Inv X pins σ H s)(k:∀b o,b≠it->s.heap.get? b=some o->h'.get? b=some o)(hn:H it=none)(hL:it≠X.env.locals)
  (h1:it∈X.ex\/X.s₀.heap.objs.size≤it) (h2:∀x c,X.env.cells.lookup x=some c->c≠it) (h3:∀p∈X.pn++pins,p.1≠it):Inv X pins σ H { s with heap:=h',toks:=t' }:=by
 have nit:∀b u,H b=some u->b≠it:=fun b u e z=>by rw[z,hn]at e;cases e
 refine I.step (g':=s.gens) (d':=s.drawn) (ch:=[it]) (fun b hb=>?_) (fun b o _ _ hc e _=>k b o (fun z=>hc (by simp[z])) e) (fun b o _ _ hc e _=>⟨o.slots,k b o (fun z=>hc (by simp[z])) e⟩) (fun _ _ _ _ n=>n)
  (fun b o hc e=>⟨o,k b o (fun z=>hc (by simp[z])) e⟩) (fun _ _ e=>e) (fun _ _ _ e=>e) (fun b ps e=>⟨#[],by rw[e];simp⟩) (fun m hm=>?_) (fun b u e=>?_) I.bare
 ·have e:b=it:=by simpa using hb
  subst e
  exact⟨h1,hL,h2,h3⟩
 ·obtain⟨o,es,ep,ho,r⟩:=hm
  exact⟨o,es,ep,k _ o (aaF hL) ho,r⟩
 ·refine (I.hok b u e).stay (fun c v hc q=>k c v ?_ q) (fun _ q=>q) fun _ _ q=>q
  rcases hc with z | z
  ·rw[z];exact nit b u e
  ·exact nit c _ z
theorem Inv.tok(I:Inv X pins σ H s)(t:Nat):Inv X pins σ H { s with toks:=t }:=I.un (h':=s.heap) (t':=t) Un.refl I.hok
theorem Inv.kept{t':Nat}(I:Inv X pins σ H s)(k:∀b u,s.heap.get? b=some u->h'.get? b=some u):Inv X pins σ H { s with heap:=h',toks:=t' }:=I.un (Un.kept k) (I.hok.kept k)
theorem Inv.laid{a:Addr}{o:HO}{t':Nat}(I:Inv X pins σ H s)(k:∀b u,s.heap.get? b=some u->h'.get? b=some u)(hp:s.heap.objs.size≤a)(new:ObjOk X.prog X.w (upd H a o) h' a o) :
  Inv X pins σ (upd H a o) { s with heap:=h',toks:=t' }:=I.un (Un.laid k hp (I.hok.fresh hp)) (I.hok.laid k hp new)
theorem Inv.write{x e:Addr}{o:HO}{t':Nat}(I:Inv X pins σ H s)(mu:Ax (H x))(he:e=x\/H e=some (.own x))(k:∀b u,b≠e->s.heap.get? b=some u->h'.get? b=some u)(heo:∃u,h'.get? e=some u)
  (new:ObjOk X.prog X.w (upd H x o) h' x o):Inv X pins σ (upd H x o) { s with heap:=h',toks:=t' }:=I.un (Un.write mu he k heo) (I.hok.write mu he k heo new)
theorem Inv.pins_of{pins':List (Addr × Obj)}(I:Inv X pins σ H s)(h:∀p∈pins',s.heap.get? p.1=some p.2/\H p.1=none/\p.1≠X.env.locals/\p.1 ∉ X.fs/\∀v,p.2.data≠.cell v):Inv X pins' σ H s :=
 ⟨I.ok,I.os,I.bare,I.base,I.loc,I.cell,I.free,I.freeC,fun p hp=>(aai.mp hp).elim (fun z=>I.pin p (aad _ z)) (h p),I.hok,I.len⟩
theorem j8{N:List Str}(hN:N.Nodup){i j:Nat}{x:Str}(a:N[i]?=some x)(b:N[j]?=some x):i=j:=by
 obtain⟨h1,e1⟩:=aas.mp a
 obtain⟨h2,e2⟩:=aas.mp b
 exact (List.getElem_inj hN).mp (e1.trans e2.symm)
theorem fG{M:Model}{A:Around}{E:Value->Shared->Prop}{i:Nat}{x:Str}{v:V}{u:Value}{Q:Unit->Shared->Prop}(I:Inv X pins σ H s)(hN:X.N.Nodup)(hi:X.N[i]?=some x)(hx:Loc X.env.scope x)(r:RelV v u)
  (h:∀s',Inv X pins (σ.set i (some v)) H s'->(∃a,Heap.SameBut a s.heap s'.heap/\(a=X.env.locals\/X.env.cells.lookup x=some a))->Q () s') (hf:X.fn x=true\/X.env.scope.names.lookup x=some .local:=by first | exact .inl rfl | exact .inr rfl | assumption):wpAny M A (storeName X.env x u) Q E s:=by
 obtain⟨m,hn,hl⟩:=id I.loc
 have hcls:(X.env.scope.kind == .class || (X.env.scope.kind == .module && X.env.locals != X.env.globals))=false:=by rw[I.ok.kind];rfl
 have hiσ:i < σ.length:=by rw[I.len];exact (aas.mp hi).1
 have cne:=I.cne
 have tracked:∀{a:Addr} {h':Heap},(∃o,s.heap.get? a=some o/\H a=none)->Heap.SameBut a s.heap h'->HOk X.prog X.w H h':=fun {a h'} ha hs b ob e=>by
  obtain⟨_,_,hfree⟩:=ha
  refine (I.hok b ob e).stay (fun c w' hc q=>(hs.2 c ?_).trans q) (fun _ q=>q) fun _ _ q=>q
  rintro rfl
  rcases hc with rfl | hc
  ·rw[hfree]at e;cases e
  ·rw[hfree]at hc;cases hc
 rcases hx with hk | hk
 ·refine wpAny_storeName_local hk hn (fun h' hn' hs=>?_) hcls
  obtain⟨oL,_,_,hoL,_⟩:=id hn
  refine h _ ⟨I.ok,I.os,I.bare,⟨fun b o e n hb hx=>?_,fun b o e n hb hx=>?_,I.base.free,fun b o e hx=>?_,I.base.tups,I.base.frzs,I.base.tbls⟩,⟨_,hn',fun j y v' e1 e2 e3=>?_⟩,fun y c e=>?_,I.free,I.freeC,fun p hp=>?_,tracked ⟨oL,hoL,I.free⟩ hs,by simpa using I.len⟩ ⟨_,hs,.inl rfl⟩
  ·exact (hs.2 b (aao (aay (Heap.lt_size e) I.ok.above))).trans (I.base.keep b o e n hb hx)
  ·obtain⟨sl,e1⟩:=I.base.slot b o e n hb hx
   exact⟨sl,(hs.2 b (aao (aay (Heap.lt_size e) I.ok.above))).trans e1⟩
  ·obtain⟨o',e1⟩:=I.base.there b o e hx
   exact⟨o',(hs.2 b (aao (aay (Heap.lt_size e) I.ok.above))).trans e1⟩
  ·by_cases hj:j=i
   ·subst hj
    rw[hi]at e1;cases e1
    rw[aaW hiσ]at e2
    cases e2
    exact⟨u,r,.inl ⟨hk,by simp⟩⟩
   ·rw[aaX (aaF hj)]at e2
    obtain⟨u',r',q⟩:=hl j y v' e1 e2 e3
    refine⟨u',r',?_⟩
    rcases q with ⟨k,e⟩ | ⟨k,c,e,z⟩
    ·refine .inl ⟨k,?_⟩
     have:y≠x:=fun e=>hj (j8 hN e1 (e ▸ hi))
     simp[this,e]
    ·exact .inr ⟨k,c,e,z.sameBut hs (cne y c e)⟩
  ·obtain⟨w',z⟩:=I.cell y c e
   exact⟨w',z.sameBut hs (cne y c e)⟩
  ·obtain⟨e,n,ne,nf,d⟩:=I.pin p hp
   exact⟨(hs.2 p.1 ne).trans e,n,ne,nf,d⟩
 ·have hfn:X.fn x=true:=by
   rcases hf with z | z
   ·exact z
   ·rw[z]at hk;cases hk
  obtain⟨c,hc⟩:=I.ok.has x (.inl hk)
  obtain⟨w',z⟩:=I.cell x c hc
  refine wpAny_storeName_cell I.ok.kind hk hc z (fun h' hc' hs=>?_)
  obtain⟨oc,hoc,hocd⟩:=id z
  refine h { s with heap:=h' } ⟨I.ok,I.os,I.bare,⟨fun b o e n hb hx=>?_,fun b o e n hb hx=>?_,I.base.free,fun b o e hx=>?_,I.base.tups,I.base.frzs,I.base.tbls⟩,⟨m,hn.sameBut hs (aaF (cne x c hc)),fun j y v' e1 e2 e3=>?_⟩,fun y c' e=>?_,I.free,I.freeC,fun p hp=>?_,tracked ⟨oc,hoc,I.freeC x c hc⟩ hs,by simpa using I.len⟩ ⟨c,hs,.inr hc⟩
  ·exact (hs.2 b (aao (aay (Heap.lt_size e) (I.ok.cab x c hfn hc)))).trans (I.base.keep b o e n hb hx)
  ·obtain⟨sl,e1⟩:=I.base.slot b o e n hb hx
   exact⟨sl,(hs.2 b (aao (aay (Heap.lt_size e) (I.ok.cab x c hfn hc)))).trans e1⟩
  ·obtain⟨o',e1⟩:=I.base.there b o e hx
   exact⟨o',(hs.2 b (aao (aay (Heap.lt_size e) (I.ok.cab x c hfn hc)))).trans e1⟩
  ·by_cases hj:j=i
   ·subst hj
    rw[hi]at e1;cases e1
    rw[aaW hiσ]at e2
    cases e2
    exact⟨u,r,.inr ⟨.inl hk,c,hc,hc'⟩⟩
   ·rw[aaX (aaF hj)]at e2
    obtain⟨u',r',q⟩:=hl j y v' e1 e2 e3
    refine⟨u',r',?_⟩
    rcases q with q | ⟨k,c',e,z'⟩
    ·exact .inl q
    ·refine .inr ⟨k,c',e,z'.sameBut hs ?_⟩
     rintro rfl
     exact hj (j8 hN e1 (I.ok.inj _ _ _ e hc ▸ hi))
  ·by_cases hcc:c'=c
   ·subst hcc;exact⟨_,hc'⟩
   ·obtain⟨w2,z2⟩:=I.cell y c' e
    exact⟨w2,z2.sameBut hs hcc⟩
  ·obtain⟨e,n,ne,nf,d⟩:=I.pin p hp
   refine⟨(hs.2 p.1 ?_).trans e,n,ne,nf,d⟩
   intro q
   rw[q,hoc]at e
   have q':oc=p.2:=aaA e
   exact d w' (by rw[<- q'];exact hocd)
theorem bA{M:Model}{A:Around}{E:Value->Shared->Prop}{i:Nat}{x:Str}{v:V}{u:Value}{Q:Unit->Shared->Prop}(I:Inv X pins σ H s)(hN:X.N.Nodup)(hi:X.N[i]?=some x)(hx:Loc X.env.scope x)(r:RelV v u)
  (h:∀s',Inv X pins (σ.set i (some v)) H s'->Q () s') (hf:X.fn x=true\/X.env.scope.names.lookup x=some .local:=by first | exact .inl rfl | exact .inr rfl | assumption):wpAny M A (storeName X.env x u) Q E s :=
 fG I hN hi hx r (fun s' I' _=>h s' I') hf
theorem Inv.call'{s':Shared}{ch:List Addr}(I:Inv X pins σ H s)(ho:s'.os=s.os)(u:Un (qo X.stack) ch H H' s.heap s'.heap)(hok:HOk X.prog X.w H' s'.heap)(hg:AllBare s'.gens)
  (hch:∀b∈ch,(b∈X.ex\/X.s₀.heap.objs.size≤b)/\b≠X.env.locals/\(∀x c,X.env.cells.lookup x=some c->c≠b)/\∀p∈X.pn++pins,p.1≠b):Inv X pins σ H' s':=by
 obtain⟨h',g',d',t',o'⟩:=s'
 have e:o'=s.os:=ho
 subst e
 exact I.call (g':=g') (t':=t') (d':=d') u hok hg hch
end
abbrev XK:=Value->Option Addr->Hp->Prop
abbrev St:=List (Option V)
abbrev VK:=V->Hp->Prop
abbrev TE:=St->Hp->VK->Prop
abbrev TT:=St->Hp->(Bool->Hp->Prop)->Prop
abbrev TA:=St->Hp->(List V->Hp->Prop)->Prop
structure Ends where
 nx:St->Hp->Prop
 rt:VK
 bk:St->Hp->Prop:=fun _ _=>False
 ct:St->Hp->Prop:=fun _ _=>False
abbrev TS:=Ends->St->Hp->Prop
def EP(X:Cx)(pins:List (Addr × Obj))(σ:St)(Q:VK)(u:Value)(s':Shared):Prop:=∃v H',Inv X pins σ H' s'/\RelV v u/\Q v H'
def TP(X:Cx)(pins:List (Addr × Obj))(σ:St)(Q:Bool->Hp->Prop)(b:Bool)(s':Shared):Prop:=∃H',Inv X pins σ H' s'/\Q b H'
def AP(X:Cx)(pins:List (Addr × Obj))(σ:St)(Q:List V->Hp->Prop)(us:List Value)(s':Shared):Prop:=∃vs H',Inv X pins σ H' s'/\Vals vs us/\Q vs H'
def SP(X:Cx)(pins:List (Addr × Obj))(D:Ends)(f:Flow)(s':Shared):Prop :=
 match f with
 | .next=>∃σ' H',Inv X pins σ' H' s'/\D.nx σ' H'
 | .brk=>∃σ' H',Inv X pins σ' H' s'/\D.bk σ' H'
 | .cont=>∃σ' H',Inv X pins σ' H' s'/\D.ct σ' H'
 | .ret u=>∃v σ' H',Inv X pins σ' H' s'/\RelV v u/\D.rt v H'
def PE(X:Cx)(e:Expr)(t:TE):Prop :=
 ∀(pins:List (Addr × Obj)) (s:Shared) (σ:St) (H:Hp) (Q:VK),Inv X pins σ H s->t σ H Q->wpAny (model X.prog X.w) X.A (eval e X.env) (EP X pins σ Q) X.xe s
def PT(X:Cx)(e:Expr)(t:TT):Prop :=
 ∀(pins:List (Addr × Obj)) (s:Shared) (σ:St) (H:Hp) (Q:Bool->Hp->Prop),Inv X pins σ H s->t σ H Q->wpAny (model X.prog X.w) X.A (isTrue e X.env (eval e X.env)) (TP X pins σ Q) X.xe s
def PW(X:Cx)(e:Expr)(t:TT):Prop :=
 ∀(whole:Sem Value) (pins:List (Addr × Obj)) (s:Shared) (σ:St) (H:Hp) (Q:Bool->Hp->Prop),Inv X pins σ H s->t σ H Q->wpAny (model X.prog X.w) X.A (isTrue e X.env whole) (TP X pins σ Q) X.xe s
theorem PW.pt{X:Cx}{e:Expr}{t:TT}(h:PW X e t):PT X e t:=h _
def PA(X:Cx)(es:List Expr)(t:TA):Prop :=
 ∀(pos:Pos) (pins:List (Addr × Obj)) (s:Shared) (σ:St) (H:Hp) (Q:List V->Hp->Prop),Inv X pins σ H s->t σ H Q->wpAny (model X.prog X.w) X.A (spliced (backTo pos (starEach es X.env))) (AP X pins σ Q) X.xe s
def PS(X:Cx)(st:Stmt)(t:TS):Prop :=
 ∀(pins:List (Addr × Obj)) (s:Shared) (σ:St) (H:Hp) (D:Ends),Inv X pins σ H s->t D σ H->wpAny (model X.prog X.w) X.A (exec st X.env) (SP X pins D) X.xe s
def PSs(X:Cx)(st:List Stmt)(t:TS):Prop :=
 ∀(pins:List (Addr × Obj)) (s:Shared) (σ:St) (H:Hp) (D:Ends),Inv X pins σ H s->t D σ H->wpAny (model X.prog X.w) X.A (execs st X.env) (SP X pins D) X.xe s
theorem thn{α:Type}{t:Sem α}{Q Q':α->Shared->Prop}{M:Model}{A:Around}{E:Value->Shared->Prop}{s:Shared}(h:wpAny M A t Q E s)(hQ:∀a s,Q a s->Q' a s):wpAny M A t Q' E s:=wpAny_mono h hQ fun _ _ x=>x
end
section
section
variable{X:Cx}
def tVar(i:Nat):TE:=fun σ H Q=>∃v,σ[i]?=some (some v)/\Q v H
def tC(v:V):TE:=fun _ H Q=>Q v H
theorem bG {i:Nat} {x:Str} {pos:Pos} (hN:X.N[i]?=some x) (hv:Vis X.env.scope x) (hd:(x == ("__debug__":Str))=false:=by decide) (hcd:(x == ("__classdict__":Str))=false:=by decide):PE X (.Name x pos) (tVar i):=by
 intro pins s σ H Q I h
 obtain⟨v,e,h⟩:=h
 obtain⟨m,hn,hl⟩:=I.loc
 obtain⟨u,r,l⟩:=hl i x v hN e hv
 have fin:EP X pins σ Q u s:=⟨v,H,I,r,h⟩
 rcases l with ⟨hk,hm⟩ | ⟨hk,c,hc,hcell⟩
 ·exact wpAny_Name (wpAny_loadName_local I.ok.kind hk hn hm fin) hd
 ·rcases hk with hk | hk
  ·exact wpAny_Name (wpAny_loadName_cell I.ok.kind hk hc hcell fin) hd
  ·exact wpAny_Name (wpAny_loadName_free I.ok.kind hk hc hcell fin hcd) hd
theorem jd{i j pos}:PE X (.Constant (.int i) j pos) (tC (.int i)):=fun _ _ _ H _ I h=>wpAny_Constant_int ⟨.int i,H,I.tok _,⟨_,rfl⟩,h⟩
theorem Ay{b j pos}:PE X (.Constant (.bool b) j pos) (tC (.bl b)):=fun _ _ _ H _ I h=>Constant_bool ⟨.bl b,H,I,rfl,h⟩
theorem xS{x j pos}:PE X (.Constant (.str x) j pos) (tC (.str x)):=fun _ _ _ H _ I h=>Calls.Constant_str ⟨.str x,H,I.tok _,⟨_,rfl⟩,h⟩
def Gl(X:Cx)(x:Str):Prop:=X.env.kindOf x=some .globalImplicit
theorem je{E:Value->Shared->Prop}{pins:List (Addr × Obj)}{s:Shared}{σ:St}{H:Hp}{x:Str}{u:Value}{pos:Pos}{Q:Value->Shared->Prop}(I:Inv X pins σ H s)(hg:Gl X x)(hm:X.mg x=some u)(h:Q u s)
  (hd:(x == ("__debug__":Str))=false:=by decide):wpAny (model X.prog X.w) X.A (eval (.Name x pos) X.env) Q E s :=
 Calls.Name_function_global I.ok.kind hg (Calls.loadGlobal_global (by rw[I.ok.glob];exact I.mod.glob.keeps I.bk) hm h) hd
theorem fH{E:Value->Shared->Prop}{pins:List (Addr × Obj)}{s:Shared}{σ:St}{H:Hp}{x:Str}{u:Value}{pos:Pos}{Q:Value->Shared->Prop}(I:Inv X pins σ H s)(hg:Gl X x)(hm:X.mg x=none)(hv:bootBuiltins x=some u)(h:Q u s)
  (hn:x≠"__name__":=by decide) (hd:(x == ("__debug__":Str))=false:=by decide):wpAny (model X.prog X.w) X.A (eval (.Name x pos) X.env) Q E s:=by
 obtain⟨mb,h1,h2⟩:=I.mod.blt
 exact Calls.Name_function_global I.ok.kind hg (Calls.loadGlobal_builtin (by rw[I.ok.glob];exact I.mod.glob.keeps I.bk) hm (by rw[I.ok.blt];exact h1.keeps I.bk) ((h2 x hn).trans hv) h) hd
theorem ut {x:Str} {v:V} {u:Value} {pos:Pos} (hg:Gl X x) (hm:X.mg x=some u) (r:RelV v u) (hd:(x == ("__debug__":Str))=false:=by decide):PE X (.Name x pos) (tC v) :=
 fun _ _ _ H _ I h=>je I hg hm ⟨v,H,I,r,h⟩ hd
theorem uv {x:Str} {v:V} {u:Value} {pos:Pos} (hg:Gl X x) (hm:X.mg x=none) (hv:bootBuiltins x=some u) (r:RelV v u) (hn:x≠"__name__":=by decide) (hd:(x == ("__debug__":Str))=false:=by decide):PE X (.Name x pos) (tC v) :=
 fun _ _ _ H _ I h=>fH I hg hm hv ⟨v,H,I,r,h⟩ hn hd
variable{a b:Expr}{ta tb:TE}{pos:Pos}
def PC(X:Cx)(op:CmpOp)(a b:Expr)(t:TE):Prop :=
 ∀(pins:List (Addr × Obj)) (s:Shared) (σ:St) (H:Hp) (Q:VK),Inv X pins σ H s->t σ H Q ->
  wpAny (model X.prog X.w) X.A (eval a X.env) (fun v s₁=>wpAny (model X.prog X.w) X.A (eval b X.env) (fun u s₂=>wpAny (model X.prog X.w) X.A (compareOp op v u) (EP X pins σ Q) X.xe s₂) X.xe s₁) X.xe s
theorem nobehind(b:Expr){op:CmpOp}(h:op≠.In)(h2:op≠.NotIn):behindInMarks op b=false:=by
 have e1:(op == CmpOp.In)=false:=by cases op<;>first | rfl | exact absurd rfl h
 have e2:(op == CmpOp.NotIn)=false:=by cases op<;>first | rfl | exact absurd rfl h2
 cases b<;>simp[behindInMarks,e1,e2]
def Dv(ta:TE):TE:=fun σ H Q=>ta σ H fun x H1=>Q (.bl (decide (x=.non))) H1
def Az(ta:TE):TE:=fun σ H Q=>ta σ H fun x H1=>Q (.bl (!decide (x=.non))) H1
theorem RelV.none_iff{x:V}{v:Value}(r:RelV x v):(v == Value.none)=decide (x=.non):=by
 cases x with
 | non=>cases r;rfl
 | bl _=>cases r;rfl
 | int _=>obtain⟨t,rfl⟩:=r;rfl
 | str _=>obtain⟨t,rfl⟩:=r;rfl
 | byt _=>obtain⟨t,rfl⟩:=r;rfl
 | flt _=>obtain⟨t,rfl⟩:=r;rfl
 | ref _=>cases r;rfl
 | ty _=>cases r;rfl
theorem qp{j pos'}(ha:PE X a ta):PC X .Is a (.Constant .none j pos') (Dv ta):=by
 intro pins s σ H Q I h
 refine thn (ha pins s σ H _ I h) fun v s1 hZ=>?_
 obtain⟨x,H1,I1,r1,q1⟩:=hZ
 exact Constant_none (is_none_gen ⟨.bl _,H1,I1,by rw[r1.none_iff];rfl,q1⟩)
theorem mR{j pos'}(ha:PE X a ta):PC X .IsNot a (.Constant .none j pos') (Az ta):=by
 intro pins s σ H Q I h
 refine thn (ha pins s σ H _ I h) fun v s1 hZ=>?_
 obtain⟨x,H1,I1,r1,q1⟩:=hZ
 exact Constant_none (isnot_none_gen ⟨.bl _,H1,I1,by rw[r1.none_iff];rfl,q1⟩)
def tB(t:TE):TT:=fun σ H Q=>t σ H fun x H1=>∃c,x=.bl c/\Q c H1
theorem jf{op:CmpOp}{t:TE}(h:PC X op a b t)(h1:behindInMarks op b=false:=by first | exact nobehind _ (by decide) (by decide) | rfl):PE X (.Compare a [op] [b] pos) t:=fun pins s σ H Q I hw=>wpAny_Compare1 (h pins s σ H Q I hw) h1
theorem jg{op:CmpOp}{t:TE}(h:PC X op a b t)(h1:behindInMarks op b=false:=by first | exact nobehind _ (by decide) (by decide) | rfl):PT X (.Compare a [op] [b] pos) (tB t):=by
 intro pins s σ H Q I hw
 refine wpAny_isTrue_Compare1 (thn (h pins s σ H _ I hw) fun v s1 h1=>thn h1 fun u s2 h2=>thn h2 fun c s3 hZ=>?_) h1
 obtain⟨x,H1,I1,r1,q1⟩:=hZ
 obtain⟨d,rfl,q⟩:=q1
 cases r1
 exact wpAny_truthy_bool ⟨H1,I1,q⟩
variable{tA tB':TT}{rest:List Expr}
def Dw(t u:TT):TT:=fun σ H Q=>t σ H fun c H1=>if c=true then u σ H1 Q else Q false H1
def FB(t u:TT):TT:=fun σ H Q=>t σ H fun c H1=>if c=true then Q true H1 else u σ H1 Q
def Dx(t:TT):TT:=fun σ H Q=>t σ H fun c H1=>Q (!c) H1
theorem uw(ha:PT X a tA):PW X (.BoolOp .And [a] pos) tA:=by
 intro wh pins s σ H Q I h
 refine isTrue_and (thn (ha pins s σ H Q I h) fun c s1 e=>?_)
 cases c with
 | true=>exact isTrue_and_nil e
 | false=>exact e
theorem xT(ha:PT X a tA):PW X (.BoolOp .Or [a] pos) tA:=by
 intro wh pins s σ H Q I h
 refine isTrue_or (thn (ha pins s σ H Q I h) fun c s1 e=>?_)
 cases c with
 | false=>exact isTrue_or_nil e
 | true=>exact e
theorem xU(ha:PT X a tA)(hb:PW X (.BoolOp .And (b::rest) pos) tB'):PW X (.BoolOp .And (a::b::rest) pos) (Dw tA tB'):=by
 intro wh pins s σ H Q I h
 refine isTrue_and (thn (ha pins s σ H _ I h) fun c s1 hZ=>?_)
 obtain⟨H1,I1,q1⟩:=hZ
 cases c with
 | true=>exact hb wh pins s1 σ H1 Q I1 q1
 | false=>exact⟨H1,I1,q1⟩
theorem AA(ha:PT X a tA)(hb:PW X (.BoolOp .Or (b::rest) pos) tB'):PW X (.BoolOp .Or (a::b::rest) pos) (FB tA tB'):=by
 intro wh pins s σ H Q I h
 refine isTrue_or (thn (ha pins s σ H _ I h) fun c s1 hZ=>?_)
 obtain⟨H1,I1,q1⟩:=hZ
 cases c with
 | true=>exact⟨H1,I1,q1⟩
 | false=>exact hb wh pins s1 σ H1 Q I1 q1
theorem xV(ha:PT X a tA):PT X (.UnaryOp .Not a pos) (Dx tA):=by
 intro pins s σ H Q I h
 exact isTrue_not (ha pins s σ H (fun c H1=>Q (!c) H1) I h)
def AB(ta tb:TE):TE:=fun σ H Q=>ta σ H fun x H1=>∃c,x=.bl c/\if c=true then tb σ H1 Q else Q (.bl false) H1
def Dy(ta tb:TE):TE:=fun σ H Q=>ta σ H fun x H1=>∃c,x=.bl c/\if c=true then Q (.bl true) H1 else tb σ H1 Q
def AC(ta:TE):TE:=fun σ H Q=>ta σ H fun x H1=>∃c,x=.bl c/\Q (.bl (!c)) H1
theorem xW{op}{t:TE}(h:PE X a t):PE X (.BoolOp op [a] pos) t:=fun pins s σ H Q I hw=>BoolOp_one (h pins s σ H Q I hw)
theorem xX(ha:PE X a ta)(hb:PE X (.BoolOp .And (b::rest) pos) tb):PE X (.BoolOp .And (a::b::rest) pos) (AB ta tb):=by
 intro pins s σ H Q I h
 refine BoolOp_and (thn (ha pins s σ H _ I h) fun v s1 hZ=>?_)
 obtain⟨x,H1,I1,r1,q1⟩:=hZ
 obtain⟨c,rfl,q1⟩:=q1
 cases r1
 refine wpAny_truthy_bool ?_
 cases c with
 | true=>exact hb pins s1 σ H1 Q I1 q1
 | false=>exact⟨.bl false,H1,I1,rfl,q1⟩
theorem AD(ha:PE X a ta)(hb:PE X (.BoolOp .Or (b::rest) pos) tb):PE X (.BoolOp .Or (a::b::rest) pos) (Dy ta tb):=by
 intro pins s σ H Q I h
 refine BoolOp_or (thn (ha pins s σ H _ I h) fun v s1 hZ=>?_)
 obtain⟨x,H1,I1,r1,q1⟩:=hZ
 obtain⟨c,rfl,q1⟩:=q1
 cases r1
 refine wpAny_truthy_bool ?_
 cases c with
 | false=>exact hb pins s1 σ H1 Q I1 q1
 | true=>exact⟨.bl true,H1,I1,rfl,q1⟩
theorem xY(ha:PE X a ta):PE X (.UnaryOp .Not a pos) (AC ta):=by
 intro pins s σ H Q I h
 refine UnaryOp_ (thn (ha pins s σ H _ I h) fun v s1 hZ=>?_)
 obtain⟨x,H1,I1,r1,q1⟩:=hZ
 obtain⟨c,rfl,q1⟩:=q1
 cases r1
 exact not_of (wpAny_truthy_bool ⟨.bl (!c),H1,I1,rfl,q1⟩)
def FC(t:TT)(ta tb:TE):TE:=fun σ H Q=>t σ H fun c H1=>if c=true then ta σ H1 Q else tb σ H1 Q
theorem qq{c:Expr}(hc:PT X c tA)(ha:PE X a ta)(hb:PE X b tb):PE X (.IfExp c a b pos) (FC tA ta tb):=by
 intro pins s σ H Q I h
 refine wpAny_IfExp (thn (hc pins s σ H _ I h) fun d s1 hZ=>?_)
 obtain⟨H1,I1,q1⟩:=hZ
 cases d with
 | true=>exact ha pins s1 σ H1 Q I1 q1
 | false=>exact hb pins s1 σ H1 Q I1 q1
end
end
section
def SqL(K:WF)(H:Hp)(a:Addr)(xs:List V):Prop :=
 Rd H a (.lst xs) \/
  ∃(o:Obj) (its:Array Value) (n:Nat),K.lookup a=some o/\o.cls=.type "list"/\o.dict=none/\o.data=.seq its n/\its.size≤sizeLine/\Vals xs its.toList
def SqT(K:WF)(H:Hp)(a:Addr)(xs:List V):Prop :=
 Rd H a (.tup xs) \/
  ∃(o:Obj) (its:Array Value) (n:Nat),K.lookup a=some o/\o.cls=.type "tuple"/\o.data=.seq its n/\its.size≤sizeLine/\Vals xs its.toList
def Dz:Value->Option V
 | .none=>some .non
 | .bool b=>some (.bl b)
 | .int i _=>some (.int i)
 | .str x _=>some (.str x)
 | .bytes b _=>some (.byt b)
 | .float b _=>some (.flt b)
 | .ref a=>some (.ref a)
 | .type n=>some (.ty n)
 | _=>none
theorem RelV.abs{x:V}{u:Value}(r:RelV x u):Dz u=some x:=by
 cases x with
 | non=>cases r;rfl
 | bl _=>cases r;rfl
 | int _=>obtain⟨t,rfl⟩:=r;rfl
 | str _=>obtain⟨t,rfl⟩:=r;rfl
 | byt _=>obtain⟨t,rfl⟩:=r;rfl
 | flt _=>obtain⟨t,rfl⟩:=r;rfl
 | ref _=>cases r;rfl
 | ty _=>cases r;rfl
theorem RelV.inj{x y:V}{u:Value}(r:RelV x u)(q:RelV y u):x=y:=aaA (r.abs.symm.trans q.abs)
theorem Vals.inj{xs ys:List V}{us:List Value}(h:Vals xs us)(h':Vals ys us):xs=ys:=by
 induction us generalizing xs ys with
 | nil=>cases h;cases h';rfl
 | cons u us ih=>cases h with | cons r t=>cases h' with | cons r' t'=>rw[r.inj r',ih t t']
section
variable{X:Cx}{pins:List (Addr × Obj)}{σ:St}{H:Hp}{s:Shared}{a:Addr}{xs ys:List V}
theorem SqL.of{K:WF}(h:H a=some (.lst xs)):SqL K H a xs:=.inl (.inl h)
theorem SqT.of{K:WF}(h:H a=some (.tup xs)):SqT K H a xs:=.inl (.inl h)
theorem Inv.list(I:Inv X pins σ H s)(h:SqL X.K H a xs):∃its:List Value,Vals xs its/\PlainL s.heap a its.toArray/\xs.length≤sizeLine:=by
 rcases h with h | ⟨o,its,n,hk,hc,hd,hs,hz,r⟩
 ·obtain⟨z,its,n,r,e⟩:=h.ok I.hok
  exact⟨its,r,⟨_,n,e,rfl,rfl,rfl⟩,z⟩
 ·refine⟨its.toList,r,⟨o,n,I.kIn a o hk,hc,hd,by simpa using hs⟩,?_⟩
  have e:=r.length
  simp only[abG]at e
  omega
theorem Inv.tuple(I:Inv X pins σ H s)(h:SqT X.K H a xs):∃its:List Value,Vals xs its/\IsTup s.heap a its.toArray/\xs.length≤sizeLine:=by
 rcases h with h | ⟨o,its,n,hk,hc,hs,hz,r⟩
 ·obtain⟨z,its,r,p⟩:=h.ok I.hok
  exact⟨its,r,p,z⟩
 ·refine⟨its.toList,r,⟨o,I.kIn a o hk,hc,n,by simpa using hs⟩,?_⟩
  have e:=r.length
  simp only[abG]at e
  omega
theorem Inv.list_inj(I:Inv X pins σ H s)(h:SqL X.K H a xs)(h':SqL X.K H a ys):xs=ys:=by
 obtain⟨its,r,⟨o,n,e,_,_,d⟩,_⟩:=I.list h
 obtain⟨its',r',⟨o',n',e',_,_,d'⟩,_⟩:=I.list h'
 rw[e]at e';cases e'
 rw[d]at d'
 injection d' with d1 _
 have:its=its':=by simpa using congrArg Array.toList d1
 subst this
 exact r.inj r'
theorem Inv.tuple_inj(I:Inv X pins σ H s)(h:SqT X.K H a xs)(h':SqT X.K H a ys):xs=ys:=by
 obtain⟨its,r,⟨o,e,_,n,d⟩,_⟩:=I.tuple h
 obtain⟨its',r',⟨o',e',_,n',d'⟩,_⟩:=I.tuple h'
 rw[e]at e';cases e'
 rw[d]at d'
 injection d' with d1 _
 have:its=its':=by simpa using congrArg Array.toList d1
 subst this
 exact r.inj r'
end
abbrev Cx.wish(X:Cx)(E:Value->Shared->Prop):Cx:={ X with xe:=E }
abbrev Cx.nox(X:Cx):Cx:=X.wish fun _ _=>False
theorem Cx.Ok.wish{X:Cx}(ok:X.Ok)(E:Value->Shared->Prop):(X.wish E).Ok :=
 ⟨ok.mod,ok.kind,ok.glob,ok.blt,ok.above,ok.inj,ok.has,ok.cab,ok.hd,ok.frames,ok.stk,ok.exf,ok.bs,ok.bsz,ok.noex,ok.exfs,ok.funs,ok.frf⟩
theorem Cx.Ok.unwish{X:Cx}{E:Value->Shared->Prop}(ok:(X.wish E).Ok):X.Ok :=
 ⟨ok.mod,ok.kind,ok.glob,ok.blt,ok.above,ok.inj,ok.has,ok.cab,ok.hd,ok.frames,ok.stk,ok.exf,ok.bs,ok.bsz,ok.noex,ok.exfs,ok.funs,ok.frf⟩
section
variable{X:Cx}{pins:List (Addr × Obj)}{σ:St}{H:Hp}{s:Shared}{E:Value->Shared->Prop}
theorem Inv.wish(I:Inv X pins σ H s)(E:Value->Shared->Prop):Inv (X.wish E) pins σ H s:=⟨I.ok.wish E,I.os,I.bare,I.base,I.loc,I.cell,I.free,I.freeC,I.pin,I.hok,I.len⟩
theorem Inv.unwish(I:Inv (X.wish E) pins σ H s):Inv X pins σ H s:=⟨I.ok.unwish,I.os,I.bare,I.base,I.loc,I.cell,I.free,I.freeC,I.pin,I.hok,I.len⟩
theorem SP.unwish{D:Ends}{f:Flow}{s':Shared}(h:SP (X.wish E) pins D f s'):SP X pins D f s':=by
 cases f with
 | next=>obtain⟨σ',H',I,q⟩:=h;exact⟨σ',H',I.unwish,q⟩
 | brk=>obtain⟨σ',H',I,q⟩:=h;exact⟨σ',H',I.unwish,q⟩
 | cont=>obtain⟨σ',H',I,q⟩:=h;exact⟨σ',H',I.unwish,q⟩
 | ret u=>obtain⟨v,σ',H',I,r,q⟩:=h;exact⟨v,σ',H',I.unwish,r,q⟩
theorem PSs.nox{st:List Stmt}{t:TS}(h:PSs X.nox st t):PSs X st t:=fun pins s σ H D I hw =>
 wpAny_mono (h pins s σ H D (I.wish _) hw) (fun _ _ q=>q.unwish) fun _ _ z=>False.elim z
end
section
variable{X:Cx}{st:Stmt}{rest:List Stmt}{t u:TS}{e:Expr}{te:TE}{pos:Pos}
def tNext:TS:=fun D σ H=>D.nx σ H
def DB(t u:TS):TS:=fun D σ H=>t { D with nx:=u D } σ H
theorem ux:PSs X [] tNext:=fun _ _ σ H _ I h=>wpAny_execs_nil ⟨σ,H,I,h⟩
theorem j9(h1:PS X st t)(h2:PSs X rest u):PSs X (st::rest) (DB t u):=by
 intro pins s σ H D I h
 refine wpAny_execs_cons (thn (h1 pins s σ H { D with nx:=u D } I h) fun f s1 q=>?_)
 cases f with
 | next =>
  obtain⟨σ',H',I',q⟩:=q
  exact h2 pins s1 σ' H' D I' q
 | ret v=>exact q
 | brk=>exact q
 | cont=>exact q
def tCont:TS:=fun D σ H=>D.ct σ H
theorem ka:PS X (.Continue pos) tCont:=fun _ _ σ H _ I h=>wpAny_Continue ⟨σ,H,I,h⟩
theorem Inv.quiet{pins:List (Addr × Obj)}{σ:St}{H:Hp}{s:Shared}(I:Inv X pins σ H s):interactive X.env=false:=by simp[interactive,I.ok.kind]
def AE(te:TE):TS:=fun D σ H=>te σ H fun _ H1=>D.nx σ H1
theorem gz(he:PE X e te)(hs:swapsWith e none pos.line X.env=pure false:=by rfl):PS X (.Expr e pos) (AE te):=by
 intro pins s σ H D I h
 exact wpAny_Expr_any (thn (he pins s σ H _ I h) fun v s1 ⟨x,H1,I1,r1,q1⟩=>⟨σ,H1,I1,q1⟩) I.quiet hs
def DD(te:TE):TS:=fun D σ H=>te σ H D.rt
theorem xZ(he:PE X e te):PS X (.Return (some e) pos) (DD te):=by
 intro pins s σ H D I h
 exact wpAny_Return_some (thn (he pins s σ H _ I h) fun v s1 ⟨x,H1,I1,r1,q1⟩=>⟨x,σ,H1,I1,r1,q1⟩)
def DF(c:TT)(t u:TS):TS:=fun D σ H=>c σ H fun b H1=>if b=true then t D σ H1 else u D σ H1
theorem AF{c:Expr}{a b:List Stmt}{tc:TT}(hc:PT X c tc)(ha:PSs X a t)(hb:PSs X b u):PS X (.If c a b pos) (DF tc t u):=by
 intro pins s σ H D I h
 refine wpAny_If (thn (hc pins s σ H _ I h) fun d s1 hZ=>?_)
 obtain⟨H1,I1,q1⟩:=hZ
 cases d with
 | true=>exact ha pins s1 σ H1 D I1 q1
 | false=>exact hb pins s1 σ H1 D I1 q1
def tNever:TS:=fun _ _ _=>False
theorem kb:PS X st tNever:=fun _ _ _ _ _ _ h=>h.elim
end
abbrev TG:=V->St->Hp->(St->Hp->Prop)->Prop
abbrev TGs:=List V->St->Hp->(St->Hp->Prop)->Prop
def PG(X:Cx)(target:Expr)(t:TG):Prop :=
 ∀(pins:List (Addr × Obj)) (s:Shared) (σ:St) (H:Hp) (v:V) (u:Value) (Q:St->Hp->Prop),Inv X pins σ H s->RelV v u->t v σ H Q ->
  wpAny (model X.prog X.w) X.A (assign target X.env u) (fun _ s'=>∃σ' H',Inv X pins σ' H' s'/\Q σ' H') X.xe s
def Ar(X:Cx)(ts:List Expr)(t:TGs):Prop :=
 ∀(pins:List (Addr × Obj)) (s:Shared) (σ:St) (H:Hp) (vs:List V) (us:List Value) (Q:St->Hp->Prop),Inv X pins σ H s->Vals vs us->t vs σ H Q ->
  wpAny (model X.prog X.w) X.A (assignInOrder ((assignEach ts X.env).map (·.2)) us) (fun _ s'=>∃σ' H',Inv X pins σ' H' s'/\Q σ' H') X.xe s
abbrev x9:=V->V->V->Hp->(Hp->Prop)->Prop
def PSet(X:Cx)(t:x9):Prop :=
 ∀(pins:List (Addr × Obj)) (s:Shared) (σ:St) (H:Hp) (o i v:V) (ov iv u:Value) (Q:Hp->Prop),Inv X pins σ H s->RelV o ov->RelV i iv->RelV v u->t o i v H Q ->
  wpAny (model X.prog X.w) X.A (setItem ov iv u) (fun _ s'=>∃H',Inv X pins σ H' s'/\Q H') X.xe s
abbrev TIp:=V->V->Hp->VK->Prop
def C9(X:Cx)(op:Operator)(t:TIp):Prop :=
 ∀(pins:List (Addr × Obj)) (s:Shared) (σ:St) (H:Hp) (x y:V) (v u:Value) (Q:VK),Inv X pins σ H s->RelV x v->RelV y u->t x y H Q ->
  wpAny (model X.prog X.w) X.A (inplaceOp op v u) (EP X pins σ Q) X.xe s
section
variable{X:Cx}{pos:Pos}
def kc(i:Nat):TG:=fun v σ H Q=>Q (σ.set i (some v)) H
theorem uy{i:Nat}{x:Str}(hN:X.N.Nodup)(hi:X.N[i]?=some x)(hx:Loc X.env.scope x)(hf:X.fn x=true\/X.env.scope.names.lookup x=some .local:=by first | exact .inl rfl | exact .inr rfl | assumption):PG X (.Name x pos) (kc i):=by
 intro pins s σ H v u Q I r h
 exact wpAny_assign_Name (bA I hN hi hx r (fun s' I'=>⟨_,H,I',h⟩) hf)
def gNil:TGs:=fun vs σ H Q=>vs=[]/\Q σ H
def AG(t:TG)(u:TGs):TGs:=fun vs σ H Q=>∃v r,vs=v::r/\t v σ H fun σ' H'=>u r σ' H' Q
theorem uz:Ar X [] gNil:=by
 intro pins s σ H vs us Q I r h
 obtain⟨e,h⟩:=h
 subst e
 cases r
 exact assignInOrder_nil ⟨σ,H,I,h⟩
theorem qr{e:Expr}{es:List Expr}{t:TG}{u:TGs}(h1:PG X e t)(h2:Ar X es u)
  (hs:(assignEach (e::es) X.env).map (·.2)=assign e X.env::(assignEach es X.env).map (·.2):=by rfl):Ar X (e::es) (AG t u):=by
 intro pins s σ H vs us Q I r h
 obtain⟨v,vr,e1,h⟩:=h
 subst e1
 cases r with
 | cons r rr =>
  rw[hs]
  refine assignInOrder_cons (thn (h1 pins s σ H _ _ _ I r h) fun _ s1 hZ=>?_)
  obtain⟨σ1,H1,I1,q1⟩:=hZ
  exact h2 pins s1 σ1 H1 _ _ Q I1 rr q1
def DH(K:WF)(n:Nat)(t:TGs):TG:=fun v σ H Q=>∃a xs,v=.ref a/\SqT K H a xs/\xs.length=n/\t xs σ H Q
theorem ya{es:List Expr}{k:Nat}{t:TGs}{n:Nat}(hc:X.calm=true)(h:Ar X es t)
  (hn:(assignEach es X.env).length=n:=by rfl) (hst:(assignEach es X.env).findIdx? (·.1)=none:=by rfl):PG X (.Tuple es k pos) (DH X.K n t):=by
 intro pins s σ H v u Q I r hw
 obtain⟨a,xs,e1,hq,hl,hw⟩:=hw
 subst e1
 cases r
 obtain⟨its,rv,ht,hz⟩:=I.tuple hq
 refine assign_Tuple_tuple (I.ok.hd hc) ht (by simp[hn,<- hl,rv.length]) hst fun h' hx=>?_
 have I1:Inv X pins σ H { s with heap:=h' }:=I.kept (t':=s.toks) fun b o e=>hx b o (aao (Heap.lt_size e)) e
 exact h pins _ σ H xs _ Q I1 (by simpa using rv) hw
def DJ(to ti:TE)(t:x9):TG:=fun v σ H Q=>to σ H fun o H1=>ti σ H1 fun i H2=>t o i v H2 fun H3=>Q σ H3
theorem yb{o i:Expr}{to ti:TE}{t:x9}(ho:PE X o to)(hi:PE X i ti)(hs:PSet X t)
  (ha:∀v,assign (.Subscript o i pos) X.env v=(do
   let ov <- holding [v] (eval o X.env)
   let iv <- holding [v,ov] (eval i X.env)
   standAt pos
   holding [v,ov,iv] (setItem ov iv v)
   release [v,ov,iv] []):=by intro _;rfl):PG X (.Subscript o i pos) (DJ to ti t):=by
 intro pins s σ H v u Q I r h
 rw[ha]
 refine wpAny_bind (wpAny_holding (thn (ho pins s σ H _ I h) fun ov s1 hZ=>?_))
 obtain⟨x,H1,I1,r1,q1⟩:=hZ
 refine wpAny_bind (wpAny_holding (thn (hi pins s1 σ H1 _ I1 q1) fun iv s2 hZ=>?_))
 obtain⟨y,H2,I2,r2,q2⟩:=hZ
 refine wpAny_bind (wpAny_standAt (wpAny_bind (wpAny_holding (thn (hs pins s2 σ H2 x y v ov iv u _ I2 r1 r2 r q2) fun _ s3 hZ=>?_))))
 obtain⟨H3,I3,q3⟩:=hZ
 exact wpAny_release ⟨σ,H3,I3,q3⟩
def qt(te:TE)(g:TG):TS:=fun D σ H=>te σ H fun x H1=>g x σ H1 D.nx
theorem qu{tg e:Expr}{te:TE}{g:TG}(he:PE X e te)(hg:PG X tg g)(hs:swapsWithSole [tg] e pos.line X.env=pure false:=by rfl)(hw:swappedStores [tg] e X.env=pure none:=by rfl)
  (h1:(assignEach [tg] X.env).map (·.2)=[assign tg X.env]:=by rfl):PS X (.Assign [tg] e pos) (qt te g):=by
 intro pins s σ H D I h
 refine wpAny_Assign_stores (thn (he pins s σ H _ I h) fun v s1 hZ=>?_) hs hw
 obtain⟨x,H1,I1,r1,q1⟩:=hZ
 rw[h1]
 exact thn (hg pins s1 σ H1 x v _ I1 r1 q1) fun _ s2 q=>q
theorem yc{i:Nat}{x:Str}{e:Expr}{te:TE}{pos':Pos}(hN:X.N.Nodup)(hi:X.N[i]?=some x)(hx:Loc X.env.scope x)(he:PE X e te)(hs:swapsWith e (some (.Name x pos')) pos.line X.env=pure false:=by rfl)(hf:X.fn x=true\/X.env.scope.names.lookup x=some .local:=by first | exact .inl rfl | exact .inr rfl | assumption) :
  PS X (.Assign [.Name x pos'] e pos) (qt te (kc i)):=by
 intro pins s σ H D I h
 refine wpAny_Assign_Name (thn (he pins s σ H _ I h) fun v s1 hZ=>?_) hs
 obtain⟨y,H1,I1,r1,q1⟩:=hZ
 exact bA I1 hN hi hx r1 (fun s2 I2=>⟨_,H1,I2,q1⟩) hf
def DL(i j:Nat)(ta:TA):TS:=fun D σ H=>ta σ H fun vs H1=>∃v w,vs=[v,w]/\D.nx ((σ.set i (some v)).set j (some w)) H1
theorem yd{i j:Nat}{x y:Str}{a b:Expr}{ta:TA}{px py pt:Pos}{kt k2 pt2}(hc:X.calm=true)(hN:X.N.Nodup)(hi:X.N[i]?=some x)(hj:X.N[j]?=some y)(hij:i≠j)
  (hx:X.env.scope.names.lookup x=some .local) (hy:X.env.scope.names.lookup y=some .local) (ha:PA X [a,b] ta)
  (hw:swappedStores [.Tuple [.Name x px,.Name y py] kt pt] (.Tuple [a,b] k2 pt2) X.env=pure (some [x,y]))
  (hs:swapsWithSole [.Tuple [.Name x px,.Name y py] kt pt] (.Tuple [a,b] k2 pt2) pos.line X.env=pure false:=by rfl) :
  PS X (.Assign [.Tuple [.Name x px,.Name y py] kt pt] (.Tuple [a,b] k2 pt2) pos) (DL i j ta):=by
 intro pins s σ H D I h
 rw[exec_Assign_arm]
 refine wpAny_bind (wpAny_standAt ?_)
 rw[hs]
 refine wpAny_bind (wpAny_pure ?_)
 rw[if_neg (by decide)]
 refine wpAny_bind (Tuple_ (thn (ha _ pins s σ H _ I h) fun us s1 hZ=>?_))
 obtain⟨vs,H1,I1,r1,q1⟩:=hZ
 obtain⟨v,w,e1,q1⟩:=q1
 subst e1
 obtain⟨u1,u2,rfl,rv,rw'⟩:∃u1 u2,us=[u1,u2]/\RelV v u1/\RelV w u2:=by
  cases r1 with
  | cons p q =>
   cases q with
   | cons p' q' =>
    cases q'
    exact⟨_,_,rfl,p,p'⟩
 refine wpAny_newObj_type ?_ (by show 2≤sizeLine;decide)
 have I2:Inv X pins σ H1 { s1 with heap:=s1.heap.push { cls:=.type "tuple",data:=.seq [u1,u2].toArray } }:=I1.kept (t':=s1.toks) fun b o e=>Heap.get?_push_of_some _ e
 rw[hw]
 refine wpAny_bind (wpAny_pure ?_)
 show wpAny (model X.prog X.w) X.A (do rule "assign.swapped-stores";let items <- unpackItems (.ref s1.heap.objs.size) 2 none;assignInOrder [fun v=>bindName X.env y v,fun v=>bindName X.env x v] items.reverse;pure Flow.next) _ _ _
 refine wpAny_bind (wpAny_rule (wpAny_bind (unpackItems_tuple (items:=#[u1,u2]) (I.ok.hd hc) (IsTup.new s1.heap _) fun h' hx'=>?_)))
 have I3:=I2.kept (h':=h') (t':=s1.toks) fun b o e=>hx' b o (aao (Heap.lt_size e)) e
 show wpAny _ _ (assignInOrder [fun v=>bindName X.env y v,fun v=>bindName X.env x v] [u2,u1] >>= fun _=>pure Flow.next) _ _ _
 refine wpAny_bind (assignInOrder_cons (wpAny_bindName (bA I3 hN hj (.inl hy) rw' (fun s2 I4=>?_) (.inr hy))))
 refine assignInOrder_cons (wpAny_bindName (bA I4 hN hi (.inl hx) rv (fun s3 I5=>assignInOrder_nil (wpAny_pure ?_)) (.inr hx)))
 rw[abk _ _ (aaF hij)]at I5
 exact⟨_,H1,I5,q1⟩
def DM(i:Nat)(te:TE)(ti:TIp):TS:=fun D σ H=>∃x,σ[i]?=some (some x)/\te σ H fun y H1=>ti x y H1 fun z H2=>D.nx (σ.set i (some z)) H2
theorem ye{i:Nat}{x:Str}{e:Expr}{te:TE}{op:Operator}{ti:TIp}{pos':Pos}(hN:X.N.Nodup)(hi:X.N[i]?=some x)(hx:Loc X.env.scope x)(he:PE X e te)(ho:C9 X op ti)(hf:X.fn x=true\/X.env.scope.names.lookup x=some .local:=by first | exact .inl rfl | exact .inr rfl | assumption) :
  PS X (.AugAssign (.Name x pos') op e pos) (DM i te ti):=by
 intro pins s σ H D I h
 obtain⟨v,e1,h⟩:=h
 obtain⟨m,hn,hl⟩:=I.loc
 have vis:Vis X.env.scope x:=by rcases hx with k | k;exact .inl k;exact .inr (.inl k)
 obtain⟨u,r,l⟩:=hl i x v hi e1 vis
 refine wpAny_AugAssign_Name ?_
 have go:wpAny (model X.prog X.w) X.A (eval e X.env) (fun w s₂=>wpAny (model X.prog X.w) X.A (inplaceOp op u w) (fun r s₃=>wpAny (model X.prog X.w) X.A (storeName X.env x r) (fun _=>SP X pins D .next) X.xe s₃) X.xe s₂) X.xe s:=by
  refine thn (he pins s σ H _ I h) fun w s1 hZ=>?_
  obtain⟨y,H1,I1,r1,q1⟩:=hZ
  refine thn (ho pins s1 σ H1 v y u w _ I1 r r1 q1) fun z s2 hZ=>?_
  obtain⟨zv,H2,I2,r2,q2⟩:=hZ
  exact bA I2 hN hi hx r2 (fun s3 I3=>⟨_,H2,I3,q2⟩) hf
 rcases l with ⟨hk,hm⟩ | ⟨hk,c,hc,hcell⟩
 ·exact wpAny_loadName_local I.ok.kind hk hn hm go
 ·rcases hk with hk | hk
  ·exact wpAny_loadName_cell I.ok.kind hk hc hcell go
  ·rcases hx with k | k
   ·have:X.env.scope.names.lookup x=some .free:=hk
    rw[k]at this;cases this
   ·have:X.env.scope.names.lookup x=some .free:=hk
    rw[k]at this;cases this
def DN(f:Int->Int->Int):TIp:=fun x y H Q=>∃i j,x=.int i/\y=.int j/\Q (.int (f i j)) H
theorem yf:C9 X .Add (DN fun i j=>i + j):=by
 intro pins s σ H x y v u Q I r1 r2 h
 obtain⟨i,j,e1,e2,q⟩:=h
 subst e1;subst e2
 obtain⟨t,rfl⟩:=r1
 obtain⟨t',rfl⟩:=r2
 exact iadd_int ⟨.int _,H,I.tok _,⟨_,rfl⟩,q⟩
theorem yg:C9 X .Sub (DN fun i j=>i - j):=by
 intro pins s σ H x y v u Q I r1 r2 h
 obtain⟨i,j,e1,e2,q⟩:=h
 subst e1;subst e2
 obtain⟨t,rfl⟩:=r1
 obtain⟨t',rfl⟩:=r2
 exact isub_int ⟨.int _,H,I.tok _,⟨_,rfl⟩,q⟩
end
structure It where
 go:Nat->Hp->Prop
 yld:Nat->Hp->V->Hp->Prop
 stop:Nat->Hp->Prop
def FpOk(X:Cx)(pins:List (Addr × Obj))(H:Hp)(b:Addr):Prop :=
 H b=none/\b≠X.env.locals/\b ∉ X.fs/\(b∈X.ex\/X.s₀.heap.objs.size≤b)/\(∀x c,X.env.cells.lookup x=some c->c≠b)/\∀p∈X.pn++pins,p.1≠b
theorem Inv.fpOk{X:Cx}{pins:List (Addr × Obj)}{σ:St}{H H':Hp}{s:Shared}{b:Addr}(I:Inv X pins σ H s)(hb:s.heap.objs.size≤b)(hn:H' b=none):FpOk X pins H' b:=by
 refine⟨hn,aaY (aay I.lt hb),I.nofs hb,.inr (aan I.sz hb),fun x c e z=>?_,fun p hp z=>?_⟩
 ·obtain⟨v,q⟩:=I.cell x c e
  exact absurd (aay q.lt (by rw[z];exact hb)) (aaV _)
 ·exact absurd (aay (Heap.lt_size (I.pin p hp).1) (by rw[z];exact hb)) (aaV _)
structure Turn (P:Program)(w:World)(K:WF)(tg:Expr)(J:It)(fp:List Addr)(it:Addr)(tn:Nat->Heap->Prop):Prop where
 mem:it∈fp
 obj:∀i h,tn i h->∀b∈fp,∃o,h.get? b=some o/\∀v,o.data≠.cell v
 keep:∀i h h',tn i h->(∀b∈fp,∀o,h.get? b=some o->h'.get? b=some o)->tn i h'
 item:∀(X:Cx),X.prog=P->X.w=w->X.K=K->X.calm=true->∀(i:Nat) (pins:List (Addr × Obj)) (s:Shared) (σ:St) (H:Hp) (E:Value->Shared->Prop),Inv X pins σ H s->(∀b∈fp,FpOk X pins H b)->tn i s.heap->J.go i H ->
  wpAny (model P w) X.A (pyNext (.ref it)) (fun r s1=>∃u,r=some u /\
   wpAny (model P w) X.A (letOwnedTupleGo tg (.ref it) u) (fun _ s2=>∃x H',Inv X pins σ H' s2/\RelV x u/\J.yld i H x H'/\tn (i + 1) s2.heap/\∀b∈fp,H' b=none) E s1) E s
 done:∀(X:Cx),X.prog=P->X.w=w->X.K=K->X.calm=true->∀(i:Nat) (pins:List (Addr × Obj)) (s:Shared) (σ:St) (H:Hp) (E:Value->Shared->Prop),Inv X pins σ H s->(∀b∈fp,FpOk X pins H b)->tn i s.heap->J.stop i H ->
  wpAny (model P w) X.A (pyNext (.ref it)) (fun r s1=>r=none/\Inv X pins σ H s1) E s
 self:∀(A:Around) (i:Nat) (s:Shared) (Q:Value->Shared->Prop) (E:Value->Shared->Prop),tn i s.heap->Q (.ref it) s->wpAny (model P w) A (pyIter (.ref it)) Q E s
abbrev TI:=St->Hp->(It->Hp->Prop)->Prop
def Fh(X:Cx)(pins:List (Addr × Obj))(σ:St)(tg:Expr)(R:It->Hp->Prop)(itv:Value)(s2:Shared):Prop :=
 ∃(it:Addr) (fp:List Addr) (tn:Nat->Heap->Prop) (J:It) (H':Hp),itv=.ref it/\Inv X pins σ H' s2/\Turn X.prog X.w X.K tg J fp it tn/\tn 0 s2.heap/\(∀b∈fp,FpOk X pins H' b)/\R J H'
def PI(X:Cx)(tg iter:Expr)(wi:TI):Prop :=
 ∀(pins:List (Addr × Obj)) (s:Shared) (σ:St) (H:Hp) (R:It->Hp->Prop),Inv X pins σ H s->wi σ H R ->
  wpAny (model X.prog X.w) X.A (eval iter X.env) (fun v s1=>wpAny (model X.prog X.w) X.A (pyIter v) (Fh X pins σ tg R) X.xe s1) X.xe s
theorem qw{M:Model}{A:Around}{E:Value->Shared->Prop}{s:Shared}{tg:Expr}{it:Addr}{u:Value}{o:Obj}{n:String}{vs:Array Value}{Q:Unit->Shared->Prop}(ho:s.heap.get? it=some o)(hc:o.cls=.type n)(hd:o.data=.fields vs)
  (hn:["enumerate","zip","dict_itemiterator","dict_reverseitemiterator","odict_iterator","itertools.zip_longest","itertools.pairwise"].contains n=false) (hQ:Q () s):wpAny M A (letOwnedTupleGo tg (.ref it) u) Q E s:=by
 unfold letOwnedTupleGo
 cases tg<;>first
  | exact wpAny_pure hQ
  | (cases u<;>first
    | exact wpAny_pure hQ
    | (refine wpAny_bind (wpAny_load ho ?_)
       rw[hc,hd]
       show wpAny M A (if (["enumerate","zip","dict_itemiterator","dict_reverseitemiterator","odict_iterator","itertools.zip_longest","itertools.pairwise"].contains n && vs[0]? == some (rawInt _))=true then _ else _) Q E s
       rw[if_neg (by intro h;rw[hn,Bool.false_and]at h;cases h)]
       exact wpAny_pure hQ))
def Da(K:WF)(a:Addr):It :=
 ⟨fun i H=>∃xs x,SqL K H a xs/\xs[i]?=some x,fun i H x H'=>H'=H/\∀xs,SqL K H a xs->xs[i]?=some x,fun i H=>∃xs,SqL K H a xs/\xs.length≤i⟩
def DP(K:WF)(a:Addr):It :=
 ⟨fun i H=>∃xs x,SqT K H a xs/\xs[i]?=some x,fun i H x H'=>H'=H/\∀xs,SqT K H a xs->xs[i]?=some x,fun i H=>∃xs,SqT K H a xs/\xs.length≤i⟩
def Dc(lo:Int)(n:Nat):It:=⟨fun i _=>i < n,fun i H x H'=>H'=H/\x=.int (lo + i),fun i _=>n≤i⟩
theorem oU{P:Program}{w:World}{K:WF}{tg:Expr}(a it:Addr):Turn P w K tg (Da K a) [it] it (fun i h=>h.IsListIter it a i) where
 mem:=by simp
 obj:=fun i h st b hb=>by
  have e:b=it:=by simpa using hb
  subst e
  obtain⟨o,e,c,d⟩:=st
  exact⟨o,e,fun v z=>by rw[d]at z;cases z⟩
 keep:=fun i h h' st k=>st.at fun o e=>k it (by simp) o e
 item:=by
  intro X hP hw hK hc i pins s σ H E I hf st hg
  subst hP hw hK
  obtain⟨xs,x,hq,hx⟩:=hg
  obtain⟨its,rv,p,hz⟩:=I.list hq
  obtain⟨u,hu,ru⟩:=rv.get hx
  obtain⟨f0,f1,f2,f3,f4,f5⟩:=hf it (by simp)
  refine wpAny_pyNext_list_item st p.isList (x:=u) (by simpa using hu) fun h' st' sb=>?_
  have I1:Inv X pins σ H { s with heap:=h' }:=I.turned (t':=s.toks) (fun b o hb e=>(sb.2 b hb).trans e) f0 f1 f3 f4 f5
  obtain⟨o,e,c,d⟩:=id st'
  exact⟨u,rfl,qw (s:={ s with heap:=h' }) e c d (by decide) ⟨x,H,I1,ru,⟨rfl,fun ys hy=>by rw[I.list_inj hy hq];exact hx⟩,st',fun b hb=>(hf b hb).1⟩⟩
 done:=by
  intro X hP hw hK hc i pins s σ H E I hf st hg
  subst hP hw hK
  obtain⟨xs,hq,hx⟩:=hg
  obtain⟨its,rv,p,hz⟩:=I.list hq
  obtain⟨f0,f1,f2,f3,f4,f5⟩:=hf it (by simp)
  have hl:=rv.length
  exact wpAny_pyNext_list_end (I.ok.hd hc) st p.isList (by simp;omega) fun h' eb=>⟨rfl,I.turned (t':=s.toks) (fun b o hb e=>eb b o hb e) f0 f1 f3 f4 f5⟩
 self:=fun _ _ _ _ _ st h=>wpAny_pyIter_listiter st h
theorem lD{P:Program}{w:World}{K:WF}{tg:Expr}(a it:Addr):Turn P w K tg (DP K a) [it] it (fun i h=>h.IsTupleIter it a i) where
 mem:=by simp
 obj:=fun i h st b hb=>by
  have e:b=it:=by simpa using hb
  subst e
  obtain⟨o,e,c,d⟩:=st
  exact⟨o,e,fun v z=>by rw[d]at z;cases z⟩
 keep:=fun i h h' st k=>st.at fun o e=>k it (by simp) o e
 item:=by
  intro X hP hw hK hc i pins s σ H E I hf st hg
  subst hP hw hK
  obtain⟨xs,x,hq,hx⟩:=hg
  obtain⟨its,rv,p,hz⟩:=I.tuple hq
  obtain⟨u,hu,ru⟩:=rv.get hx
  obtain⟨f0,f1,f2,f3,f4,f5⟩:=hf it (by simp)
  refine wpAny_pyNext_tuple_item st (show s.heap.IsTuple a its.toArray from p) (x:=u) (by simpa using hu) fun h' st' sb=>?_
  have I1:Inv X pins σ H { s with heap:=h' }:=I.turned (t':=s.toks) (fun b o hb e=>(sb.2 b hb).trans e) f0 f1 f3 f4 f5
  obtain⟨o,e,c,d⟩:=id st'
  exact⟨u,rfl,qw (s:={ s with heap:=h' }) e c d (by decide) ⟨x,H,I1,ru,⟨rfl,fun ys hy=>by rw[I.tuple_inj hy hq];exact hx⟩,st',fun b hb=>(hf b hb).1⟩⟩
 done:=by
  intro X hP hw hK hc i pins s σ H E I hf st hg
  subst hP hw hK
  obtain⟨xs,hq,hx⟩:=hg
  obtain⟨its,rv,p,hz⟩:=I.tuple hq
  obtain⟨f0,f1,f2,f3,f4,f5⟩:=hf it (by simp)
  have hl:=rv.length
  exact wpAny_pyNext_tuple_end (I.ok.hd hc) st (show s.heap.IsTuple a its.toArray from p) (by simp;omega) fun h' eb=>⟨rfl,I.turned (t':=s.toks) (fun b o hb e=>eb b o hb e) f0 f1 f3 f4 f5⟩
 self:=fun _ _ _ _ _ st h=>wpAny_pyIter_tupleiter st h
theorem lE{P:Program}{w:World}{K:WF}{tg:Expr}(it:Addr)(lo:Int)(n:Nat):Turn P w K tg (Dc lo n) [it] it (fun i h=>IsRangeIter h it (lo + (i:Nat) * 1) ((n:Int) - (i:Nat)) 1) where
 mem:=by simp
 obj:=fun i h st b hb=>by
  have e:b=it:=by simpa using hb
  subst e
  exact⟨_,st,fun v z=>by
   have z':Data.fields _=Data.cell v:=z
   cases z'⟩
 keep:=fun i h h' st k=>k it (by simp) _ st
 item:=by
  intro X hP hw hK hc i pins s σ H E I hf st hg
  subst hP hw hK
  obtain⟨f0,f1,f2,f3,f4,f5⟩:=hf it (by simp)
  have W:=Walks.range (prog:=X.prog) (w:=X.w) (I.ok.hd hc) it lo 1 n
  refine W.item i s _ _ hg st fun v h' tk hv st' kk=>?_
  obtain⟨t,rfl⟩:=hv
  have I1:Inv X pins σ H { s with heap:=h',toks:=tk }:=I.turned (fun b o hb e=>kk b o (by simpa using hb) e) f0 f1 f3 f4 f5
  refine⟨_,rfl,qw (s:={ s with heap:=h',toks:=tk }) (n:="range_iterator") st' rfl rfl (by decide) ⟨.int (lo + i),H,I1,⟨t,?_⟩,⟨rfl,rfl⟩,st',fun b hb=>(hf b hb).1⟩⟩
  rw[Int.mul_one]
 done:=by
  intro X hP hw hK hc i pins s σ H E I hf st hg
  subst hP hw hK
  obtain⟨f0,f1,f2,f3,f4,f5⟩:=hf it (by simp)
  exact wpAny_pyNext_range_end (I.ok.hd hc) st (by have:n≤i:=hg;omega) fun h' eb=>⟨rfl,I.turned (t':=s.toks) (fun b o hb e=>eb b o hb e) f0 f1 f3 f4 f5⟩
 self:=fun _ _ _ _ _ st h=>wpAny_pyIter_rangeiter st h
end
section
section
variable{X:Cx}{tg:Expr}
def AH(K:WF)(tl:TE):TI:=fun σ H R=>tl σ H fun x H1=>∃a,x=.ref a/\(∃xs,SqL K H1 a xs)/\R (Da K a) H1
def DQ(K:WF)(tl:TE):TI:=fun σ H R=>tl σ H fun x H1=>∃a,x=.ref a/\(∃xs,SqT K H1 a xs)/\R (DP K a) H1
theorem mS{l:Expr}{tl:TE}(hl:PE X l tl):PI X tg l (AH X.K tl):=by
 intro pins s σ H R I h
 refine thn (hl pins s σ H _ I h) fun v s1 hZ=>?_
 obtain⟨x,H1,I1,r1,q1⟩:=hZ
 obtain⟨a,e,⟨xs,hq⟩,q⟩:=q1
 subst e
 cases r1
 obtain⟨its,rv,p,hz⟩:=I1.list hq
 refine wpAny_pyIter_list p.isList ?_
 refine⟨s1.heap.objs.size,[s1.heap.objs.size],_,_,H1,rfl,I1.kept (t':=s1.toks) fun b o e=>Heap.get?_push_of_some _ e,oU a _,⟨_,Heap.get?_push_size _ rfl,rfl,rfl⟩,fun b hb=>?_,q⟩
 have e:b=s1.heap.objs.size:=by simpa using hb
 subst e
 exact I1.fpOk (aaf _) (I1.hok.fresh (aaf _))
theorem yh{l:Expr}{tl:TE}(hl:PE X l tl):PI X tg l (DQ X.K tl):=by
 intro pins s σ H R I h
 refine thn (hl pins s σ H _ I h) fun v s1 hZ=>?_
 obtain⟨x,H1,I1,r1,q1⟩:=hZ
 obtain⟨a,e,⟨xs,hq⟩,q⟩:=q1
 subst e
 cases r1
 obtain⟨its,rv,p,hz⟩:=I1.tuple hq
 refine wpAny_pyIter_tuple (show s1.heap.IsTuple a its.toArray from p) ?_
 refine⟨s1.heap.objs.size,[s1.heap.objs.size],_,_,H1,rfl,I1.kept (t':=s1.toks) fun b o e=>Heap.get?_push_of_some _ e,lD a _,⟨_,Heap.get?_push_size _ rfl,rfl,rfl⟩,fun b hb=>?_,q⟩
 have e:b=s1.heap.objs.size:=by simpa using hb
 subst e
 exact I1.fpOk (aaf _) (I1.hok.fresh (aaf _))
theorem qx{pins:List (Addr × Obj)}{σ:St}{H:Hp}{s:Shared}{R:It->Hp->Prop}{E:Value->Shared->Prop}{lo hi:Int}{t u v:Tok}{tk:Nat}(I:Inv X pins σ H s)(h1:-(2 ^ 62)≤lo)(h2:lo < 2 ^ 62)(h3:-(2 ^ 62)≤hi)(h4:hi < 2 ^ 62)
  (q:R (Dc lo (hi - lo).toNat) H):wpAny (model X.prog X.w) X.A (pyIter (.ref s.heap.objs.size)) (Fh X pins σ tg R) E { s with heap:=s.heap.push { cls:=.type "range",data:=.fields #[.int lo t,.int hi u,.int 1 v] },toks:=tk }:=by
 refine wpAny_pyIter_range (IsRange.new ..) (small_one h1 h2 h3 h4) ?_
 have I1:Inv X pins σ H { s with heap:=s.heap.push { cls:=.type "range",data:=.fields #[.int lo t,.int hi u,.int 1 v] },toks:=tk }:=I.kept fun b o e=>Heap.get?_push_of_some _ e
 refine⟨(s.heap.push { cls:=.type "range",data:=.fields #[.int lo t,.int hi u,.int 1 v] }).objs.size,[(s.heap.push { cls:=.type "range",data:=.fields #[.int lo t,.int hi u,.int 1 v] }).objs.size],_,_,H,rfl,
  I1.kept (t':=tk) fun b o e=>Heap.get?_push_of_some _ e,lE _ lo (hi - lo).toNat,?_,fun b hb=>?_,q⟩
 ·have e1:lo + ((0:Nat):Int) * 1=lo:=by simp
  have e2:(((hi - lo).toNat:Nat):Int) - ((0:Nat):Int)=Builtin.Range.rangeSize lo hi 1:=by rw[rangeSize_one];split<;>omega
  show IsRangeIter _ _ (lo + ((0:Nat):Int) * 1) ((((hi - lo).toNat:Nat):Int) - ((0:Nat):Int)) 1
  rw[e1,e2]
  exact Heap.get?_push_size _ rfl
 ·have e:b=(s.heap.push { cls:=.type "range",data:=.fields #[.int lo t,.int hi u,.int 1 v] }).objs.size:=by simpa using hb
  subst e
  exact I1.fpOk (aaf _) (I1.hok.fresh (aaf _))
def AI(ta:TA):TI:=fun σ H R=>ta σ H fun vs H1=>∃j:Int,vs=[.int j]/\-(2 ^ 62)≤j/\j < 2 ^ 62/\R (Dc 0 j.toNat) H1
theorem oV {a:Expr} {ta:TA} {p pos:Pos} (hg:Gl X "range") (hm:X.mg "range"=none) (ha:PA X [a] ta) (hs:starEach [a] X.env=[(false,eval a X.env)]:=by rfl):PI X tg (.Call (.Name "range" p) [a] [] pos) (AI ta):=by
 intro pins s σ H R I h
 refine Call_ (fH I hg hm boot_range (abl (thn (ha pos pins s σ H _ I h) fun us s1 hZ=>?_) hs rfl))
 obtain⟨vs,H1,I1,r1,q1⟩:=hZ
 obtain⟨j,e,q1,q2,q⟩:=q1
 subst e
 cases r1 with
 | cons r rr =>
  cases rr
  obtain⟨t,rfl⟩:=r
  exact call_range_1 (qx I1 (by omega) (by omega) q1 q2 (by simpa using q))
def DR(wi:TI)(g:TG)(tb:TS):TS:=fun D σ H=>wi σ H fun J H1=>∃W:Nat->Nat->St->Hp->Prop,(∃m,W 0 m σ H1)/\∀i m σ H,W i m σ H ->
 (J.stop i H/\D.nx σ H)\/(J.go i H/\∃N:St->Hp->Prop,(∀σ' H',N σ' H'->∃m',m' < m/\W (i + 1) m' σ' H')/\∀x H',J.yld i H x H'->g x σ H' fun σ2 H2=>tb { D with nx:=N,ct:=N,bk:=D.nx } σ2 H2)
def pinsAt(fp:List Addr)(h:Heap):List (Addr × Obj):=fp.filterMap fun b=>(h.get? b).map fun o=>(b,o)
theorem br{fp:List Addr}{h:Heap}{b:Addr}{o:Obj}(hb:b∈fp)(e:h.get? b=some o):(b,o)∈pinsAt fp h:=List.mem_filterMap.mpr ⟨b,hb,by rw[e];rfl⟩
theorem oW{fp:List Addr}{h:Heap}{p:Addr × Obj}(hp:p∈pinsAt fp h):p.1∈fp/\h.get? p.1=some p.2:=by
 obtain⟨b,hb,e⟩:=List.mem_filterMap.mp hp
 cases q:h.get? b with
 | none=>rw[q]at e;cases e
 | some o =>
  rw[q]at e
  have e':(b,o)=p:=aaA e
  subst e'
  exact⟨hb,q⟩
theorem Inv.pinned{pins:List (Addr × Obj)}{σ:St}{H:Hp}{s:Shared}{fp:List Addr}(I:Inv X pins σ H s)(hf:∀b∈fp,FpOk X pins H b)(ho:∀b∈fp,∃o,s.heap.get? b=some o/\∀v,o.data≠.cell v):Inv X (pins++pinsAt fp s.heap) σ H s :=
 I.pins_of fun p hp=>(aai.mp hp).elim (fun z=>I.pin p (aab _ z)) fun z=>by
  obtain⟨hb,e⟩:=oW z
  obtain⟨f0,f1,f2,_⟩:=hf p.1 hb
  obtain⟨o,e',d⟩:=ho p.1 hb
  rw[e]at e';cases e'
  exact⟨e,f0,f1,f2,d⟩
theorem Inv.unpinned{pins pl:List (Addr × Obj)}{σ:St}{H:Hp}{s:Shared}(I:Inv X (pins++pl) σ H s):Inv X pins σ H s:=I.pins_of fun p hp=>I.pin p (aab _ (aad _ hp))
theorem yi{iter:Expr}{body:List Stmt}{wi:TI}{g:TG}{tb:TS}{pos:Pos}(hp:PassesOwn (model X.prog X.w) X.A X.env X.xe)(hc:X.calm=true)(hi:PI X tg iter wi)(hg:PG X tg g)(hb:PSs X body tb)
  (hs:∀x,foldedSetIterable iter X.env x=pure x:=by intro _;rfl):PS X (.For tg iter body [] pos) (DR wi g tb):=by
 intro pins s σ H D I h
 refine wpAny_For (thn (hi pins s σ H _ I h) fun v s1 h1=>thn h1 fun itv s2 h2=>?_) hs
 obtain⟨it,fp,tn,J,H2,e,I2,T,st2,f2,W,⟨m0,w0⟩,turn⟩:=h2
 subst e
 have stat:∀{H':Hp},(∀b∈fp,H' b=none)->∀b∈fp,FpOk X pins H' b:=fun hn b hb=>⟨hn b hb,(f2 b hb).2⟩
 refine codeAny_forLoop_any (fun n s'=>∃i σ' H',Inv X pins σ' H' s'/\tn i s'.heap/\(∀b∈fp,H' b=none)/\W i n σ' H') ?_ m0 ⟨0,σ,H2,I2,st2,fun b hb=>(f2 b hb).1,w0⟩
 rintro n s3 ⟨i,σ3,H3,I3,st3,fr3,w3⟩
 rcases turn i n σ3 H3 w3 with ⟨stop,qn⟩ | ⟨go,N,hN,step⟩
 ·refine wpAny_passesOwn hp (thn (T.done X rfl rfl rfl hc i pins s3 σ3 H3 X.xe I3 (stat fr3) st3 stop) fun r s4 hZ=>?_)
  obtain⟨hr,I4⟩:=hZ
  subst hr
  exact wpAny_execs_nil ⟨σ3,H3,I4,qn⟩
 ·refine wpAny_passesOwn hp (thn (T.item X rfl rfl rfl hc i pins s3 σ3 H3 X.xe I3 (stat fr3) st3 go) fun r s4 hZ=>?_)
  obtain⟨u,hr,h4⟩:=hZ
  subst hr
  refine wpAny_passesOwn hp (thn h4 fun _ s5 hZ=>?_)
  obtain⟨x,H5,I5,r5,y5,st5,fr5⟩:=hZ
  have I5':=I5.pinned (stat fr5) (T.obj _ _ st5)
  refine wpAny_passesOwn hp (thn (hg _ s5 σ3 H5 x u _ I5' r5 (step x H5 y5)) fun _ s6 hZ=>?_)
  obtain⟨σ6,H6,I6,q6⟩:=hZ
  refine wpAny_passesOwn hp (thn (hb _ s6 σ6 H6 _ I6 q6) fun f s7 q7=>?_)
  have again:∀{σ7:St} {H7:Hp},Inv X (pins++pinsAt fp s5.heap) σ7 H7 s7->N σ7 H7->∃m,m < n/\∃i σ' H',Inv X pins σ' H' s7/\tn i s7.heap/\(∀b∈fp,H' b=none)/\W i m σ' H':=fun {σ7 H7} I7 n7=>by
   obtain⟨m',hm,w7⟩:=hN σ7 H7 n7
   refine⟨m',hm,i + 1,σ7,H7,I7.unpinned,T.keep _ _ _ st5 fun b hb o e=>(I7.pin (b,o) (aab _ (aab _ (br hb e)))).1,fun b hb=>?_,w7⟩
   obtain⟨o,e,d⟩:=T.obj _ _ st5 b hb
   exact (I7.pin (b,o) (aab _ (aab _ (br hb e)))).2.1
  cases f with
  | next=>obtain⟨σ7,H7,I7,n7⟩:=q7;exact again I7 n7
  | cont=>obtain⟨σ7,H7,I7,n7⟩:=q7;exact again I7 n7
  | brk=>obtain⟨σ7,H7,I7,q7⟩:=q7;exact⟨σ7,H7,I7.unpinned,q7⟩
  | ret v=>obtain⟨x7,σ7,H7,I7,r7,q7⟩:=q7;exact⟨x7,σ7,H7,I7.unpinned,r7,q7⟩
end
end
section
abbrev R2:=V->V->Hp->VK->Prop
def OpR(X:Cx)(f:Value->Value->Sem Value)(r:R2):Prop :=
 ∀(pins:List (Addr × Obj)) (s:Shared) (σ:St) (H:Hp) (x y:V) (v u:Value) (Q:VK),Inv X pins σ H s->RelV x v->RelV y u->r x y H Q ->
  wpAny (model X.prog X.w) X.A (f v u) (EP X pins σ Q) X.xe s
def DU(X:Cx)(f:Value->Sem Value)(r:V->Hp->VK->Prop):Prop :=
 ∀(pins:List (Addr × Obj)) (s:Shared) (σ:St) (H:Hp) (x:V) (v:Value) (Q:VK),Inv X pins σ H s->RelV x v->r x H Q ->
  wpAny (model X.prog X.w) X.A (f v) (EP X pins σ Q) X.xe s
def bN(X:Cx)(f:Value)(r:List V->Hp->VK->Prop):Prop :=
 ∀(pins:List (Addr × Obj)) (s:Shared) (σ:St) (H:Hp) (xs:List V) (us:List Value) (Q:VK),Inv X pins σ H s->Vals xs us->r xs H Q ->
  wpAny (model X.prog X.w) X.A (call f us) (EP X pins σ Q) X.xe s
def DV(X:Cx)(r:V->Hp->(Bool->Hp->Prop)->Prop):Prop :=
 ∀(pins:List (Addr × Obj)) (s:Shared) (σ:St) (H:Hp) (x:V) (v:Value) (Q:Bool->Hp->Prop),Inv X pins σ H s->RelV x v->r x H Q ->
  wpAny (model X.prog X.w) X.A (truthy v) (TP X pins σ Q) X.xe s
def yj(r:R2)(ta tb:TE):TE:=fun σ H Q=>ta σ H fun x H1=>tb σ H1 fun y H2=>r x y H2 Q
def FD(r:V->Hp->VK->Prop)(ta:TE):TE:=fun σ H Q=>ta σ H fun x H1=>r x H1 Q
def rI(C:Int->Int->Prop)(g:Int->Int->V):R2:=fun x y H Q=>∃i j,x=.int i/\y=.int j/\C i j/\Q (g i j) H
def ul(g:Int->Int->V):R2:=fun x y H Q=>∃i j,x=.int i/\y=.int j/\Q (g i j) H
def rU(g:Int->V):V->Hp->VK->Prop:=fun x H Q=>∃i,x=.int i/\Q (g i) H
section
variable{X:Cx}{a b c:Expr}{ta tb tc:TE}{pos:Pos}
theorem yk(ha:PE X a ta)(hb:PE X b tb){pins:List (Addr × Obj)}{s:Shared}{σ:St}{H:Hp}{R:V->V->Hp->Prop}(I:Inv X pins σ H s)
  (h:ta σ H fun x H1=>tb σ H1 fun y H2=>R x y H2) {Q:Value->Shared->Prop} {f:Value->Value->Sem Value}
  (hf:∀v u s2 x y H2,Inv X pins σ H2 s2->RelV x v->RelV y u->R x y H2->wpAny (model X.prog X.w) X.A (f v u) Q X.xe s2) :
  wpAny (model X.prog X.w) X.A (eval a X.env) (fun v s₁=>wpAny (model X.prog X.w) X.A (eval b X.env) (fun u s₂=>wpAny (model X.prog X.w) X.A (f v u) Q X.xe s₂) X.xe s₁) X.xe s:=by
 refine thn (ha pins s σ H _ I h) fun v s1 hZ=>?_
 obtain⟨x,H1,I1,r1,q1⟩:=hZ
 refine thn (hb pins s1 σ H1 _ I1 q1) fun u s2 hZ=>?_
 obtain⟨y,H2,I2,r2,q2⟩:=hZ
 exact hf v u s2 x y H2 I2 r1 r2 q2
theorem wV{op:Operator}{r:R2}(ho:OpR X (binaryOp op) r)(ha:PE X a ta)(hb:PE X b tb):PE X (.BinOp a op b pos) (yj r ta tb):=by
 intro pins s σ H Q I h
 exact wpAny_BinOp (yk ha hb I h fun v u s2 x y H2 I2 rx ry q=>ho pins s2 σ H2 x y v u Q I2 rx ry q)
theorem wW{op:UnaryOp}{r:V->Hp->VK->Prop}(ho:DU X (unaryOp op) r)(ha:PE X a ta):PE X (.UnaryOp op a pos) (FD r ta):=by
 intro pins s σ H Q I h
 exact UnaryOp_ (thn (ha pins s σ H _ I h) fun v s1 ⟨x,H1,I1,r1,q1⟩=>ho pins s1 σ H1 x v Q I1 r1 q1)
theorem Dg{f:Value->Value->Sem Value}{C:Int->Int->Prop}{g:Int->Int->Int}
  (rule:∀(i j:Int) (t u:Tok) (s:Shared) (Q:Value->Shared->Prop) (E:Value->Shared->Prop),C i j->Q (.int (g i j) s.toks) { s with toks:=s.toks + 1 }->wpAny (model X.prog X.w) X.A (f (.int i t) (.int j u)) Q E s) :
  OpR X f (rI C fun i j=>.int (g i j)):=by
 intro pins s σ H x y v u Q I rx ry h
 obtain⟨i,j,rfl,rfl,hc,q⟩:=h
 obtain⟨t,rfl⟩:=rx
 obtain⟨t',rfl⟩:=ry
 exact rule i j t t' s _ _ hc ⟨.int (g i j),H,I.tok _,⟨_,rfl⟩,q⟩
theorem AJ{f:Value->Value->Sem Value}{g:Int->Int->Int}
  (rule:∀(i j:Int) (t u:Tok) (s:Shared) (Q:Value->Shared->Prop) (E:Value->Shared->Prop),Q (.int (g i j) s.toks) { s with toks:=s.toks + 1 }->wpAny (model X.prog X.w) X.A (f (.int i t) (.int j u)) Q E s) :
  OpR X f (ul fun i j=>.int (g i j)):=by
 intro pins s σ H x y v u Q I rx ry h
 obtain⟨i,j,rfl,rfl,q⟩:=h
 obtain⟨t,rfl⟩:=rx
 obtain⟨t',rfl⟩:=ry
 exact rule i j t t' s _ _ ⟨.int (g i j),H,I.tok _,⟨_,rfl⟩,q⟩
theorem uA{f:Value->Value->Sem Value}{g:Int->Int->Bool}
  (rule:∀(i j:Int) (t u:Tok) (s:Shared) (Q:Value->Shared->Prop) (E:Value->Shared->Prop),Q (.bool (g i j)) s->wpAny (model X.prog X.w) X.A (f (.int i t) (.int j u)) Q E s) :
  OpR X f (ul fun i j=>.bl (g i j)):=by
 intro pins s σ H x y v u Q I rx ry h
 obtain⟨i,j,rfl,rfl,q⟩:=h
 obtain⟨t,rfl⟩:=rx
 obtain⟨t',rfl⟩:=ry
 exact rule i j t t' s _ _ ⟨.bl (g i j),H,I,rfl,q⟩
def DW(i j:Int):Prop:=0 < j/\j < 1073741824
def DX(i j:Int):Prop:=0≤j/\j≤1000000/\i.natAbs < 2 ^ 64
def CMul(i j:Int):Prop:=(-(2 ^ 64) < i/\i < 2 ^ 64)\/(-(2 ^ 64) < j/\j < 2 ^ 64)
theorem CMul.ok{i j:Int}(h:CMul i j):IntMulOk i j:=by
 rcases h with ⟨h1,h2⟩ | ⟨h1,h2⟩
 ·exact .of_left (intBits_le_64 h1 h2)
 ·exact .of_right (intBits_le_64 h1 h2)
theorem yl:OpR X (binaryOp .Add) (ul fun i j=>.int (i + j)):=AJ fun _ _ _ _ _ _ _ q=>add_int q
theorem ym:OpR X (binaryOp .Sub) (ul fun i j=>.int (i - j)):=AJ fun _ _ _ _ _ _ _ q=>sub_int q
theorem yn:OpR X (binaryOp .Mult) (rI CMul fun i j=>.int (i * j)):=Dg fun _ _ _ _ _ _ _ hc q=>mul_int q hc.ok
theorem uB:OpR X (binaryOp .FloorDiv) (rI DW fun i j=>.int (i / j)):=Dg fun i j _ _ _ _ _ hc q=>by
 have h1:(0:Int) < j:=hc.1
 have h2:j < 1073741824:=hc.2
 exact floordiv_int (by omega) (by rw[Int.fdiv_eq_ediv_of_nonneg i (by omega)];exact q) (.inl (PyProof.noPylong_small (by omega)))
theorem yo:OpR X (binaryOp .Mod) (rI (fun _ j=>0 < j) fun i j=>.int (i % j)):=Dg fun i j _ _ _ _ _ hc q=>by
 have h1:(0:Int) < j:=hc
 exact mod_int' (by omega) (by rw[Int.fmod_eq_emod_of_nonneg i (by omega)];exact q)
theorem yp:OpR X (binaryOp .Pow) (rI DX fun i j=>.int (i ^ j.toNat)):=Dg fun _ _ _ _ _ _ _ hc q=>pow_int_small hc.1 hc.2.1 hc.2.2 q
theorem FE{f:Value->Sem Value}{g:Int->Int}
  (rule:∀(i:Int) (t:Tok) (s:Shared) (Q:Value->Shared->Prop) (E:Value->Shared->Prop),Q (.int (g i) s.toks) { s with toks:=s.toks + 1 }->wpAny (model X.prog X.w) X.A (f (.int i t)) Q E s) :
  DU X f (rU fun i=>.int (g i)):=by
 intro pins s σ H x v Q I rx h
 obtain⟨i,rfl,q⟩:=h
 obtain⟨t,rfl⟩:=rx
 exact rule i t s _ _ ⟨.int (g i),H,I.tok _,⟨_,rfl⟩,q⟩
theorem qy:DU X (unaryOp .USub) (rU fun i=>.int (-i)):=FE fun _ _ _ _ _ q=>neg_int q
end
def yq:V->V->Bool
 | .non,.non=>true | .non,.int _=>true | .int _,.non=>true | .non,.bl _=>true | .bl _,.non=>true | .non,.str _=>true | .str _,.non=>true
 | .int _,.int _=>true | .bl _,.bl _=>true | .str _,.str _=>true | .byt _,.byt _=>true
 | .int _,.str _=>true | .str _,.int _=>true | .bl _,.str _=>true | .str _,.bl _=>true
 | _,_=>false
def rEq:R2:=fun x y H Q=>yq x y=true/\Q (.bl (decide (x=y))) H
def rNe:R2:=fun x y H Q=>yq x y=true/\Q (.bl (!decide (x=y))) H
theorem mU{i j:Int}:decide (V.int i=V.int j)=(i == j):=by
 rw[abm]
 simp
theorem qz{i j:Bool}:decide (V.bl i=V.bl j)=(i == j):=by
 rw[abm]
 simp
theorem mV{i j:Str}:decide (V.str i=V.str j)=(i == j):=by
 rw[abm]
 simp
theorem mW{i j:Array UInt8}:decide (V.byt i=V.byt j)=(i.toList == j.toList):=by
 rw[abm]
 cases i
 cases j
 simp
section
variable{X:Cx}{a b c:Expr}{ta tb tc:TE}{pos:Pos}
theorem aw{pins:List (Addr × Obj)}{σ:St}{H:Hp}{s:Shared}{Q:VK}{k k':Bool}(I:Inv X pins σ H s)(q:Q (.bl k) H)(e:k=k'):EP X pins σ Q (.bool k') s:=by
 subst e
 exact⟨.bl k,H,I,rfl,q⟩
theorem op_eq:OpR X (compareOp .Eq) rEq:=by
 intro pins s σ H x y v u Q I rx ry h
 obtain⟨hs,q⟩:=h
 cases x with
 | non =>
  cases rx
  cases y with
  | non=>cases ry;exact PySem.EqNone.eq_none_none (aw I q (by simp))
  | bl j=>cases ry;exact PySem.EqNone.eq_none_bool (aw I q (by simp))
  | int j=>obtain⟨t',rfl⟩:=ry;exact PySem.EqNone.eq_none_int (aw I q (by simp))
  | str j=>obtain⟨t',rfl⟩:=ry;exact PySem.EqNone.eq_none_str (aw I q (by simp))
  | _=>exact absurd (show false=true from hs) aae
 | bl i =>
  cases rx
  cases y with
  | non=>cases ry;exact PySem.EqNone.eq_bool_none (aw I q (by simp))
  | bl j=>cases ry;exact eq_bool (aw I q qz)
  | str j=>obtain⟨t',rfl⟩:=ry;exact PySem.EqMixed.eq_bool_str (aw I q (by simp))
  | _=>exact absurd (show false=true from hs) aae
 | int i =>
  obtain⟨t,rfl⟩:=rx
  cases y with
  | non=>cases ry;exact PySem.EqNone.eq_int_none (aw I q (by simp))
  | int j=>obtain⟨t',rfl⟩:=ry;exact eq_int (aw I q mU)
  | str j=>obtain⟨t',rfl⟩:=ry;exact PySem.EqMixed.eq_int_str (aw I q (by simp))
  | _=>exact absurd (show false=true from hs) aae
 | str i =>
  obtain⟨t,rfl⟩:=rx
  cases y with
  | non=>cases ry;exact PySem.EqNone.eq_str_none (aw I q (by simp))
  | bl j=>cases ry;exact PySem.EqMixed.eq_str_bool (aw I q (by simp))
  | int j=>obtain⟨t',rfl⟩:=ry;exact PySem.EqMixed.eq_str_int (aw I q (by simp))
  | str j=>obtain⟨t',rfl⟩:=ry;exact eq_str (aw I q mV)
  | _=>exact absurd (show false=true from hs) aae
 | byt i =>
  obtain⟨t,rfl⟩:=rx
  cases y with
  | byt j=>obtain⟨t',rfl⟩:=ry;exact PySem.W.eq_bytes (aw I q mW)
  | _=>exact absurd (show false=true from hs) aae
 | _=>cases y<;>exact absurd (show false=true from hs) aae
theorem op_ne:OpR X (compareOp .NotEq) rNe:=by
 intro pins s σ H x y v u Q I rx ry h
 obtain⟨hs,q⟩:=h
 cases x with
 | non =>
  cases rx
  cases y with
  | non=>cases ry;exact PySem.EqNone.ne_none_none (aw I q (by simp))
  | bl j=>cases ry;exact PySem.EqNone.ne_none_bool (aw I q (by simp))
  | int j=>obtain⟨t',rfl⟩:=ry;exact PySem.EqNone.ne_none_int (aw I q (by simp))
  | str j=>obtain⟨t',rfl⟩:=ry;exact PySem.EqNone.ne_none_str (aw I q (by simp))
  | _=>exact absurd (show false=true from hs) aae
 | bl i =>
  cases rx
  cases y with
  | non=>cases ry;exact PySem.EqNone.ne_bool_none (aw I q (by simp))
  | bl j=>cases ry;exact ne_bool (aw I q (congrArg not qz))
  | str j=>obtain⟨t',rfl⟩:=ry;exact PySem.EqMixed.ne_bool_str (aw I q (by simp))
  | _=>exact absurd (show false=true from hs) aae
 | int i =>
  obtain⟨t,rfl⟩:=rx
  cases y with
  | non=>cases ry;exact PySem.EqNone.ne_int_none (aw I q (by simp))
  | int j=>obtain⟨t',rfl⟩:=ry;exact ne_int (aw I q (congrArg not mU))
  | str j=>obtain⟨t',rfl⟩:=ry;exact PySem.EqMixed.ne_int_str (aw I q (by simp))
  | _=>exact absurd (show false=true from hs) aae
 | str i =>
  obtain⟨t,rfl⟩:=rx
  cases y with
  | non=>cases ry;exact PySem.EqNone.ne_str_none (aw I q (by simp))
  | bl j=>cases ry;exact PySem.EqMixed.ne_str_bool (aw I q (by simp))
  | int j=>obtain⟨t',rfl⟩:=ry;exact PySem.EqMixed.ne_str_int (aw I q (by simp))
  | str j=>obtain⟨t',rfl⟩:=ry;exact ne_str (aw I q (congrArg not mV))
  | _=>exact absurd (show false=true from hs) aae
 | byt i =>
  obtain⟨t,rfl⟩:=rx
  cases y with
  | byt j=>obtain⟨t',rfl⟩:=ry;exact PySem.W.ne_bytes (aw I q (congrArg not mW))
  | _=>exact absurd (show false=true from hs) aae
 | _=>cases y<;>exact absurd (show false=true from hs) aae
theorem AK:OpR X (compareOp .Lt) (ul fun i j=>.bl (decide (i < j))):=uA fun _ _ _ _ _ _ _ q=>lt_int q
theorem AL:OpR X (compareOp .LtE) (ul fun i j=>.bl (decide (i≤j))):=uA fun _ _ _ _ _ _ _ q=>le_int q
theorem AM:OpR X (compareOp .Gt) (ul fun i j=>.bl (decide (j < i))):=uA fun _ _ _ _ _ _ _ q=>gt_int q
theorem AN:OpR X (compareOp .GtE) (ul fun i j=>.bl (decide (j≤i))):=uA fun _ _ _ _ _ _ _ q=>ge_int q
theorem OpR.or{f:Value->Value->Sem Value}{r r':R2}(h:OpR X f r)(h':OpR X f r'):OpR X f (fun x y H Q=>r x y H Q\/r' x y H Q):=by
 intro pins s σ H x y v u Q I rx ry q
 rcases q with q | q
 ·exact h pins s σ H x y v u Q I rx ry q
 ·exact h' pins s σ H x y v u Q I rx ry q
theorem mX{op:CmpOp}{r:R2}(ho:OpR X (compareOp op) r)(ha:PE X a ta)(hb:PE X b tb)(hm:behindInMarks op b=false):PE X (.Compare a [op] [b] pos) (yj r ta tb):=by
 intro pins s σ H Q I h
 exact wpAny_Compare1 (yk ha hb I h fun v u s2 x y H2 I2 rx ry q=>ho pins s2 σ H2 x y v u Q I2 rx ry q) hm
def qA(t:TE):TT:=fun σ H Q=>t σ H fun x H'=>∃k,x=.bl k/\Q k H'
theorem mY{op:CmpOp}{r:R2}(ho:OpR X (compareOp op) r)(ha:PE X a ta)(hb:PE X b tb)(hm:behindInMarks op b=false):PT X (.Compare a [op] [b] pos) (qA (yj r ta tb)):=by
 intro pins s σ H Q I h
 refine wpAny_isTrue_Compare1 (thn (ha pins s σ H _ I h) fun v s1 ⟨x,H1,I1,r1,q1⟩=>thn (hb pins s1 σ H1 _ I1 q1) fun u s2 ⟨y,H2,I2,r2,q2⟩ =>
  thn (ho pins s2 σ H2 x y v u _ I2 r1 r2 q2) fun c s3 ⟨z,H3,I3,r3,k,e,q3⟩=>?_) hm
 subst e
 cases r3
 exact wpAny_truthy_bool ⟨H3,I3,q3⟩
def lF(r r':R2)(ta tb tc:TE):TE:=fun σ H Q=>ta σ H fun x H1=>tb σ H1 fun y H2=>r x y H2 fun z H3=>∃k,z=.bl k /\
 (if k=true then tc σ H3 fun w' H4=>r' y w' H4 Q else Q (.bl false) H3)
theorem qB{op op':CmpOp}{r r':R2}(ho:OpR X (compareOp op) r)(ho':OpR X (compareOp op') r')(ha:PE X a ta)(hb:PE X b tb)(hc:PE X c tc)
  (hm:lastMarks [op,op'] [b,c]=false:=by with_unfolding_all rfl):PE X (.Compare a [op,op'] [b,c] pos) (lF r r' ta tb tc):=by
 intro pins s σ H Q I h
 refine Compare_chain (thn (ha pins s σ H _ I h) fun v s1 ⟨x,H1,I1,r1,q1⟩=>chain_link (thn (hb pins s1 σ H1 _ I1 q1) fun u s2 ⟨y,H2,I2,r2,q2⟩ =>
  thn (ho pins s2 σ H2 x y v u _ I2 r1 r2 q2) fun d s3 ⟨z,H3,I3,r3,k,e,q3⟩=>?_)) hm
 subst e
 cases r3
 refine wpAny_truthy_bool ?_
 cases k with
 | false=>exact ite_ff ⟨.bl false,H3,I3,rfl,q3⟩
 | true=>exact ite_tt (chain_last (thn (hc pins s3 σ H3 _ I3 q3) fun w' s4 ⟨z',H4,I4,r4,q4⟩=>ho' pins s4 σ H4 y z' u w' Q I4 r2 r4 q4))
theorem qC{op op':CmpOp}{r r':R2}(ho:OpR X (compareOp op) r)(ho':OpR X (compareOp op') r')(ha:PE X a ta)(hb:PE X b tb)(hc:PE X c tc)
  (hm:lastMarks [op,op'] [b,c]=false:=by with_unfolding_all rfl):PT X (.Compare a [op,op'] [b,c] pos) (qA (lF r r' ta tb tc)):=by
 intro pins s σ H Q I h
 refine isTrue_chain (thn (ha pins s σ H _ I h) fun v s1 ⟨x,H1,I1,r1,q1⟩=>test_link (thn (hb pins s1 σ H1 _ I1 q1) fun u s2 ⟨y,H2,I2,r2,q2⟩ =>
  thn (ho pins s2 σ H2 x y v u _ I2 r1 r2 q2) fun d s3 ⟨z,H3,I3,r3,k,e,q3⟩=>?_)) hm
 subst e
 cases r3
 refine wpAny_truthy_bool ?_
 cases k with
 | false =>
  obtain⟨k',e',q'⟩:=q3
  cases e'
  exact ite_ff ⟨H3,I3,q'⟩
 | true =>
  refine ite_tt (test_last (thn (hc pins s3 σ H3 _ I3 q3) fun w' s4 ⟨z',H4,I4,r4,q4⟩=>thn (ho' pins s4 σ H4 y z' u w' _ I4 r2 r4 q4) fun d' s5 hZ=>?_))
  obtain⟨z2,H5,I5,r5,k2,e2,q5⟩:=hZ
  subst e2
  cases r5
  exact wpAny_truthy_bool ⟨H5,I5,q5⟩
def yr(K:WF)(x:V)(H:Hp)(k:Bool):Prop :=
 match x with
 | .non=>k=false
 | .bl b=>k=b
 | .int i=>k=(i != 0)
 | .str y=>y.length≤sizeLine/\k=((y.length:Int) != 0)
 | .byt y=>y.size≤sizeLine/\k=((y.size:Int) != 0)
 | .ref p=>(∃xs,SqL K H p xs/\k=!xs.isEmpty)\/(∃xs,SqT K H p xs/\k=!xs.isEmpty)\/∃kvs,H p=some (.dK kvs)/\k=!kvs.isEmpty
 | _=>False
theorem lG{κ:Type}{kvs:List (κ × V)}{vs:List (κ × Value)}(r:KV kvs vs):(!vs.isEmpty)=!kvs.isEmpty:=by
 cases r<;>rfl
theorem gE{xs:List V}{its:List Value}(r:Vals xs its):(!its.toArray.isEmpty)=!xs.isEmpty:=by
 cases r<;>simp
theorem line63:(sizeLine:Nat) < 2 ^ 63:=by rw[sizeLine_eq];decide
theorem yt:DV X (fun x H Q=>∃k,yr X.K x H k/\Q k H):=by
 intro pins s σ H x v Q I rx h
 obtain⟨k,e,q⟩:=h
 have hl:=line63
 have hs:sizeLine=16777216:=sizeLine_eq
 cases x with
 | non =>
  cases rx
  have e':k=false:=e
  subst e'
  exact truthy_none ⟨H,I,q⟩
 | bl b =>
  cases rx
  have e':k=b:=e
  subst e'
  exact wpAny_truthy_bool ⟨H,I,q⟩
 | int i =>
  obtain⟨t,rfl⟩:=rx
  have e':k=(i != 0):=e
  subst e'
  exact PySem.P.truthy_int ⟨H,I,q⟩
 | str y =>
  obtain⟨t,rfl⟩:=rx
  obtain⟨hy,e'⟩:y.length≤sizeLine/\k=((y.length:Int) != 0):=e
  subst e'
  exact PySem.P.truthy_str (by omega) ⟨H,I.tok _,q⟩
 | byt y =>
  obtain⟨t,rfl⟩:=rx
  obtain⟨hy,e'⟩:y.size≤sizeLine/\k=((y.size:Int) != 0):=e
  subst e'
  exact PySem.W.truthy_bytes (by omega) ⟨H,I.tok _,q⟩
 | ref p =>
  cases rx
  have e':(∃xs,SqL X.K H p xs/\k=!xs.isEmpty)\/(∃xs,SqT X.K H p xs/\k=!xs.isEmpty)\/∃kvs,H p=some (.dK kvs)/\k=!kvs.isEmpty:=e
  rcases e' with ⟨xs,hx,e'⟩ | ⟨xs,hx,e'⟩ | ⟨kvs,hx,e'⟩
  ·subst e'
   obtain⟨its,r,pl,hz⟩:=I.list hx
   have hlen:=r.length
   exact wpAny_truthy_list pl.isList (by simp only[aaw];omega) ⟨H,I.tok _,by rw[gE r];exact q⟩
  ·subst e'
   obtain⟨its,r,pl,hz⟩:=I.tuple hx
   have hlen:=r.length
   exact truthy_tuple pl (by simp only[aaw];omega) ⟨H,I.tok _,by rw[gE r];exact q⟩
  ·subst e'
   obtain⟨hz,hS,vs,r,m⟩:kvs.length≤sizeLine/\(p == sysModules)=false/\∃vs,KV kvs vs/\s.heap.DictOf (aX X.prog X.w) p vs:=I.hok p _ hx
   have hlen:kvs.length=vs.length:=Paired.length r
   exact wpAny_truthy_dict hS m (by omega) ⟨H,I.tok _,by rw[lG r];exact q⟩
 | _=>exact (show False from e).elim
theorem kf(ha:PE X a ta)(he:∀whole,isTrue a X.env whole=(do let v <- whole;standAt a.pos;holding [v] (truthy v))) :
  PT X a (fun σ H Q=>ta σ H fun x H'=>∃k,yr X.K x H' k/\Q k H'):=by
 intro pins s σ H Q I h
 exact isTrue_plain (thn (ha pins s σ H _ I h) fun v s1 ⟨x,H1,I1,r1,q1⟩=>yt pins s1 σ H1 x v Q I1 r1 q1) (he _)
theorem vals1{x:V}{us:List Value}(r:Vals [x] us):∃u,us=[u]/\RelV x u:=by
 cases r with
 | cons r1 r2=>cases r2;exact⟨_,rfl,r1⟩
theorem vals2{x y:V}{us:List Value}(r:Vals [x,y] us):∃u w',us=[u,w']/\RelV x u/\RelV y w':=by
 cases r with
 | cons r1 r2 =>
  cases r2 with
  | cons r3 r4=>cases r4;exact⟨_,_,rfl,r1,r3⟩
theorem qD:bN X (.builtin "abs") (fun xs H Q=>∃i,xs=[.int i]/\Q (.int (if i < 0 then -i else i)) H):=by
 intro pins s σ H xs us Q I r h
 obtain⟨i,rfl,q⟩:=h
 obtain⟨u,rfl,t,rfl⟩:=vals1 r
 exact call_abs_int fun u tk=>⟨.int (if i < 0 then -i else i),H,I.tok _,⟨_,rfl⟩,q⟩
theorem oX(hc:X.calm=true):bN X (.builtin "max") (fun xs H Q=>∃i j,xs=[.int i,.int j]/\Q (.int (if j > i then j else i)) H):=by
 intro pins s σ H xs us Q I r h
 obtain⟨i,j,rfl,q⟩:=h
 obtain⟨u,w',rfl,⟨t,rfl⟩,⟨t',rfl⟩⟩:=vals2 r
 refine max_two_ints (I.ok.hd hc) fun h' tk k=>⟨_,H,I.kept k,?_,q⟩
 by_cases hj:j > i
 ·rw[if_pos hj,if_pos hj];exact⟨_,rfl⟩
 ·rw[if_neg hj,if_neg hj];exact⟨_,rfl⟩
theorem oY(hc:X.calm=true):bN X (.builtin "min") (fun xs H Q=>∃i j,xs=[.int i,.int j]/\Q (.int (if j < i then j else i)) H):=by
 intro pins s σ H xs us Q I r h
 obtain⟨i,j,rfl,q⟩:=h
 obtain⟨u,w',rfl,⟨t,rfl⟩,⟨t',rfl⟩⟩:=vals2 r
 refine min_two_ints (I.ok.hd hc) fun h' tk k=>⟨_,H,I.kept k,?_,q⟩
 by_cases hj:j < i
 ·rw[if_pos hj,if_pos hj];exact⟨_,rfl⟩
 ·rw[if_neg hj,if_neg hj];exact⟨_,rfl⟩
theorem oZ:bN X (.type "int") (fun xs H Q=>(∃i,xs=[.int i]/\Q (.int i) H)\/∃k,xs=[.bl k]/\Q (.int (if k then 1 else 0)) H):=by
 intro pins s σ H xs us Q I r h
 rcases h with ⟨i,rfl,q⟩ | ⟨k,rfl,q⟩
 ·obtain⟨u,rfl,t,rfl⟩:=vals1 r
  exact call_int_int ⟨.int i,H,I,⟨_,rfl⟩,q⟩
 ·obtain⟨u,rfl,r1⟩:=vals1 r
  cases r1
  exact call_int_bool ⟨.int (if k then 1 else 0),H,I.tok _,⟨_,rfl⟩,q⟩
def AO(K:WF)(x:V)(H:Hp)(n:Nat):Prop :=
 match x with
 | .str y=>y.length≤sizeLine/\n=y.length
 | .byt y=>y.size≤sizeLine/\n=y.size
 | .ref p=>(∃xs,SqL K H p xs/\n=xs.length)\/∃xs,SqT K H p xs/\n=xs.length
 | _=>False
theorem kg:bN X (.builtin "len") (fun xs H Q=>∃x n,xs=[x]/\AO X.K x H n/\Q (.int n) H):=by
 intro pins s σ H xs us Q I r h
 obtain⟨x,n,rfl,e,q⟩:=h
 obtain⟨u,rfl,rx⟩:=vals1 r
 have hl:=line63
 have hs:sizeLine=16777216:=sizeLine_eq
 cases x with
 | str y =>
  obtain⟨t,rfl⟩:=rx
  obtain⟨hy,e'⟩:y.length≤sizeLine/\n=y.length:=e
  subst e'
  exact len_str (by omega) ⟨.int _,H,I.tok _,⟨_,rfl⟩,q⟩
 | byt y =>
  obtain⟨t,rfl⟩:=rx
  obtain⟨hy,e'⟩:y.size≤sizeLine/\n=y.size:=e
  subst e'
  exact PySem.W.len_bytes (by omega) ⟨.int _,H,I.tok _,⟨_,rfl⟩,q⟩
 | ref p =>
  cases rx
  have e':(∃xs,SqL X.K H p xs/\n=xs.length)\/∃xs,SqT X.K H p xs/\n=xs.length:=e
  rcases e' with ⟨xs,hx,e'⟩ | ⟨xs,hx,e'⟩
  ·subst e'
   obtain⟨its,r',pl,hz⟩:=I.list hx
   have hlen:=r'.length
   exact Calls.call_len_list pl.isList (by simp only[aaw];omega) ⟨.int xs.length,H,I.tok _,⟨_,by simp only[aaw];rw[hlen]⟩,q⟩
  ·subst e'
   obtain⟨its,r',pl,hz⟩:=I.tuple hx
   have hlen:=r'.length
   exact len_tuple pl (by simp only[aaw];omega) ⟨.int xs.length,H,I.tok _,⟨_,by simp only[aaw];rw[hlen]⟩,q⟩
 | _=>exact (show False from e).elim
end
end
section
structure ObjM (h:Heap)(x dx C:Addr)(mA:Str->Option Value):Prop where
 obj:h.get? x=some (PySem.W.instObj C dx)
 ns:h.Ns1 dx mA
 ne:dx≠x
theorem pb{h:Heap}{dx:Addr}{mA:Str->Option Value}(n:h.Ns1 dx mA):∃od,h.get? dx=some od/\∀name,PySem.W.lookIn name od=some (mA name):=by
 obtain⟨o,es,ep,ho,hd,hk,_,hm⟩:=n
 refine⟨o,ho,fun name=>?_⟩
 have e:=hm name
 unfold nsFind findBy at e
 rw[<- Array.find?_toList]at e
 unfold PySem.W.lookIn
 rw[hd]
 dsimp only
 split
 ·rename_i y q
  rw[q]at e
  exact congrArg some e
 ·rename_i q
  rw[q]at e
  have a:es.toList.any (·.refKey)=false:=by
   rw[List.any_eq_false]
   intro y hy
   obtain⟨z,t,hkey⟩:=hk y (Array.mem_toList_iff.mp hy)
   simp[DictEntry.refKey,hkey]
  have a':¬ es.toList.any (·.refKey)=true:=by rw[a];exact aae
  rw[if_neg a']
  exact congrArg some e
theorem ObjM.look{h:Heap}{x dx C:Addr}{mA:Str->Option Value}(I:ObjM h x dx C mA):∃od,PySem.W.InstAt h x (PySem.W.instObj C dx) C (some od)/\∀name,PySem.W.lookIn name od=some (mA name) :=
 let ⟨od,ho,hl⟩:=pb I.ns
 ⟨od,⟨I.obj,rfl,rfl,ho⟩,hl⟩
section
variable{prog:Program}{w:World}{A:Around}{E:Value->Shared->Prop}{s:Shared}{K:WF}{x dx C f:Addr}{mA:Str->Option Value}{name:Str}{v:Value}
theorem uC{expr:Bool}{Q:Value->Shared->Prop}(X:K.In s.heap)(I:ObjM s.heap x dx C mA)(hg:PySem.W.plainGet K C name=true)(hh:PySem.W.hasDictIn K C=true)
  (ha:PySem.W.findIn K (.ref C) name=some none) (hv:mA name=some v) (hv':PySem.W.handedIn v=true) (h:Q v { s with toks:=s.toks + 1 }) :
  wpAny (model prog w) A (getAttr (.ref x) name expr) Q E s:=by
 obtain⟨od,J,hl⟩:=I.look
 exact PySem.W.get_value X J (abH hg).1 (PySem.W.findObj_own hh ha rfl (by rw[hl,hv])) hv' h
theorem qH{pl:Sem Bool}{Q:Value × List Value->Shared->Prop}(X:K.In s.heap)(I:ObjM s.heap x dx C mA)(hg:PySem.W.plainGet K C name=true)
  (hf:PySem.W.findIn K (.ref C) name=some (some (.ref f))) (ht:PySem.W.isFn K (.ref f)=true) (hv:mA name=none) (h:Q (.ref f,[.ref x]) s) :
  wpAny (model prog w) A (getMethod (.ref x) name pl) Q E s:=by
 obtain⟨od,J,hl⟩:=I.look
 exact PySem.W.method_fn X J (abH hg).1 (abH hg).2 hf (beq_iff_eq.mp ht) (by show (PySem.W.lookIn name od).map (·.isSome)=some false;rw[hl,hv];rfl) h
theorem uD{ns:List Str}{Q:Unit->Shared->Prop}(X:K.In s.heap)(I:ObjM s.heap x dx C mA)
  (hs:PySem.W.findIn K (.ref C) "__setattr__"=some (some (.builtin "object.__setattr__"))) (hp:PySem.W.plainOver K C=true) (ht:PySem.W.takerIn K C name=some none) (hh:PySem.W.hasDictIn K C=true)
  (hw:PySem.Within mA ns) (hsz:ns.length≤sizeLine)
  (h:∀h',ObjM h' x dx C (fun y=>if y=name then some v else mA y)->Heap.SameBut dx s.heap h'->Q () { s with heap:=h',toks:=s.toks + 2 }) :
  wpAny (model prog w) A (setAttr (.ref x) name v) Q E s:=by
 obtain⟨od,J,hl⟩:=I.look
 refine PySem.W.set_plain X J hs (PySem.W.osa_open (s:={ s with toks:=s.toks + 1 }) (r:=none) X J hp ht fun b=>?_)
 obtain⟨cd,hc,hd'⟩:=PySem.W.any_some hh
 have hx:s.heap.get? x=some ⟨.ref C,some dx,.plain,#[]⟩:=I.obj
 refine wpAny_bind (wpAny_pure (wpAny_bind (wpAny_bind (wpAny_loadPart hx (wpAny_bind (PySem.W.Looks.here (s:={ s with toks:=s.toks + 1 }) (PySem.W.looks_clsIn X hc) ?_))))))
 rw[hd']
 refine wpAny_pure (a:=some dx) (wpAny_bind (wpAny_pure (wpAny_bind ?_)))
 refine wpAny_nsSet1 (s:={ s with toks:=s.toks + 1 }) I.ns fun h' hn2 hs2=>?_
 obtain⟨oD,esD,epD,hoD,hdD,hcD⟩:=hn2.count (PySem.Within.cons name v hw)
 refine wpAny_bind (wpAny_lookBehind hoD (by rw[hdD];exact pastItsLine_dict (aan hcD (by rw[aap];omega))) ?_)
 exact wpAny_pure (h _ ⟨(hs2.2 _ (aaF I.ne)).trans I.obj,hn2,I.ne⟩ hs2)
theorem qI{R:Result->Shared->Prop}{vs:List Value}{kw:List (Str × Value)}(X:K.In s.heap)(hm:PySem.W.makesIn K C=true)
  (hi:PySem.W.findIn K (.ref C) "__init__"=some (some (.ref f))) (hf:PySem.W.typeIn K (.ref f)=some (.type "function"))
  (h:codeAny (model prog w) (A.under (.builtin "type.__call__" ⟨.ref C::vs,kw⟩)) (.call (.ref f) ⟨.ref (s.heap.objs.size + 1)::vs,kw⟩) (PySem.W.InitBack (s.heap.objs.size + 1) R)
   { s with heap:=(s.heap.push PySem.W.emptyDict).push (PySem.W.instObj C s.heap.objs.size) }) :
  codeAny (model prog w) A (.call (.ref C) ⟨vs,kw⟩) R s:=by
 obtain⟨hh,g,d,t,os⟩:=s
 exact PySem.W.make_core (PySem.W.makes_of X hm) (PySem.W.looks_findIn X hi) (fun self=>PySem.W.bind_fn X self hf) (.inl rfl) h
end
def bR(f:Str)(v:V):List (Str × V)->List (Str × V)
 | []=>[(f,v)]
 | (g,x)::r=>if g=f then (g,v)::r else (g,x)::bR f v r
theorem fY(f g:Str)(v:V):∀fs:List (Str × V),(bR f v fs).lookup g=if g=f then some v else fs.lookup g
 | []=>by
  show List.lookup g [(f,v)]=_
  by_cases h:g=f
  ·have hb:(g == f)=true:=beq_iff_eq.mpr h
   simp only[List.lookup,hb,if_pos h]
  ·have hb:(g == f)=false:=beq_eq_false_iff_ne.mpr h
   simp only[List.lookup,hb,if_neg h]
 | (k,x)::r=>by
  have ih:=fY f g v r
  rw[show bR f v ((k,x)::r)=(if k=f then (k,v)::r else (k,x)::bR f v r) from rfl]
  by_cases hk:k=f
  ·rw[if_pos hk]
   by_cases h:g=k
   ·have hb:(g == k)=true:=beq_iff_eq.mpr h
    simp only[List.lookup,hb,if_pos (h.trans hk)]
   ·have hb:(g == k)=false:=beq_eq_false_iff_ne.mpr h
    simp only[List.lookup,hb,if_neg (fun e:g=f=>h (e.trans hk.symm))]
  ·rw[if_neg hk]
   by_cases h:g=k
   ·have hb:(g == k)=true:=beq_iff_eq.mpr h
    simp only[List.lookup,hb,if_neg (fun e:g=f=>hk (h.symm.trans e))]
   ·have hb:(g == k)=false:=beq_eq_false_iff_ne.mpr h
    simp only[List.lookup,hb]
    exact ih
theorem fI(f:Str)(v:V):∀fs:List (Str × V),f∈(bR f v fs).map (·.1)/\∀g,g∈fs.map (·.1)->g∈(bR f v fs).map (·.1)
 | []=>⟨by simp[bR],fun g h=>by simp at h⟩
 | (k,x)::r=>by
  obtain⟨i1,i2⟩:=fI f v r
  rw[show bR f v ((k,x)::r)=(if k=f then (k,v)::r else (k,x)::bR f v r) from rfl]
  by_cases hk:k=f
  ·rw[if_pos hk]
   subst hk
   exact⟨by simp,fun g h=>by simpa using h⟩
  ·rw[if_neg hk]
   refine⟨?_,fun g h=>?_⟩
   ·rw[aal]
    exact aag _ i1
   ·rw[aal]at h ⊢
    rcases aac.mp h with e | e
    ·exact aac.mpr (.inl e)
    ·exact aag _ (i2 g e)
theorem fZ(f:Str)(v:V):∀fs:List (Str × V),(bR f v fs).length≤fs.length + 1
 | []=>by simp[bR]
 | (k,x)::r=>by
  have ih:=fZ f v r
  rw[show bR f v ((k,x)::r)=(if k=f then (k,v)::r else (k,x)::bR f v r) from rfl]
  by_cases hk:k=f
  ·rw[if_pos hk,aap,aap];omega
  ·rw[if_neg hk,aap,aap];omega
theorem RelO.some_of{v:V}{o:Option Value}(r:RelO (some v) o):∃u,o=some u/\RelV v u:=by
 cases o with
 | none=>exact (show False from r).elim
 | some u=>exact⟨u,rfl,r⟩
theorem RelO.none_of{o:Option Value}(r:RelO none o):o=none:=by
 cases o with
 | none=>rfl
 | some u=>exact (show False from r).elim
theorem pd{v:V}{u:Value}(r:RelV v u):PySem.W.handedIn u=true:=by
 cases v with
 | non=>cases (show u=Value.none from r);rfl
 | bl b=>cases (show u=Value.bool b from r);rfl
 | int i=>obtain⟨t,e⟩:=(show ∃t,u=Value.int i t from r);cases e;rfl
 | str x=>obtain⟨t,e⟩:=(show ∃t,u=Value.str x t from r);cases e;rfl
 | byt b=>obtain⟨t,e⟩:=(show ∃t,u=Value.bytes b t from r);cases e;rfl
 | flt b=>obtain⟨t,e⟩:=(show ∃t,u=Value.float b t from r);cases e;rfl
 | ref a=>cases (show u=Value.ref a from r);rfl
 | ty n=>cases (show u=Value.type n from r);rfl
section
variable{P:Program}{w:World}{H H':Hp}{h h':Heap}{a C dx:Addr}{fs fs':List (Str × V)}
theorem jh(hok:HOk P w H h)(e:H a=some (.ins C dx fs)):∃mA,ObjM h a dx C mA/\(∀f,RelO (fs.lookup f) (mA f))/\PySem.Within mA (fs.map (·.1))/\fs.length≤1000/\H dx=some (.own a):=by
 obtain⟨d,z,ne,ob,mA,n,r,q⟩:=(show ObjOk P w H h a (.ins C dx fs) from hok a _ e)
 exact⟨mA,⟨ob,n,ne⟩,r,q,z,d⟩
end
structure Cls (K:WF)(C:Addr):Prop where
 pg:PySem.W.plainGet K C Str.empty=true
 hd:PySem.W.hasDictIn K C=true
 po:PySem.W.plainOver K C=true
 sa:PySem.W.findIn K (.ref C) "__setattr__"=some (some (.builtin "object.__setattr__"))
theorem Cls.get{K:WF}{C:Addr}(c:Cls K C)(f:Str):PySem.W.plainGet K C f=true:=c.pg
def NoAttr(K:WF)(C:Addr)(f:Str):Prop:=PySem.W.findIn K (.ref C) f=some none
theorem NoAttr.taker{K:WF}{C:Addr}{f:Str}(n:NoAttr K C f):PySem.W.takerIn K C f=some none:=by
 unfold PySem.W.takerIn
 rw[show PySem.W.findIn K (.ref C) f=some none from n]
 rfl
structure Meth (K:WF)(C:Addr)(m:Str)(f:Addr):Prop where
 at_:PySem.W.findIn K (.ref C) m=some (some (.ref f))
 fn:PySem.W.isFn K (.ref f)=true
 kp:PySem.W.keepIn K (.ref f)=true
section
variable{X:Cx}{pins:List (Addr × Obj)}{σ:St}{H:Hp}{s:Shared}{a C dx:Addr}{fs:List (Str × V)}{f:Str}{v:V}{A:Around}{E:Value->Shared->Prop}
theorem gF{b:Bool}{Q:Value->Shared->Prop}(I:Inv X pins σ H s)(e:H a=some (.ins C dx fs))(c:Cls X.K C)(n:NoAttr X.K C f)(l:fs.lookup f=some v)
  (h:∀u s',Inv X pins σ H s'->RelV v u->Q u s'):wpAny (model X.prog X.w) A (getAttr (.ref a) f b) Q E s:=by
 obtain⟨mA,O,r,_,_,_⟩:=jh I.hok e
 obtain⟨u,hu,ru⟩:=RelO.some_of (v:=v) (o:=mA f) (by rw[<- l];exact r f)
 exact uC I.kIn O (c.get f) c.hd n hu (pd ru) (h u _ (I.tok _) ru)
theorem gG{m:Str}{g:Addr}{pl:Sem Bool}{Q:Value × List Value->Shared->Prop}(I:Inv X pins σ H s)(e:H a=some (.ins C dx fs))(c:Cls X.K C)(k:Meth X.K C m g)(l:fs.lookup m=none)
  (h:Q (.ref g,[.ref a]) s):wpAny (model X.prog X.w) A (getMethod (.ref a) m pl) Q E s:=by
 obtain⟨mA,O,r,_,_,_⟩:=jh I.hok e
 have hn:mA m=none:=RelO.none_of (by rw[<- l];exact r m)
 exact qH I.kIn O (c.get m) k.at_ k.fn hn h
theorem gH{y:V}{u:Value}{Q:Unit->Shared->Prop}(I:Inv X pins σ H s)(e:H a=some (.ins C dx fs))(c:Cls X.K C)(n:NoAttr X.K C f)(hl:fs.length < 1000)(ry:RelV y u)
  (h:∀s',Inv X pins σ (upd H a (.ins C dx (bR f y fs))) s'->Q () s'):wpAny (model X.prog X.w) A (setAttr (.ref a) f u) Q E s:=by
 obtain⟨mA,O,r,wi,_,ho⟩:=jh I.hok e
 have hz:(fs.map (·.1)).length≤sizeLine:=by rw[aaa,sizeLine_eq];omega
 refine uD I.kIn O c.sa c.po n.taker c.hd wi hz fun h' O' sb=>h _ ?_
 have hd:∃o,h'.get? dx=some o:=let ⟨o,_,_,e',_⟩:=O'.ns;⟨o,e'⟩
 refine I.write (x:=a) (e:=dx) (by rw[e];exact True.intro) (.inr ho) (fun b q hb z=>(sb.2 b hb).trans z) hd ?_
 refine⟨by rw[upd_ne O.ne];exact ho,?_,O.ne,O'.obj,_,O'.ns,fun g=>?_,fun g hg=>?_⟩
 ·have:=fZ f y fs;omega
 ·show RelO ((bR f y fs).lookup g) (if g=f then some u else mA g)
  rw[fY]
  by_cases q:g=f
  ·rw[if_pos q,if_pos q];exact ry
  ·rw[if_neg q,if_neg q];exact r g
 ·by_cases q:g=f
  ·rw[q];exact (fI f y fs).1
  ·refine (fI f y fs).2 g (wi g fun z=>hg ?_)
   show (if g=f then some u else mA g)=none
   rw[if_neg q];exact z
theorem Inv.made(I:Inv X pins σ H s):Inv X pins σ (upd (upd H s.heap.objs.size (.own (s.heap.objs.size + 1))) (s.heap.objs.size + 1) (.ins C s.heap.objs.size []))
  { s with heap:=(s.heap.push PySem.W.emptyDict).push (PySem.W.instObj C s.heap.objs.size) }:=by
 have e1:(s.heap.push PySem.W.emptyDict).get? s.heap.objs.size=some PySem.W.emptyDict:=Heap.get?_push_size s.heap rfl
 have e2:((s.heap.push PySem.W.emptyDict).push (PySem.W.instObj C s.heap.objs.size)).get? (s.heap.objs.size + 1)=some (PySem.W.instObj C s.heap.objs.size):=by
  have:=Heap.get?_push_size (s.heap.push PySem.W.emptyDict) (o:=PySem.W.instObj C s.heap.objs.size) rfl
  rwa [Heap.size_push]at this
 have e3:(s.heap.push PySem.W.emptyDict).Ns s.heap.objs.size (fun _=>none):=⟨PySem.W.emptyDict,#[],_,e1,rfl,(fun e he=>absurd he (by simp)),fun _=>rfl⟩
 have I1:=I.laid (a:=s.heap.objs.size) (o:=.own (s.heap.objs.size + 1)) (h':=s.heap.push PySem.W.emptyDict) (t':=s.toks) (fun b u q=>Heap.get?_push_of_some _ q) (aaf _) ⟨_,e1⟩
 refine I1.laid (a:=s.heap.objs.size + 1) (o:=.ins C s.heap.objs.size []) (t':=s.toks) (fun b u q=>Heap.get?_push_of_some _ q) (Nat.le_of_eq (Heap.size_push _ _)) ?_
 have ne:s.heap.objs.size≠s.heap.objs.size + 1:=aao (aaZ _)
 refine⟨by rw[upd_ne ne,ar],aaM _,ne,e2,fun _=>none,(Heap.Ns1.of_empty e3).at fun o q=>Heap.get?_push_of_some _ q,fun _=>True.intro,fun y hy=>absurd rfl hy⟩
theorem attr_of{prog:Program}{w:World}{env:Env}{e:Expr}{f:Str}{pos:Pos}{s:Shared}{Q:Value->Shared->Prop}(hb:attributeBase e f env (eval e env)=eval e env)
  (h:wpAny (model prog w) A (eval e env) (fun o s₁=>wpAny (model prog w) A (getAttr o f true) Q E s₁) E s):wpAny (model prog w) A (eval (.Attribute e f pos) env) Q E s :=
 Attribute_any_ h (by rw[arm_eval_Attribute,hb])
end
def DY(K:WF)(ta:TE)(f:Str):TE:=fun σ H Q=>ta σ H fun x H1=>∃a C dx fs v,x=.ref a/\H1 a=some (.ins C dx fs)/\Cls K C/\NoAttr K C f/\fs.lookup f=some v/\Q v H1
def DZ(K:WF)(ta tv:TE)(f:Str):TS:=fun D σ H=>tv σ H fun y H1=>ta σ H1 fun x H2=>∃a C dx fs,x=.ref a/\H2 a=some (.ins C dx fs)/\Cls K C/\NoAttr K C f/\fs.length < 1000 /\
 D.nx σ (upd H2 a (.ins C dx (bR f y fs)))
def uE(X:Cx)(op:Operator)(rd:V->V->Hp->VK->Prop):Prop :=
 ∀(pins:List (Addr × Obj)) (s:Shared) (σ:St) (H:Hp) (x y:V) (u v:Value) (Q:VK),Inv X pins σ H s->RelV x u->RelV y v->rd x y H Q->wpAny (model X.prog X.w) X.A (inplaceOp op u v) (EP X pins σ Q) X.xe s
def uF(K:WF)(ta tv:TE)(rd:V->V->Hp->VK->Prop)(f:Str):TS:=fun D σ H=>ta σ H fun x H1=>∃a C dx fs v,x=.ref a/\H1 a=some (.ins C dx fs)/\Cls K C/\NoAttr K C f/\fs.lookup f=some v /\
 tv σ H1 fun y H2=>rd v y H2 fun z H3=>∃dx' fs',H3 a=some (.ins C dx' fs')/\fs'.length < 1000/\D.nx σ (upd H3 a (.ins C dx' (bR f z fs')))
section
variable{X:Cx}{o e value:Expr}{f:Str}{pos pos' tpos:Pos}{ta tv:TE}
theorem yu(he:PE X e ta)(hb:attributeBase e f X.env (eval e X.env)=eval e X.env):PE X (.Attribute e f pos) (DY X.K ta f):=by
 intro pins s σ H Q I h
 refine attr_of hb (thn (he pins s σ H _ I h) fun u s1 hZ=>?_)
 obtain⟨x,H1,I1,rx,a,C,dx,fs,v,ex,ea,c,n,l,q⟩:=hZ
 subst ex
 obtain rfl:u=Value.ref a:=rx
 exact gF I1 ea c n l fun u' s2 I2 ru=>⟨v,H1,I2,ru,q⟩
theorem yv(ha:PE X o ta)(hv:PE X value tv)(hs:swapsWith value (some (.Attribute o f pos')) pos.line X.env=pure false):PS X (.Assign [.Attribute o f pos'] value pos) (DZ X.K ta tv f):=by
 intro pins s σ H D I h
 refine plainObj_wpAny_Assign_Attribute (thn (hv pins s σ H _ I h) fun u s1 ⟨y,H1,I1,ry,q⟩=>thn (ha pins s1 σ H1 _ I1 q) fun ov s2 hZ=>?_) hs
 obtain⟨x,H2,I2,rx,a,C,dx,fs,ex,ea,c,n,l,q2⟩:=hZ
 subst ex
 obtain rfl:ov=Value.ref a:=rx
 exact gH I2 ea c n l ry fun s3 I3=>⟨σ,_,I3,q2⟩
theorem pe{op:Operator}{rd:V->V->Hp->VK->Prop}(ha:PE X o ta)(hv:PE X value tv)(hop:uE X op rd):PS X (.AugAssign (.Attribute o f tpos) op value pos) (uF X.K ta tv rd f):=by
 intro pins s σ H D I h
 refine wpAny_AugAssign_AttributeAny (thn (ha pins s σ H _ I h) fun ov s1 hZ=>?_)
 obtain⟨x,H1,I1,rx,a,C,dx,fs,v,ex,ea,c,n,l,q⟩:=hZ
 subst ex
 obtain rfl:ov=Value.ref a:=rx
 refine gF I1 ea c n l fun u s2 I2 ru=>thn (hv pins s2 σ H1 _ I2 q) fun w3 s3 ⟨y,H2,I3,ry,q3⟩=>thn (hop pins s3 σ H2 v y u w3 _ I3 ru ry q3) fun w4 s4 hZ=>?_
 obtain⟨z,H3,I4,rz,dx',fs',ea',l',q4⟩:=hZ
 exact gH I4 ea' c n l' rz fun s5 I5=>⟨σ,_,I5,q4⟩
def rAdd:V->V->Hp->VK->Prop:=fun x y H Q=>∃i j,x=.int i/\y=.int j/\Q (.int (i + j)) H
def rSub:V->V->Hp->VK->Prop:=fun x y H Q=>∃i j,x=.int i/\y=.int j/\Q (.int (i - j)) H
theorem yw:uE X .Add rAdd:=by
 rintro pins s σ H x y u v Q I rx ry ⟨i,j,rfl,rfl,q⟩
 obtain⟨t,rfl⟩:=(show ∃t,u=Value.int i t from rx)
 obtain⟨t',rfl⟩:=(show ∃t',v=Value.int j t' from ry)
 exact PyProof.Rows.iadd_int ⟨.int (i + j),H,I.tok _,⟨_,rfl⟩,q⟩
theorem yx:uE X .Sub rSub:=by
 rintro pins s σ H x y u v Q I rx ry ⟨i,j,rfl,rfl,q⟩
 obtain⟨t,rfl⟩:=(show ∃t,u=Value.int i t from rx)
 obtain⟨t',rfl⟩:=(show ∃t',v=Value.int j t' from ry)
 exact PyProof.Rows.isub_int ⟨.int (i - j),H,I.tok _,⟨_,rfl⟩,q⟩
end
end
section
structure Room (k:Nat)(A:Around):Prop where
 hd:A.handled=none
 dp:A.depth + 3 * k + 5 < recursionLimit
 un:A.units + 16 * k + 200 < cLine
 gd:A.guards=some []
theorem Room.deeper{k:Nat}{A:Around}(r:Room (k + 1) A)(env:Env):Room k (A.deeper env) :=
 ⟨r.hd,by have:=r.dp;show A.depth + 1 + 3 * k + 5 < _;omega,by have:=r.un;show A.units + 3 + 16 * k + 200 < _;omega,r.gd⟩
theorem lH{A:Around}{C:Addr}{us:List Value}{kw:List (Str × Value)}:(A.under (.builtin "type.__call__" ⟨.ref C::us,kw⟩)).depth=A.depth + 1:=by
 first | rfl | simp[Around.under,Code.weight,Code.isCreation,Code.isGuard,Code.isCaller,Code.frames,Code.isFrame,guardIds]
theorem lI{A:Around}{C:Addr}{us:List Value}{kw:List (Str × Value)}:(A.under (.builtin "type.__call__" ⟨.ref C::us,kw⟩)).units=A.units + 1:=by
 first | rfl | simp[Around.under,Code.cUnits,Code.frames,Code.isFrame]
theorem Room.make{k:Nat}{A:Around}(r:Room (k + 1) A)(C:Addr)(us:List Value)(kw:List (Str × Value)):Room k (A.under (.builtin "type.__call__" ⟨.ref C::us,kw⟩)) :=
 ⟨r.hd,by have:=r.dp;rw[lH];omega,by have:=r.un;rw[lI];omega,by first | exact r.gd | simp[Around.under,Code.isGuard,guardIds,r.gd]⟩
theorem Room.depth{k:Nat}{A:Around}(r:Room k A):A.depth < recursionLimit:=by have:=r.dp;omega
theorem Room.units{k:Nat}{A:Around}(r:Room k A):A.units + 64 < cLine:=by have:=r.un;omega
def tNil:TA:=fun _ H Q=>Q [] H
def AQ(ta:TE)(tr:TA):TA:=fun σ H Q=>ta σ H fun x H1=>tr σ H1 fun xs H2=>Q (x::xs) H2
section
variable{X:Cx}{e:Expr}{es:List Expr}{te:TE}{t:TA}{pos:Pos}
theorem cJ:PA X [] tNil:=fun _ _ _ _ H Q I h=>Calls.spliced_nil ⟨[],H,I,.nil,h⟩
theorem be(ha:PE X e te)(hr:PA X es t)(hs:starEach (e::es) X.env=(false,eval e X.env)::starEach es X.env:=by rfl):PA X (e::es) (AQ te t):=by
 intro pos pins s σ H Q I h
 rw[hs]
 show wpAny _ _ (spliced ((false,eval e X.env)::backTo pos (starEach es X.env))) _ _ s
 refine Calls.spliced_cons (thn (ha pins s σ H _ I h) fun u s1 hZ=>?_)
 obtain⟨x,H1,I1,r1,q1⟩:=hZ
 exact thn (hr pos pins s1 σ H1 _ I1 q1) fun us s2 ⟨xs,H2,I2,r2,q2⟩=>⟨x::xs,H2,I2,.cons r1 r2,q2⟩
def D0(t:TA):TE:=fun σ H Q=>t σ H fun xs H1=>xs.length≤sizeLine/\∀p,H1 p=none->Q (.ref p) (upd H1 p (.tup xs))
def D1(t:TA):TE:=fun σ H Q=>t σ H fun xs H1=>xs.length≤sizeLine/\∀p,H1 p=none->Q (.ref p) (upd H1 p (.lst xs))
theorem lJ{x1}(h:PA X es t):PE X (.Tuple es x1 pos) (D0 t):=by
 intro pins s σ H Q I hq
 refine wpAny_Tuple_spliced (thn (h pos pins s σ H _ I hq) fun us s1 ⟨xs,H1,I1,r,z,q⟩=>⟨by rw[<- r.length];exact z,?_⟩)
 have hf:H1 s1.heap.objs.size=none:=I1.hok.fresh (aaf _)
 refine⟨.ref s1.heap.objs.size,upd H1 s1.heap.objs.size (.tup xs),I1.laid (t':=s1.toks) (fun b u e=>Heap.get?_push_of_some _ e) (aaf _) ?_,rfl,q _ hf⟩
 exact⟨z,us,r,⟨_,Heap.get?_push_size _ rfl,rfl,_,rfl⟩⟩
theorem yz(h:PA X es t):PE X (.List es pos) (D1 t):=by
 intro pins s σ H Q I hq
 refine wpAny_List_spliced (thn (h pos pins s σ H _ I hq) fun us s1 ⟨xs,H1,I1,r,z,q⟩=>⟨by rw[<- r.length];exact z,?_⟩)
 have hf:H1 s1.heap.objs.size=none:=I1.hok.fresh (aaf _)
 refine⟨.ref s1.heap.objs.size,upd H1 s1.heap.objs.size (.lst xs),I1.laid (t':=s1.toks) (fun b u e=>Heap.get?_push_of_some _ e) (aaf _) ?_,rfl,q _ hf⟩
 exact⟨z,us,0,r,Heap.get?_push_size _ rfl⟩
end
abbrev Sp:=List V->Hp->VK->XK->Prop
abbrev CXT:=List Env->Hp->Shared->XK->Value->Shared->Prop
structure Env0 (P:Program)(w:World)(K:WF)(mg:Str->Option Value)(base:Heap)(A:Around)(outer:List Env)(s:Shared)(H:Hp):Prop where
 frames:A.frames=some outer
 mod:Mod K mg base
 bs:∀b o,base.get? b=some o->s.heap.get? b=some o/\H b=none
 bsz:base.objs.size≤s.heap.objs.size
 funs:s.heap.FunFrames base outer
 frf:∀b∈qo outer,H b=none
 hok:HOk P w H s.heap
 bare:AllBare s.gens
def CE(outer:List Env)(P:Program)(w:World)(H:Hp)(s:Shared)(Q:VK)(u:Value)(s':Shared):Prop :=
 ∃v H',s'.os=s.os/\AllBare s'.gens/\Un (qo outer) [] H H' s.heap s'.heap/\HOk P w H' s'.heap/\RelV v u/\Q v H'
def CR(CX:CXT)(outer:List Env)(P:Program)(w:World)(H:Hp)(s:Shared)(Q:VK)(E:XK)(r:Result)(s':Shared):Prop :=
 match r with
 | .ok (.ret u)=>CE outer P w H s Q u s'
 | .ok _=>False
 | .error e=>CX outer H s E e s'
structure FnOk (P:Program)(w:World)(K:WF)(mg:Str->Option Value)(base:Heap)(CX:CXT)(k:Nat)(f:Addr)(fd:FuncData)(ps:List Str)(sp:Sp):Prop where
 len:∀vs H Q E,sp vs H Q E->vs.length=ps.length
 run:∀(A:Around) (outer:List Env) (s:Shared) (H:Hp) (args:Args) (us:List Value) (vs:List V) (Q:VK) (E:XK),Room k A->Env0 P w K mg base A outer s H->BindsTo s fd args (ps.zip us)->Vals vs us->sp vs H Q E ->
  codeAny (model P w) A (.call (.ref f) args) (CR CX outer P w H s Q E) s
theorem FnOk.imp{P:Program}{w:World}{K:WF}{mg:Str->Option Value}{base:Heap}{CX:CXT}{k:Nat}{f:Addr}{fd:FuncData}{ps:List Str}{sp sp':Sp}(F:FnOk P w K mg base CX k f fd ps sp)
  (h:∀vs H Q E,sp' vs H Q E->sp vs H Q E):FnOk P w K mg base CX k f fd ps sp' :=
 ⟨fun vs H Q E q=>F.len vs H Q E (h _ _ _ _ q),fun A outer s H args us vs Q E hr he hb hv hs=>F.run A outer s H args us vs Q E hr he hb hv (h _ _ _ _ hs)⟩
theorem Env0.make{P:Program}{w:World}{K:WF}{mg:Str->Option Value}{base:Heap}{A:Around}{outer:List Env}{s:Shared}{H:Hp}(e:Env0 P w K mg base A outer s H)(C:Addr)(us:List Value)(kw:List (Str × Value)) :
  Env0 P w K mg base (A.under (.builtin "type.__call__" ⟨.ref C::us,kw⟩)) outer s H:=⟨by first | exact e.frames | (simpa [Around.under,Code.envs,Code.isFrame,pushEnvs] using e.frames),e.mod,e.bs,e.bsz,e.funs,e.frf,e.hok,e.bare⟩
section
variable{X:Cx}{pins:List (Addr × Obj)}{σ:St}{H:Hp}{s s':Shared}
theorem Inv.env0(I:Inv X pins σ H s):Env0 X.prog X.w X.K X.mg X.base X.A X.stack s H :=
 ⟨I.ok.frames,I.ok.mod,I.bs,aan I.ok.bsz I.sz,I.stack,I.stkFree,I.hok,I.bare⟩
theorem Inv.after{Q:VK}{u:Value}(I:Inv X pins σ H s)(h:CE X.stack X.prog X.w H s Q u s'):EP X pins σ Q u s':=by
 obtain⟨v,H',os,bare,un,hok,r,q⟩:=h
 obtain⟨hh,g,d,t,os'⟩:=s'
 obtain rfl:os'=s.os:=os
 exact⟨v,H',I.call (h':=hh) (g':=g) (d':=d) (t':=t) (ch:=[]) un hok bare (fun b z=>absurd z (by simp)),r,q⟩
end
def wX(sp:Sp)(dvs:List V)(E:XK)(t:TA):TE:=fun σ H Q=>t σ H fun vs H1=>sp (vs++dvs) H1 Q E
def qJ(C:Addr)(m:Str)(sp:Sp)(dvs:List V)(E:XK)(ta:TE)(t:TA):TE:=fun σ H Q=>ta σ H fun x H1=>∃a dx fs,x=.ref a/\H1 a=some (.ins C dx fs)/\fs.lookup m=none /\
 t σ H1 fun vs H2=>sp (x::(vs++dvs)) H2 Q E
def wY(C:Addr)(sp:Sp)(dvs:List V)(E:XK)(t:TA):TE:=fun σ H Q=>t σ H fun vs H1=>∀x dx,H1 x=none->H1 dx=none->dx≠x ->
 sp (.ref x::(vs++dvs)) (upd (upd H1 dx (.own x)) x (.ins C dx [])) (fun v H2=>v=.non/\Q (.ref x) H2) E
def Binds(K:WF)(fd:FuncData)(ps:List Str)(ds:List Value):Prop :=
 ∀(s:Shared) (us:List Value),K.In s.heap->(us++ds).length=ps.length->BindsTo s fd ⟨us,[]⟩ (ps.zip (us++ds))
theorem Binds.all{K:WF}{fd:FuncData}{ps:List Str}(h:∀us:List Value,us.length=ps.length->bindArgs fd ⟨us,[]⟩=pure (ps.zip us)):Binds K fd ps []:=fun s us _ hl=>by
 rw[aaq]at hl ⊢
 exact .of_eq (h us hl)
def Passes(CX:CXT)(X:Cx)(E:XK):Prop:=∀(pins:List (Addr × Obj)) (σ:St) (H:Hp) (s:Shared) (e:Value) (s':Shared),Inv X pins σ H s->CX X.stack H s E e s'->X.xe e s'
section
variable{X:Cx}{CX:CXT}{k:Nat}{f C:Addr}{fd:FuncData}{ps:List Str}{sp:Sp}{dvs:List V}{ds:List Value}{E:XK}{x m:Str}{p pos apos:Pos}{e o:Expr}{es:List Expr}{ta:TE}{t:TA}
theorem lK{pins:List (Addr × Obj)}{σ:St}{H:Hp}{s:Shared}{Q:VK}{us:List Value}{vs:List V}(F:FnOk X.prog X.w X.K X.mg X.base CX k f fd ps sp)(hr:Room k X.A)(hb:Binds X.K fd ps ds)(hd:Vals dvs ds)(hx:Passes CX X E)
  (I:Inv X pins σ H s) (r:Vals vs us) (h:sp (vs++dvs) H Q E):wpAny (model X.prog X.w) X.A (call (.ref f) us) (EP X pins σ Q) X.xe s:=by
 have r2:Vals (vs++dvs) (us++ds):=r.append hd
 have hl:(us++ds).length=ps.length:=by rw[<- r2.length];exact F.len _ _ _ _ h
 refine wpAny_call (codeAny_mono (F.run X.A X.stack s H ⟨us,[]⟩ (us++ds) (vs++dvs) Q E hr I.env0 (hb s us I.kIn hl) r2 h) fun r s' hq=>?_)
 cases r with
 | error e=>exact hx pins σ H s e s' I hq
 | ok fl =>
  cases fl with
  | ret u=>exact I.after hq
  | next=>exact False.elim hq
  | brk=>exact False.elim hq
  | cont=>exact False.elim hq
theorem mZ(F:FnOk X.prog X.w X.K X.mg X.base CX k f fd ps sp)(hr:Room k X.A)(hg:Gl X x)(hm:X.mg x=some (.ref f))(hk:PySem.W.keepIn X.K (.ref f)=true)(hb:Binds X.K fd ps ds)(hd:Vals dvs ds)(hx:Passes CX X E)
  (ha:PA X (e::es) t) (hdb:(x == ("__debug__":Str))=false:=by decide) (he:starEach (e::es) X.env=(false,eval e X.env)::starEach es X.env:=by rfl) (hpl:(backTo pos (starEach es X.env)).any (·.1)=false:=by rfl) :
  PE X (.Call (.Name x p) (e::es) [] pos) (wX sp dvs E t):=by
 intro pins s σ H Q I h
 refine wpAny_Call_Name_kw (je I hg hm ?_ hdb)
 refine abI (h₀:=X.base) I.ok.mod.kin hk (thn (ha pos pins s σ H _ I h) fun us s1 ⟨vs,H1,I1,r,q⟩=>⟨I1.kIn,?_⟩) he hpl
 exact lK F hr hb hd hx I1 r q
theorem uG{pl:Sem Bool}(he:PE X o ta)(c:Cls X.K C)(hm:Meth X.K C m f)(F:FnOk X.prog X.w X.K X.mg X.base CX k f fd ps sp)(hr:Room k X.A)(hb:Binds X.K fd ps ds)(hd:Vals dvs ds)(hx:Passes CX X E)(ha:PA X (e::es) t)
  (hst:starEach (e::es) X.env=(false,eval e X.env)::starEach es X.env:=by rfl) (hpl:(backTo pos (starEach es X.env)).any (·.1)=false:=by rfl)
  (ht:eval (.Call (.Attribute o m apos) (e::es) [] pos) X.env=(do
   let ov <- eval o X.env
   standAt apos.atName
   let (f,first) <- holding [ov] (getMethod ov m pl)
   callWith pos f first (backTo pos (starEach (e::es) X.env)) (backToKw pos (keywordEach [] X.env))):=by rfl) :
  PE X (.Call (.Attribute o m apos) (e::es) [] pos) (qJ C m sp dvs E ta t):=by
 intro pins s σ H Q I h
 refine ab6 (pl:=pl) (thn (he pins s σ H _ I h) fun u s1 hZ=>?_) ht
 obtain⟨x,H1,I1,rx,a,dx,fs,ex,ea,l,q⟩:=hZ
 subst ex
 obtain rfl:u=Value.ref a:=rx
 refine gG I1 ea c hm l ?_
 refine abI (first:=[.ref a]) (h₀:=X.base) I.ok.mod.kin hm.kp (thn (ha pos pins s1 σ H1 _ I1 q) fun us s2 ⟨vs,H2,I2,r,q2⟩=>⟨I2.kIn,?_⟩) hst hpl
 exact lK (us:=.ref a::us) (vs:=.ref a::vs) F hr hb hd hx I2 (.cons rfl r) q2
theorem qK{pl:Sem Bool}(he:PE X o ta)(c:Cls X.K C)(hm:Meth X.K C m f)(F:FnOk X.prog X.w X.K X.mg X.base CX k f fd ps sp)(hr:Room k X.A)(hb:Binds X.K fd ps ds)(hd:Vals dvs ds)(hx:Passes CX X E)
  (ht:eval (.Call (.Attribute o m apos) [] [] pos) X.env=(do
   let ov <- eval o X.env
   standAt apos.atName
   let (f,first) <- holding [ov] (getMethod ov m pl)
   callWith pos f first (backTo pos (starEach [] X.env)) (backToKw pos (keywordEach [] X.env))):=by rfl) :
  PE X (.Call (.Attribute o m apos) [] [] pos) (qJ C m sp dvs E ta tNil):=by
 intro pins s σ H Q I h
 refine ab6 (pl:=pl) (thn (he pins s σ H _ I h) fun u s1 hZ=>?_) ht
 obtain⟨x,H1,I1,rx,a,dx,fs,ex,ea,l,q⟩:=hZ
 subst ex
 obtain rfl:u=Value.ref a:=rx
 refine gG I1 ea c hm l ?_
 exact PySem.W.callWith_K0 (first:=[.ref a]) I1.kIn hm.kp (lK (us:=[.ref a]) (vs:=[.ref a]) F hr hb hd hx I1 (.cons rfl .nil) q)
structure Mk (K:WF)(C f:Addr):Prop where
 makes:PySem.W.makesIn K C=true
 init:PySem.W.findIn K (.ref C) "__init__"=some (some (.ref f))
 fn:PySem.W.isFn K (.ref f)=true
 kp:PySem.W.keepIn K (.ref C)=true
theorem qL{pins:List (Addr × Obj)}{σ:St}{H:Hp}{s:Shared}{Q:VK}{us:List Value}{vs:List V}(M:Mk X.K C f)(F:FnOk X.prog X.w X.K X.mg X.base CX k f fd ps sp)(hr:Room (k + 1) X.A)(hb:Binds X.K fd ps ds)(hd:Vals dvs ds)
  (hx:Passes CX X E) (I:Inv X pins σ H s) (r:Vals vs us)
  (h:∀x dx,H x=none->H dx=none->dx≠x->sp (.ref x::(vs++dvs)) (upd (upd H dx (.own x)) x (.ins C dx [])) (fun v H2=>v=.non/\Q (.ref x) H2) E) :
  wpAny (model X.prog X.w) X.A (call (.ref C) us) (EP X pins σ Q) X.xe s:=by
 have hq:=h (s.heap.objs.size + 1) s.heap.objs.size (I.hok.fresh (abn _)) (I.hok.fresh (aaf _)) (aao (aaZ _))
 have I2:=Inv.made (C:=C) I
 have r2:Vals (V.ref (s.heap.objs.size + 1)::(vs++dvs)) (Value.ref (s.heap.objs.size + 1)::(us++ds)):=.cons rfl (r.append hd)
 have hl:(Value.ref (s.heap.objs.size + 1)::us++ds).length=ps.length:=by
  have e:=r2.length
  rw[F.len _ _ _ _ hq]at e
  exact e.symm
 refine wpAny_call (qI (f:=f) I.kIn M.makes M.init (beq_iff_eq.mp M.fn) (codeAny_mono (F.run _ X.stack _ _ ⟨Value.ref (s.heap.objs.size + 1)::us,[]⟩ (Value.ref (s.heap.objs.size + 1)::(us++ds)) _ _ E (hr.make C us [])
  (I2.env0.make C us []) (hb _ (Value.ref (s.heap.objs.size + 1)::us) I2.kIn hl) r2 hq) fun r s' hq'=>?_))
 cases r with
 | error e=>exact hx pins σ _ _ e s' I2 hq'
 | ok fl =>
  cases fl with
  | ret u =>
   obtain⟨v,H',I3,rv,ev,q3⟩:=I2.after hq'
   subst ev
   exact⟨rv,⟨V.ref (s.heap.objs.size + 1),H',I3,rfl,q3⟩⟩
  | next=>exact False.elim hq'
  | brk=>exact False.elim hq'
  | cont=>exact False.elim hq'
theorem uH(M:Mk X.K C f)(F:FnOk X.prog X.w X.K X.mg X.base CX k f fd ps sp)(hr:Room (k + 1) X.A)(hg:Gl X x)(hm:X.mg x=some (.ref C))(hb:Binds X.K fd ps ds)(hd:Vals dvs ds)(hx:Passes CX X E)
  (ha:PA X (e::es) t) (hdb:(x == ("__debug__":Str))=false:=by decide) (he:starEach (e::es) X.env=(false,eval e X.env)::starEach es X.env:=by rfl) (hpl:(backTo pos (starEach es X.env)).any (·.1)=false:=by rfl) :
  PE X (.Call (.Name x p) (e::es) [] pos) (wY C sp dvs E t):=by
 intro pins s σ H Q I h
 refine wpAny_Call_Name_kw (je I hg hm ?_ hdb)
 refine abI (h₀:=X.base) I.ok.mod.kin M.kp (thn (ha pos pins s σ H _ I h) fun us s1 ⟨vs,H1,I1,r,q⟩=>⟨I1.kIn,?_⟩) he hpl
 exact qL M F hr hb hd hx I1 r q
end
structure FnScope (N P:List Str)(sc:Scope):Prop where
 kind:sc.kind=.function
 co:sc.isCoroutine=false
 gen:sc.isGenerator=false
 nd:N.Nodup
 pre:N.take P.length=P
 par:∀x∈P,sc.names.lookup x=some .local\/sc.names.lookup x=some .cell
 nofree:∀y∈sc.names,y.2≠.free
theorem iL{kindOf:Str->Option NameKind}{x:Str}:∀{binds:List (Str × Value)} {m:Str->Option Value},(∀v,(x,v) ∉ binds)->bindL kindOf binds m x=m x
 | [],_,_=>rfl
 | (n,v)::r,m,h=>by
  unfold bindL
  rw[iL fun w hw=>h w (aag _ hw)]
  split
  ·have:x≠n:=by rintro rfl;exact h v aaj
   simp[this]
  ·rfl
theorem iM{kindOf:Str->Option NameKind}{x:Str}:∀{binds:List (Str × Value)} {m:Str->Option Value},(∀v,(x,v) ∉ binds)->bindC kindOf binds m x=m x
 | [],_,_=>rfl
 | (n,v)::r,m,h=>by
  unfold bindC
  rw[iM fun w hw=>h w (aag _ hw)]
  split
  ·rfl
  ·have:x≠n:=by rintro rfl;exact h v aaj
   simp[this]
theorem iN{kindOf:Str->Option NameKind}{x:Str}{v:Value}:∀{P:List Str} {vs:List Value} {i:Nat} {m:Str->Option Value},P.Nodup->P[i]?=some x->vs[i]?=some v->kindOf x=some .local ->
  bindL kindOf (P.zip vs) m x=some v
 | [],_,_,_,_,h,_,_=>by simp at h
 | _::_,[],_,_,_,_,h,_=>by simp at h
 | p::P,w::vs,0,m,nd,h1,h2,hk=>by
  simp at h1 h2;subst h1;subst h2
  show bindL kindOf ((p,w)::P.zip vs) m p=_
  unfold bindL
  rw[iL fun v hv=>(aaz.mp nd).1 (abJ hv).1,if_pos hk]
  simp
 | p::P,w::vs,i + 1,m,nd,h1,h2,hk=>by
  show bindL kindOf ((p,w)::P.zip vs) m x=_
  unfold bindL
  exact iN (i:=i) (aaz.mp nd).2 (by simpa using h1) (by simpa using h2) hk
theorem iO{kindOf:Str->Option NameKind}{x:Str}{v:Value}:∀{P:List Str} {vs:List Value} {i:Nat} {m:Str->Option Value},P.Nodup->P[i]?=some x->vs[i]?=some v->kindOf x≠some .local ->
  bindC kindOf (P.zip vs) m x=some v
 | [],_,_,_,_,h,_,_=>by simp at h
 | _::_,[],_,_,_,_,h,_=>by simp at h
 | p::P,w::vs,0,m,nd,h1,h2,hk=>by
  simp at h1 h2;subst h1;subst h2
  show bindC kindOf ((p,w)::P.zip vs) m p=_
  unfold bindC
  rw[iM fun v hv=>(aaz.mp nd).1 (abJ hv).1,if_neg hk]
  simp
 | p::P,w::vs,i + 1,m,nd,h1,h2,hk=>by
  show bindC kindOf ((p,w)::P.zip vs) m x=_
  unfold bindC
  exact iO (i:=i) (aaz.mp nd).2 (by simpa using h1) (by simpa using h2) hk
def start(N:List Str)(vs:List V):St:=vs.map some++List.replicate (N.length - vs.length) none
def ji(CX:CXT)(P:Program)(w:World)(K:WF)(mg:Str->Option Value)(base:Heap)(N:List Str)(qual:Str)(scope:Scope)(f:Addr)(cd:Value)(A:Around)(outer:List Env)(s:Shared)(H:Hp)(E:XK):Cx where
 prog:=P
 w:=w
 K:=K
 mg:=mg
 base:=base
 A:=A.deeper (envOfC qual scope s.heap.objs.size f cd)
 N:=N
 s₀:=s
 H₀:=H
 env:=envOfC qual scope s.heap.objs.size f cd
 outer:=outer
 stack:=envOfC qual scope s.heap.objs.size f cd::outer
 ex:=[]
 calm:=true
 fn:=fun _=>true
 pn:=[]
 xe:=fun e s'=>wpAny (model P w) (A.deeper (envOfC qual scope s.heap.objs.size f cd)) (leaving (envOfC qual scope s.heap.objs.size f cd) e) (fun _ s''=>CX outer H s E e s'') (fun e' s''=>CX outer H s E e' s'') s'
theorem kh{sc:Scope}{n:Nat}{x:Str}(h:sc.names.lookup x=some .cell):∃c,(cellsFrom n sc.names []).lookup x=some c:=by
 have q:=ab7 sc.names n [] (.inl h)
 exact aa6.mp q
theorem ph{CX:CXT}{P:Program}{w:World}{K:WF}{mg:Str->Option Value}{base:Heap}{N ps:List Str}{qual:Str}{scope:Scope}{f:Addr}{cd:Value}{A:Around}{outer:List Env}{s s1:Shared}{H:Hp}{E:XK}{us:List Value}{vs:List V}
  (S:FnScope N ps scope) (hd:A.handled=none) (e0:Env0 P w K mg base A outer s H) (hl:vs.length=ps.length) (r:Vals vs us)
  (x:InCallC s s.heap.objs.size (bindL (envOfC qual scope s.heap.objs.size f cd).kindOf (ps.zip us) fun _=>none) (cellsFrom (s.heap.objs.size + 1) scope.names []) (bindC (envOfC qual scope s.heap.objs.size f cd).kindOf (ps.zip us) fun _=>none) s1) :
  Inv (ji CX P w K mg base N qual scope f cd A outer s H E) [] (start N vs) H s1:=by
 have hpl:ps.length≤N.length:=by have:=congrArg List.length S.pre;rw[aa0]at this;omega
 obtain⟨h1,tk,rfl,hk⟩:=x.done
 have noA:∀b:Addr,b ∉ (ji CX P w K mg base N qual scope f cd A outer s H E).ex:=fun b z=>absurd (show b∈([]:List Addr) from z) (by simp)
 refine⟨⟨e0.mod,S.kind,rfl,rfl,aaf _,fun y z c h1 h2=>?_,fun y hy=>?_,fun y c _ h=>?_,fun _=>hd,Around.frames_deeper e0.frames,.inr ⟨rfl,rfl⟩,fun b z=>absurd z (noA b),e0.bs,e0.bsz,fun b _ _=>noA b,fun b z=>absurd z (noA b),e0.funs,e0.frf⟩,
  rfl,e0.bare,Un.kept hk,⟨_,x.toInCall.ns,fun i y v h1 h2 h3=>?_⟩,fun y c h=>⟨_,x.cell y c h⟩,e0.hok.fresh (aaf _),fun y c h=>?_,fun p hp=>absurd (show p∈([]:List (Addr × Obj)) from hp) (by simp),e0.hok.kept hk,?_⟩
 ·exact name_of_addr x.apart (aa1 h1) (aa1 h2)
 ·have hy:scope.names.lookup y=some .cell\/scope.names.lookup y=some .free:=hy
  rcases hy with hy | hy
  ·exact kh hy
  ·exact absurd rfl (S.nofree _ (aa1 hy))
 ·exact aaQ (x.above y c (aa1 h))
 ·have hi:i < vs.length:=by
   unfold start at h2
   by_cases hi:i < vs.length
   ·exact hi
   ·rw[abo (by simpa using hi)]at h2
    rw[ab8]at h2
    split at h2<;>cases h2
  have ha:vs[i]?=some v:=by
   unfold start at h2
   rw[abc (by simpa using hi),aau]at h2
   cases e:vs[i]? with
   | none=>rw[e]at h2;cases h2
   | some a=>rw[e]at h2;cases h2;rfl
  obtain⟨u,hu,rv⟩:=r.get ha
  have hp:ps[i]?=some y:=by
   rw[<- S.pre,List.getElem?_take_of_lt (by omega)];exact h1
  have ndP:ps.Nodup:=by rw[<- S.pre];exact S.nd.sublist (List.take_sublist _ _)
  refine⟨u,rv,?_⟩
  rcases S.par y (abp hp) with k | k
  ·exact .inl ⟨k,iN ndP hp hu k⟩
  ·obtain⟨c,e⟩:=kh (n:=s.heap.objs.size + 1) k
   refine .inr ⟨.inl k,c,e,?_⟩
   have q:=x.cell y c e
   rw[iO ndP hp hu (by show scope.names.lookup y≠_;rw[k];decide)]at q
   exact q
 ·exact e0.hok.fresh (aaQ (x.above y c (aa1 h)))
 ·unfold start
  show _=N.length
  rw[aam,aaa,abq]
  omega
theorem AR{CX:CXT}{P:Program}{w:World}{K:WF}{mg:Str->Option Value}{base:Heap}{k:Nat}{f:Addr}{name qual:Str}{params:Arguments}{body:List Stmt}{scope:Scope}{dV kV doc pm cdv ct oc:Value}{an od:Option Addr}
  {osl:Array (Option Value)} {N ps:List Str} {sp:Sp} (lk:K.lookup f=some ⟨oc,od,.func (PySem.W.fnOf name qual params body scope dV kV doc pm an cdv ct),osl⟩) (hcd:PySem.W.codeIn K cdv qual=true) (S:FnScope N ps scope)
  (len:∀vs H Q E,sp vs H Q E->vs.length=ps.length)
  (hbody:∀(A:Around) (outer:List Env) (s:Shared) (H:Hp) (vs:List V) (Q:VK) (E:XK),Room k (A.deeper (envOfC qual scope s.heap.objs.size f cdv))->sp vs H Q E ->
   ∃t,PSs (ji CX P w K mg base N qual scope f cdv A outer s H E) body t/\t { nx:=fun _ H'=>Q .non H',rt:=Q } (start N vs) H) :
  FnOk P w K mg base CX (k + 1) f (PySem.W.fnOf name qual params body scope dV kV doc pm an cdv ct) ps sp:=by
 refine⟨len,fun A outer s H args us vs Q E hr e0 hb r hsp=>?_⟩
 have hl:=len _ _ _ _ hsp
 have KX:K.In s.heap:=e0.mod.kin.keeps fun b o e=>(e0.bs b o e).1
 have lim:s.heap.NoLimit:=e0.mod.nolimit.keeps fun b o e=>(e0.bs b o e).1
 have hkind:∀y∈ps.zip us,scope.names.lookup y.1=some .local\/(scope.names.lookup y.1=some .cell/\((cellsFrom (s.heap.objs.size + 1) scope.names []).lookup y.1).isSome=true):=fun ⟨n,v⟩ hy=>by
  rcases S.par n (abJ hy).1 with q | q
  ·exact .inl q
  ·exact .inr ⟨q,ab7 _ _ _ (.inl q)⟩
 refine codeAny_call_function hr.depth (KX _ _ lk) rfl S.co S.gen rfl (PySem.W.codeRec_of KX hcd) (hb _ _ _ _ ?_)
 refine wpAny_newFunctionEnv_cells S.kind hkind fun env he s1 x=>?_
 subst he
 refine⟨lim.keeps x.toInCall.keep,codeAny_func ?_⟩
 obtain⟨t,ht,hq⟩:=hbody A outer s H vs Q E (hr.deeper _) hsp
 have I:Inv (ji CX P w K mg base N qual scope f cdv A outer s H E) [] (start N vs) H s1:=ph S hr.hd e0 hl r x
 refine wpAny_mono (ht [] s1 (start N vs) H _ I hq) (fun fl s' hs=>?_) fun e s' hs=>hs
 have fin:∀{σ':St} {H':Hp} {v:V} {u:Value},Inv (ji CX P w K mg base N qual scope f cdv A outer s H E) [] σ' H' s'->RelV v u->Q v H'->CE outer P w H s Q u s' :=
  fun {σ' H' v u} J rv q=>⟨v,H',J.os,J.bare,J.base,J.hok,rv,q⟩
 cases fl with
 | ret u =>
  obtain⟨v,σ',H',J,rv,q⟩:=hs
  exact fin J rv q
 | next =>
  obtain⟨σ',H',J,q⟩:=hs
  exact fin (v:=V.non) (u:=Value.none) J rfl q
 | brk =>
  obtain⟨_,_,_,q⟩:=hs
  exact False.elim q
 | cont =>
  obtain⟨_,_,_,q⟩:=hs
  exact False.elim q
end
section
section
variable{X:Cx}{x:Str}{p pos:Pos}{e:Expr}{es:List Expr}{t:TA}{id T:String}{r:List V->Hp->VK->Prop}
def D2(r:List V->Hp->VK->Prop)(t:TA):TE:=fun σ H Q=>t σ H fun vs H1=>r vs H1 Q
theorem eQ (hc:bN X (.builtin id) r) (hg:Gl X x) (hm:X.mg x=none) (hv:bootBuiltins x=some (.builtin id)) (ha:PA X (e::es) t) (hn:x≠"__name__":=by decide) (hdb:(x == ("__debug__":Str))=false:=by decide)
  (he:starEach (e::es) X.env=(false,eval e X.env)::starEach es X.env:=by rfl) (hpl:(backTo pos (starEach es X.env)).any (·.1)=false:=by rfl):PE X (.Call (.Name x p) (e::es) [] pos) (D2 r t):=by
 intro pins s σ H Q I h
 refine wpAny_Call_Name_kw (fH I hg hm hv ?_ hn hdb)
 exact PyProof.Rows.callWith_builtin1 (thn (ha pos pins s σ H _ I h) fun us s1 ⟨vs,H1,I1,r1,q1⟩=>hc pins s1 σ H1 vs us Q I1 r1 q1) he hpl
theorem fJ (hc:bN X (.type T) r) (hg:Gl X x) (hm:X.mg x=none) (hv:bootBuiltins x=some (.type T)) (ha:PA X (e::es) t) (hn:x≠"__name__":=by decide) (hdb:(x == ("__debug__":Str))=false:=by decide)
  (he:starEach (e::es) X.env=(false,eval e X.env)::starEach es X.env:=by rfl) (hpl:(backTo pos (starEach es X.env)).any (·.1)=false:=by rfl):PE X (.Call (.Name x p) (e::es) [] pos) (D2 r t):=by
 intro pins s σ H Q I h
 refine wpAny_Call_Name_kw (fH I hg hm hv ?_ hn hdb)
 exact abl (thn (ha pos pins s σ H _ I h) fun us s1 ⟨vs,H1,I1,r1,q1⟩=>hc pins s1 σ H1 vs us Q I1 r1 q1) he hpl
end
end
end L2
namespace HT
open PySem PyProof.Rows
section
variable{prog:Program}{w:World}{A:Around}{E:Value->Shared->Prop}{s:Shared}
def sIx(n d:Nat):Option Int->Nat
 | none=>d
 | some v=>if v < 0 then (v + (n:Int)).toNat else min v.toNat n
end
end HT
namespace L2
open PySem PySem.Spec PyProof.Rows
section
abbrev TO:=St->Hp->(Option Int->Hp->Prop)->Prop
def PO(X:Cx)(e:Option Expr)(t:TO):Prop :=
 ∀(pins:List (Addr × Obj)) (s:Shared) (σ:St) (H:Hp) (Q:Option Int->Hp->Prop),Inv X pins σ H s->t σ H Q ->
  wpAny (model X.prog X.w) X.A (evalPart e X.env) (fun u s'=>∃o H',Inv X pins σ H' s'/\IsPart u o/\Q o H') X.xe s
def tNoPart:TO:=fun _ H Q=>Q none H
def AS(t:TE):TO:=fun σ H Q=>t σ H fun x H1=>∃i,x=.int i/\Q (some i) H1
section
variable{X:Cx}{e:Expr}{te:TE}{lo hi:Option Expr}{tl th:TO}{pos p2:Pos}
theorem uI:PO X none tNoPart:=by
 intro pins s σ H Q I h
 rw[evalPart_none]
 exact wpAny_pure ⟨none,H,I,.none,h⟩
theorem uJ(h:PE X e te):PO X (some e) (AS te):=by
 intro pins s σ H Q I hw
 rw[evalPart_some]
 refine thn (h pins s σ H _ I hw) fun u s1 hZ=>?_
 obtain⟨x,H1,I1,r1,q1⟩:=hZ
 obtain⟨i,rfl,q⟩:=q1
 obtain⟨t,rfl⟩:=r1
 exact⟨some i,H1,I1,.int i t,q⟩
def Fi(X:Cx)(r:V->Option Int->Option Int->Hp->VK->Prop):Prop :=
 ∀(pins:List (Addr × Obj)) (s:Shared) (σ:St) (H:Hp) (x:V) (v vl vu:Value) (lo hi:Option Int) (sl:Addr) (Q:VK),Inv X pins σ H s->RelV x v->s.heap.IsSliceOf sl vl vu .none->IsPart vl lo->IsPart vu hi->r x lo hi H Q ->
  ∃T id,typeLookup (.type T) "__getitem__"=pure (some (.builtin id))/\s.TypeIs v T/\wpAny (model X.prog X.w) X.A (getItem v (.ref sl)) (EP X pins σ Q) X.xe s
def FF(r:V->Option Int->Option Int->Hp->VK->Prop)(te:TE)(tl th:TO):TE:=fun σ H Q=>te σ H fun x H1=>tl σ H1 fun l H2=>th σ H2 fun u H3=>r x l u H3 Q
theorem qM{r:V->Option Int->Option Int->Hp->VK->Prop}(hr:Fi X r)(he:PE X e te)(hl:PO X lo tl)(hu:PO X hi th):PE X (.Subscript e (.Slice lo hi none p2) pos) (FF r te tl th):=by
 intro pins s σ H Q I h
 refine Subscript_ (thn (he pins s σ H _ I h) fun v s1 hZ=>?_)
 obtain⟨x,H1,I1,r1,q1⟩:=hZ
 refine wpAny_Slice (thn (hl pins s1 σ H1 _ I1 q1) fun vl s2 ⟨l,H2,I2,pl,q2⟩=>thn (hu pins s2 σ H2 _ I2 q2) fun vu s3 hZ=>?_)
 obtain⟨u,H3,I3,pu,q3⟩:=hZ
 rw[evalPart_none]
 refine wpAny_pure ?_
 have I4:Inv X pins σ H3 { s3 with heap:=s3.heap.push { cls:=.type "slice",data:=.fields #[vl,vu,.none] } }:=I3.kept (t':=s3.toks) fun b ob q=>Heap.get?_push_of_some _ q
 obtain⟨T,id,hT,ht,hg⟩:=hr pins { s3 with heap:=s3.heap.push { cls:=.type "slice",data:=.fields #[vl,vu,.none] } } σ H3 x v vl vu l u s3.heap.objs.size Q I4 r1 (Heap.IsSliceOf.new ..) pl pu q3
 show wpAny (model X.prog X.w) X.A (subscriptTail e (.Slice lo hi none p2) v (.ref s3.heap.objs.size)) (EP X pins σ Q) X.xe { s3 with heap:=s3.heap.push { cls:=.type "slice",data:=.fields #[vl,vu,.none] } }
 exact tail_any (ops:=[.ref s3.heap.objs.size,v]) ht hT hg (by with_unfolding_all rfl)
def uK(xs:List V)(lo hi:Option Int):List V:=(xs.drop (HT.sIx xs.length 0 lo)).take (HT.sIx xs.length xs.length hi - HT.sIx xs.length 0 lo)
theorem ki(xs:List V)(lo hi:Option Int):(uK xs lo hi).length≤xs.length:=by
 unfold uK
 rw[aa0,abr]
 omega
end
end
section
def ixN(n:Nat)(i:Int):Option Nat:=if 0≤i then (if i < n then some i.toNat else none) else if -(n:Int)≤i then some (i + n).toNat else none
def atI{α:Type}(xs:List α)(i:Int):Option α:=(ixN xs.length i).bind fun j=>xs[j]?
theorem ixN_seq{n:Nat}{i:Int}{j:Nat}(h:ixN n i=some j):seqIndex? i n=some j/\j < n/\-(n:Int)≤i/\i < n:=by
 unfold ixN at h
 by_cases h0:0≤i
 ·rw[if_pos h0]at h
  by_cases h1:i < n
  ·rw[if_pos h1]at h
   have e:i.toNat=j:=aaA h
   exact⟨by rw[seqIndex_of h0 h1,e],by omega,by omega,h1⟩
  ·rw[if_neg h1]at h;cases h
 ·rw[if_neg h0]at h
  by_cases h1:-(n:Int)≤i
  ·rw[if_pos h1]at h
   have e:(i + n).toNat=j:=aaA h
   exact⟨by rw[seqIndex_neg (by omega) h1,e],by omega,h1,by omega⟩
  ·rw[if_neg h1]at h;cases h
theorem atI_get{α:Type}{xs:List α}{i:Int}{v:α}(h:atI xs i=some v):∃j,seqIndex? i xs.length=some j/\xs[j]?=some v/\j < xs.length/\-(xs.length:Int)≤i/\i < xs.length:=by
 unfold atI at h
 cases e:ixN xs.length i with
 | none=>rw[e]at h;cases h
 | some j =>
  rw[e]at h
  obtain⟨h1,h2,h3,h4⟩:=ixN_seq e
  exact⟨j,h1,h,h2,h3,h4⟩
theorem atI_last{α:Type}(xs:List α)(v:α):atI (xs++[v]) (-1)=some v:=by
 have hl:(xs++[v]).length=xs.length + 1:=by simp
 have e:ixN (xs++[v]).length (-1)=some xs.length:=by
  unfold ixN
  rw[hl,if_neg (by decide),if_pos (by omega)]
  congr 1
  omega
 unfold atI
 rw[e]
 show (xs++[v])[xs.length]?=some v
 simp
def PlainIx(b:Expr):Prop:=∀o i,subscripted b false o i=operate [o,i] (getItem o i)
def IxR(X:Cx)(r:R2):Prop :=
 ∀(value slice:Expr) (pins:List (Addr × Obj)) (s:Shared) (σ:St) (H:Hp) (x y:V) (v u:Value) (Q:VK),Inv X pins σ H s->RelV x v->RelV y u->r x y H Q ->
  subscripted slice false v u=operate [v,u] (getItem v u)->wpAny (model X.prog X.w) X.A (subscriptTail value slice v u) (EP X pins σ Q) X.xe s
def FG(X:Cx)(id:String)(r:V->List V->Hp->VK->Prop):Prop :=
 ∀(pins:List (Addr × Obj)) (s:Shared) (σ:St) (H:Hp) (x:V) (xs:List V) (v:Value) (us:List Value) (Q:VK),Inv X pins σ H s->RelV x v->Vals xs us->r x xs H Q ->
  wpAny (model X.prog X.w) X.A (call (.builtin id) (v::us)) (EP X pins σ Q) X.xe s
section
variable{X:Cx}{a b:Expr}{ta tb:TE}{pos:Pos}
theorem IxR.or{r r':R2}(h:IxR X r)(h':IxR X r'):IxR X (fun x y H Q=>r x y H Q\/r' x y H Q):=by
 intro value slice pins s σ H x y v u Q I rx ry q hs
 rcases q with q | q
 ·exact h value slice pins s σ H x y v u Q I rx ry q hs
 ·exact h' value slice pins s σ H x y v u Q I rx ry q hs
theorem qN{r:R2}(hr:IxR X r)(ha:PE X a ta)(hb:PE X b tb)(hs:PlainIx b):PE X (.Subscript a b pos) (yj r ta tb):=by
 intro pins s σ H Q I h
 exact Subscript_ (yk ha hb I h fun v u s2 x y H2 I2 rx ry q=>hr a b pins s2 σ H2 x y v u Q I2 rx ry q (hs _ _))
def AU(K:WF):R2:=fun x y H Q=>∃p xs i v,x=.ref p/\y=.int i/\SqL K H p xs/\atI xs i=some v/\Q v H
def AV(K:WF):R2:=fun x y H Q=>∃p xs i v,x=.ref p/\y=.int i/\SqT K H p xs/\atI xs i=some v/\Q v H
def rIxS:R2:=fun x y H Q=>∃z i c,x=.str z/\y=.int i/\z.length≤sizeLine/\atI z.cps.toList i=some c/\Q (.str ⟨#[c]⟩) H
theorem ix_list:IxR X (AU X.K):=by
 intro value slice pins s σ H x y v u Q I rx ry h hs
 obtain⟨p,xs,i,z,rfl,rfl,hq,he,q⟩:=h
 cases rx
 obtain⟨t,rfl⟩:=ry
 obtain⟨its,r,pl,hz⟩:=I.list hq
 obtain⟨j,h1,h2,h3,h4,h5⟩:=atI_get he
 obtain⟨w,ew,rw'⟩:=r.get h2
 have hl:=r.length
 have hn:=line63
 have fin:EP X pins σ Q w s:=⟨z,H,I,rw',q⟩
 by_cases h0:0≤i
 ·have hj:i.toNat=j:=by
   rw[seqIndex_of h0 h5]at h1
   exact aaA h1
  exact item_listR pl.isList h0 (by omega) (by rw[hj];simpa using ew) fin hs
 ·have hj:(i + (its.toArray.size:Int)).toNat=j:=by
   rw[seqIndex_neg (by omega) h4]at h1
   rw[aaw,<- hl]
   exact aaA h1
  exact subscriptTail_builtinR (x:=w) pl.isList.typeIs slot_list_getitem.lookup
   (wpAny_getItem_list_neg (Q:=fun r s'=>r=w/\EP X pins σ Q r s') pl.isList (by omega) (by rw[aaw]<;>omega) (by omega) (by rw[hj];simpa using ew) ⟨rfl,fin⟩) hs
theorem ix_tup:IxR X (AV X.K):=by
 intro value slice pins s σ H x y v u Q I rx ry h hs
 obtain⟨p,xs,i,z,rfl,rfl,hq,he,q⟩:=h
 cases rx
 obtain⟨t,rfl⟩:=ry
 obtain⟨its,r,pl,hz⟩:=I.tuple hq
 obtain⟨j,h1,h2,h3,h4,h5⟩:=atI_get he
 obtain⟨w,ew,rw'⟩:=r.get h2
 have hl:=r.length
 have hn:=line63
 have fin:EP X pins σ Q w s:=⟨z,H,I,rw',q⟩
 exact subscriptTail_builtinR (x:=w) pl.typeIs slot_tuple_getitem.lookup
  (getItem_tuple (j:=j) (Q:=fun r s'=>r=w/\EP X pins σ Q r s') pl (by omega) (by omega) (by rw[aaw,<- hl];exact h1) (by simpa using ew) ⟨rfl,fin⟩) hs
theorem yA:IxR X rIxS:=by
 intro value slice pins s σ H x y v u Q I rx ry h hs
 obtain⟨z,i,c,rfl,rfl,hz,he,q⟩:=h
 obtain⟨t,rfl⟩:=rx
 obtain⟨t',rfl⟩:=ry
 obtain⟨j,h1,h2,h3,h4,h5⟩:=atI_get he
 have hl:z.cps.toList.length=z.length:=by simp[Str.length]
 rw[hl]at h1 h4 h5
 have hn:=line63
 exact tail_any (typeIs_str s z t) slot_str_getitem.lookup (getItem_str (c:=c) (by
  have e1:decide (i < -(2 ^ 63:Int))=false:=decide_eq_false (by omega)
  have e2:decide (i ≥ 2 ^ 63)=false:=decide_eq_false (by omega)
  rw[e1,e2,Bool.or_false]) (by rw[h1];simpa using h2) ⟨.str ⟨#[c]⟩,H,I.tok _,⟨_,rfl⟩,q⟩) hs
def Fj(K:WF):R2:=fun x y H Q=>AU K x y H Q\/AV K x y H Q\/rIxS x y H Q
theorem lL:IxR X (Fj X.K):=ix_list.or (ix_tup.or yA)
theorem lM(its:List Value)(n j:Nat)(u:Value):Obj.mapSeq (·.setIfInBounds j u) { cls:=.type "list",data:=.seq its.toArray n }={ cls:=.type "list",data:=.seq (its.set j u).toArray n }:=by
 simp[Obj.mapSeq]
theorem Inv.lst{pins:List (Addr × Obj)}{σ:St}{H:Hp}{s:Shared}{p:Addr}{xs:List V}(I:Inv X pins σ H s)(h:H p=some (.lst xs)) :
  ∃(its:List Value) (n:Nat),Vals xs its/\s.heap.get? p=some { cls:=.type "list",data:=.seq its.toArray n }/\xs.length≤sizeLine:=by
 obtain⟨z,its,n,r,e⟩:=I.hok p _ h
 exact⟨its,n,r,e,z⟩
theorem Inv.lstUpd{pins:List (Addr × Obj)}{σ:St}{H:Hp}{s:Shared}{p:Addr}{xs ys:List V}{its its':List Value}{n n':Nat}{f:Obj->Obj}(I:Inv X pins σ H s)(h:H p=some (.lst xs))
  (ho:s.heap.get? p=some { cls:=.type "list",data:=.seq its.toArray n }) (hf:f { cls:=.type "list",data:=.seq its.toArray n }={ cls:=.type "list",data:=.seq its'.toArray n' }) (r:Vals ys its') (hz:ys.length≤sizeLine) (t:Nat) :
  Inv X pins σ (upd H p (.lst ys)) { s with heap:=s.heap.update p f,toks:=t }:=by
 have e:(s.heap.update p f).get? p=some { cls:=.type "list",data:=.seq its'.toArray n' }:=by
  rw[Heap.get?_update_self f ho (by rw[hf]<;>rfl),hf]
 refine I.write (x:=p) (e:=p) (by rw[h];trivial) (.inl rfl) (fun b u hb q=>(Heap.get?_update_other _ _ (aaF hb)).trans q) ⟨_,e⟩ ?_
 exact⟨hz,its',n',r,e⟩
def rSetL:V->V->V->Hp->(Hp->Prop)->Prop:=fun o i v H Q=>∃p xs k j,o=.ref p/\i=.int k/\H p=some (.lst xs)/\ixN xs.length k=some j/\Q (upd H p (.lst (xs.set j v)))
theorem set_list:PSet X rSetL:=by
 intro pins s σ H o i v ov iv u Q I ro ri rv h
 obtain⟨p,xs,k,j,rfl,rfl,hp,hj,q⟩:=h
 cases ro
 obtain⟨t,rfl⟩:=ri
 obtain⟨its,n,r,ho,hz⟩:=I.lst hp
 obtain⟨h1,h2,h3,h4⟩:=ixN_seq hj
 have hl:=r.length
 have hn:=line63
 have I':Inv X pins σ (upd H p (.lst (xs.set j v))) { s with heap:=s.heap.update p (Obj.mapSeq (·.setIfInBounds j u)) } :=
  I.lstUpd hp ho (lM its n j u) (r.set rv j) (by rw[abK];exact hz) s.toks
 by_cases h0:0≤k
 ·have hk:k.toNat=j:=by
   rw[seqIndex_of h0 h4]at h1
   exact aaA h1
  exact PySem.W.ki_setAt ho h0 (by omega) (by rw[aaw,<- hl];exact h4) (by rw[hk];exact⟨_,I',q⟩)
 ·have hk:(k + (its.toArray.size:Int)).toNat=j:=by
   rw[seqIndex_neg (by omega) h3]at h1
   rw[aaw,<- hl]
   exact aaA h1
  exact PySem.W.ki_setBack ho (by omega) (by rw[aaw,<- hl];exact h3) (by omega) (by rw[hk];exact⟨_,I',q⟩)
theorem jk(lo hi:Option Int)(n:Nat):(sliceBounds lo hi none n).1=((HT.sIx n 0 lo:Nat):Int)/\(sliceBounds lo hi none n).2.1=((HT.sIx n n hi:Nat):Int)/\(sliceBounds lo hi none n).2.2=1:=by
 refine⟨?_,?_,rfl⟩
 ·cases lo with
  | none=>simp[sliceBounds,HT.sIx]
  | some i =>
   simp only[sliceBounds,HT.sIx,Option.getD_none,show (1:Int) > 0 by decide,if_true]
   by_cases h:i < 0
   ·simp only[h,if_true]<;>omega
   ·simp only[h,if_false]<;>omega
 ·cases hi with
  | none=>simp[sliceBounds,HT.sIx]
  | some i =>
   simp only[sliceBounds,HT.sIx,Option.getD_none,show (1:Int) > 0 by decide,if_true]
   by_cases h:i < 0
   ·simp only[h,if_true]<;>omega
   ·simp only[h,if_false]<;>omega
theorem iJ(its:List Value)(lo hi:Option Int):slicePick its.toArray lo hi none=((its.drop (HT.sIx its.length 0 lo)).take (HT.sIx its.length its.length hi - HT.sIx its.length 0 lo)).toArray:=by
 obtain⟨h1,h2,h3⟩:=jk lo hi its.toArray.size
 unfold slicePick
 rw[h1,h2,h3]
 simp only[sliceRange_one,pick_run,aaw]<;>rfl
def D3(K:WF):V->Option Int->Option Int->Hp->VK->Prop:=fun x lo hi H Q=>∃a xs,x=.ref a/\SqL K H a xs/\∀p,H p=none->Q (.ref p) (upd H p (.lst (uK xs lo hi)))
theorem uL:Fi X (D3 X.K):=by
 intro pins s σ H x v vl vu lo hi sl Q I rx hs pl pu h
 obtain⟨a,xs,rfl,hx,q⟩:=h
 cases rx
 obtain⟨its,r,ht,hz⟩:=I.list hx
 have hlen:=r.length
 refine⟨"list",_,slot_list_getitem.lookup,ht.isList.typeIs,?_⟩
 refine wpAny_getItem_list_slice ht.isList hs pl pu .none (by simp) ?_ (by rw[aaw]<;>omega)
 rw[iJ,<- hlen]
 refine⟨.ref s.heap.objs.size,_,I.laid (t':=s.toks) (o:=.lst (uK xs lo hi)) (fun b ob q=>Heap.get?_push_of_some _ q) (aaf _) ?_,rfl,q _ (I.hok.fresh (aaf _))⟩
 exact⟨aan (ki xs lo hi) hz,_,0,(r.drop (HT.sIx xs.length 0 lo)).take (HT.sIx xs.length xs.length hi - HT.sIx xs.length 0 lo),Heap.get?_push_size _ rfl⟩
def cf:V->Bool
 | .non=>true
 | .bl _=>true
 | .int _=>true
 | .str _=>true
 | _=>false
def eqV:V->V->Bool
 | .non,.non=>true
 | .bl a,.bl b=>a == b
 | .bl a,.int b=>(if a then 1 else 0) == b
 | .int a,.bl b=>a == (if b then 1 else 0)
 | .int a,.int b=>a == b
 | .str a,.str b=>a == b
 | _,_=>false
theorem yB{A:Around}{s:Shared}{y x:V}{u v:Value}(ry:RelV y u)(rx:RelV x v)(fy:cf y=true)(fx:cf x=true):SeqAt.EqAt A s u v (eqV y x):=by
 cases y with
 | non =>
  cases ry
  cases x with
  | non=>cases rx;exact SeqAt.EqAt.same _
  | bl b=>cases rx;exact SeqAt.EqAt.none_bool b
  | int b=>obtain⟨t,rfl⟩:=rx;exact SeqAt.EqAt.none_int b t
  | str b=>obtain⟨t,rfl⟩:=rx;exact SeqAt.EqAt.none_str b t
  | _=>exact absurd (show false=true from fx) aae
 | bl a =>
  cases ry
  cases x with
  | non=>cases rx;exact SeqAt.EqAt.bool_none a
  | bl b=>cases rx;exact SeqAt.EqAt.bool_bool a b
  | int b=>obtain⟨t,rfl⟩:=rx;exact SeqAt.EqAt.bool_int a b t
  | str b=>obtain⟨t,rfl⟩:=rx;exact SeqAt.EqAt.bool_str a b t
  | _=>exact absurd (show false=true from fx) aae
 | int a =>
  obtain⟨t',rfl⟩:=ry
  cases x with
  | non=>cases rx;exact SeqAt.EqAt.int_none a t'
  | bl b=>cases rx;exact SeqAt.EqAt.int_bool a t' b
  | int b=>obtain⟨t,rfl⟩:=rx;exact SeqAt.EqAt.int_int a t' b t
  | str b=>obtain⟨t,rfl⟩:=rx;exact SeqAt.EqAt.int_str a t' b t
  | _=>exact absurd (show false=true from fx) aae
 | str a =>
  obtain⟨t',rfl⟩:=ry
  cases x with
  | non=>cases rx;exact SeqAt.EqAt.str_none a t'
  | bl b=>cases rx;exact SeqAt.EqAt.str_bool a t' b
  | int b=>obtain⟨t,rfl⟩:=rx;exact SeqAt.EqAt.str_int a t' b t
  | str b=>obtain⟨t,rfl⟩:=rx;exact SeqAt.EqAt.str_str a t' b t
  | _=>exact absurd (show false=true from fx) aae
 | _=>exact absurd (show false=true from fy) aae
def lN(x:V)(u:Value):Bool:=match u with
 | .none=>eqV .non x
 | .bool b=>eqV (.bl b) x
 | .int i _=>eqV (.int i) x
 | .str z _=>eqV (.str z) x
 | _=>false
theorem qO{x y:V}{u:Value}(r:RelV y u)(f:cf y=true):lN x u=eqV y x:=by
 cases y with
 | non=>cases r;rfl
 | bl b=>cases r;rfl
 | int i=>obtain⟨t,rfl⟩:=r;rfl
 | str z=>obtain⟨t,rfl⟩:=r;rfl
 | _=>exact absurd (show false=true from f) aae
theorem eR{x:V}:∀{xs:List V} {us:List Value},Vals xs us->xs.all cf=true->us.any (lN x)=xs.any fun y=>eqV y x
 | _,_,.nil,_=>rfl
 | y::xs,u::us,.cons r t,f=>by
  rw[abt,aaB]at f
  rw[aaO,aaO,qO r f.1,eR t f.2]
theorem c9{A:Around}{s:Shared}{x:V}{v:Value}(rx:RelV x v)(fx:cf x=true):∀{xs:List V} {us:List Value},Vals xs us->xs.all cf=true->∀u∈us,SeqAt.EqAt A s u v (lN x u)
 | _,_,.nil,_=>fun u hu=>by cases hu
 | y::xs,u::us,.cons r t,f=>fun u' hu=>by
  rw[abt,aaB]at f
  rcases aac.mp hu with rfl | hu
  ·rw[qO r f.1];exact yB r rx f.1 fx
  ·exact c9 rx fx t f.2 u' hu
def inV(x:V)(xs:List V):Bool:=xs.any fun y=>eqV y x
def D4(K:WF)(neg:Bool):R2:=fun x y H Q=>∃p xs,y=.ref p/\(SqL K H p xs\/SqT K H p xs)/\cf x=true/\xs.all cf=true/\Q (.bl (if neg then !inV x xs else inV x xs)) H
theorem pj:OpR X (compareOp .In) (D4 X.K false):=by
 intro pins s σ H x y v u Q I rx ry h
 obtain⟨p,xs,rfl,hq,fx,fs,q⟩:=h
 cases ry
 rcases hq with hq | hq
 ·obtain⟨its,r,pl,hz⟩:=I.list hq
  refine SeqAt.in_listAt (lN x) pl.isList (fun w hw=>c9 rx fx r fs w (by simpa using hw)) ⟨.bl _,H,I,rfl,?_⟩
  rw[show its.toArray.any (lN x)=its.any (lN x) by simp,eR r fs]
  exact q
 ·obtain⟨its,r,pl,hz⟩:=I.tuple hq
  refine SeqAt.in_tupleAt (lN x) pl (fun w hw=>c9 rx fx r fs w (by simpa using hw)) ⟨.bl _,H,I,rfl,?_⟩
  rw[show its.toArray.any (lN x)=its.any (lN x) by simp,eR r fs]
  exact q
theorem jl:OpR X (compareOp .NotIn) (D4 X.K true):=by
 intro pins s σ H x y v u Q I rx ry h
 obtain⟨p,xs,rfl,hq,fx,fs,q⟩:=h
 cases ry
 rcases hq with hq | hq
 ·obtain⟨its,r,pl,hz⟩:=I.list hq
  refine SeqAt.notIn_listAt (lN x) pl.isList (fun w hw=>c9 rx fx r fs w (by simpa using hw)) ⟨.bl _,H,I,rfl,?_⟩
  rw[show its.toArray.any (lN x)=its.any (lN x) by simp,eR r fs]
  exact q
 ·obtain⟨its,r,pl,hz⟩:=I.tuple hq
  refine SeqAt.notIn_tupleAt (lN x) pl (fun w hw=>c9 rx fx r fs w (by simpa using hw)) ⟨.bl _,H,I,rfl,?_⟩
  rw[show its.toArray.any (lN x)=its.any (lN x) by simp,eR r fs]
  exact q
theorem jm:bN X (.type "list") (fun xs H Q=>∃p ys,xs=[.ref p]/\(SqL X.K H p ys\/SqT X.K H p ys)/\∀l,H l=none->Q (.ref l) (upd H l (.lst ys))):=by
 intro pins s σ H xs us Q I r h
 obtain⟨p,ys,rfl,hq,q⟩:=h
 obtain⟨u,rfl,rx⟩:=vals1 r
 cases rx
 have fin:∀(its:List Value),Vals ys its->ys.length≤sizeLine->∀(h':Heap) (c':Nat),(∀b o',s.heap.get? b=some o'->h'.get? b=some o') ->
   h'.get? s.heap.objs.size=some { cls:=.type "list",dict:=none,data:=.seq its.toArray c',slots:=#[] }->EP X pins σ Q (.ref s.heap.objs.size) { s with heap:=h' }:=fun its r' hz h' c' kp e =>
  ⟨.ref s.heap.objs.size,_,I.laid (t':=s.toks) kp (aaf _) (show ObjOk X.prog X.w _ h' _ (.lst ys) from ⟨hz,its,c',r',e⟩),rfl,q _ (I.hok.fresh (aaf _))⟩
 rcases hq with hq | hq
 ·obtain⟨its,r',pl,hz⟩:=I.list hq
  have hlen:=r'.length
  obtain⟨o,ho,hc,n,hd⟩:=pl.isList
  exact call_list_seq p (.inl rfl) ho hc hd (fun h' c' kp e=>fin its r' hz h' c' kp e) (by simp only[aaw]<;>omega)
 ·obtain⟨its,r',pl,hz⟩:=I.tuple hq
  have hlen:=r'.length
  obtain⟨o,ho,hc,n,hd⟩:=pl
  exact call_list_seq p (.inr rfl) ho hc hd (fun h' c' kp e=>fin its r' hz h' c' kp e) (by simp only[aaw]<;>omega)
theorem iK:bN X (.type "tuple") (fun xs H Q=>∃p ys,xs=[.ref p]/\((SqL X.K H p ys/\∀l,H l=none->Q (.ref l) (upd H l (.tup ys)))\/(SqT X.K H p ys/\Q (.ref p) H))):=by
 intro pins s σ H xs us Q I r h
 obtain⟨p,ys,rfl,h⟩:=h
 obtain⟨u,rfl,rx⟩:=vals1 r
 cases rx
 rcases h with ⟨hq,q⟩ | ⟨hq,q⟩
 ·obtain⟨its,r',pl,hz⟩:=I.list hq
  have hlen:=r'.length
  refine call_tuple_list pl.isList (fun h' kp=>?_) (by simp only[aaw]<;>omega)
  have I1:Inv X pins σ H { s with heap:=h' }:=I.kept (t':=s.toks) kp
  have I2:Inv X pins σ (upd H h'.objs.size (.tup ys)) { s with heap:=h'.push { cls:=.type "tuple",data:=.seq its.toArray } } :=
   I1.laid (t':=s.toks) (fun b o e=>Heap.get?_push_of_some _ e) (aaf _) (show ObjOk X.prog X.w _ _ _ (.tup ys) from ⟨hz,its,r',IsTup.new _ _⟩)
  exact⟨.ref h'.objs.size,_,I2,rfl,q _ (I1.hok.fresh (aaf _))⟩
 ·obtain⟨its,r',pl,hz⟩:=I.tuple hq
  exact call_tuple_same pl ⟨.ref p,H,I,rfl,q⟩
def Fk(K:WF)(T:String)(x:V)(H:Hp):Prop:=match x with
 | .str _=>T="str"
 | .int _=>T="int"
 | .ref p=>(T="list"/\∃xs,SqL K H p xs)\/(T="tuple"/\∃o,K.lookup p=some o/\o.cls=.type "tuple"/\o.dict=none) \/
   (T="dict"/\((∃kvs,H p=some (.dK kvs))\/∃kvs,H p=some (.dT kvs)))\/(T="set"/\∃S n,H p=some (.set S n))
 | _=>False
theorem yC{pins:List (Addr × Obj)}{σ:St}{H:Hp}{s:Shared}{T:String}{x:V}{v:Value}(I:Inv X pins σ H s)(r:RelV x v)(ty:Fk X.K T x H) :
  s.TypeIs v T/\∀a,v=.ref a->∃ob,s.heap.get? a=some ob/\ob.dict=none:=by
 cases x with
 | str z =>
  obtain⟨t,rfl⟩:=r
  cases (show T="str" from ty)
  exact⟨typeIs_str s z t,fun _ e=>nomatch e⟩
 | int i =>
  obtain⟨t,rfl⟩:=r
  cases (show T="int" from ty)
  exact⟨typeIs_int s i t,fun _ e=>nomatch e⟩
 | ref p =>
  cases r
  rcases ty with ⟨rfl,xs,hq⟩ | ⟨rfl,o,hk,hc,hd⟩ | ⟨rfl,hk⟩ | ⟨rfl,S,n,hk⟩
  ·obtain⟨its,_,pl,_⟩:=I.list hq
   refine⟨pl.isList.typeIs,fun a e=>?_⟩
   cases e
   obtain⟨o,n,e,c,hd,_⟩:=pl
   exact⟨o,e,hd⟩
  ·refine⟨⟨o,I.kIn p o hk,hc⟩,fun a e=>?_⟩
   cases e
   exact⟨o,I.kIn _ o hk,hd⟩
  ·have z:∃o,s.heap.get? p=some o/\o.ExactDict:=by
    rcases hk with ⟨kvs,hk⟩ | ⟨kvs,hk⟩
    ·obtain⟨_,_,_,_,o,_,_,e,ex,_⟩:=I.hok p _ hk
     exact⟨o,e,ex⟩
    ·obtain⟨_,_,_,_,o,_,_,e,ex,_⟩:=I.hok p _ hk
     exact⟨o,e,ex⟩
   obtain⟨o,e,ex⟩:=z
   refine⟨⟨o,e,ex.1⟩,fun a e2=>?_⟩
   cases e2
   exact⟨o,e,ex.2.1⟩
  ·obtain⟨o,_,_,_,e,ex,_⟩:=I.hok p _ hk
   refine⟨⟨o,e,ex.1⟩,fun a e2=>?_⟩
   cases e2
   exact⟨o,e,ex.2.1⟩
 | _=>exact False.elim ty
def FH(K:WF)(T:String)(r:V->List V->Hp->VK->Prop)(to:TE)(t:TA):TE:=fun σ H Q=>to σ H fun x H1=>Fk K T x H1/\t σ H1 fun xs H2=>r x xs H2 Q
variable{o e:Expr}{es:List Expr}{to:TE}{t:TA}{name:Str}{apos cpos:Pos}{T id:String}{r:V->List V->Hp->VK->Prop}
theorem qP (pa:PlainAttrs T) (slot:Slot T name id) (hty:typeOf (.builtin id)=pure (.type "method_descriptor")) (hm:FG X id r) (ho:PE X o to) (ha:PA X (e::es) t)
  (hbase:attributeBase o name X.env (eval o X.env)=eval o X.env:=by rfl)
  (hfew:((backTo cpos (starEach (e::es) X.env)).all (fun x=>!x.1) && (backToKw cpos (keywordEach [] X.env)).all (fun x=>x.1.isSome)
   && decide ((e::es).length + ([]:List Keyword).length + (if ([]:List Keyword).isEmpty then 0 else 1) < 30))=true:=by rfl)
  (hline:(apos.endLine == cpos.line)=true:=by rfl) (hs:starEach (e::es) X.env=(false,eval e X.env)::starEach es X.env:=by rfl) (hplain:(backTo cpos (starEach es X.env)).any (·.1)=false:=by rfl) :
  PE X (.Call (.Attribute o name apos) (e::es) [] cpos) (FH X.K T r to t):=by
 intro pins s σ H Q I h
 refine wpAny_Call_method_late hbase hfew hline rfl (thn (ho pins s σ H _ I h) fun v s1 hZ=>?_)
 obtain⟨x,H1,I1,r1,ty,q1⟩:=hZ
 obtain⟨h1,h2⟩:=yC I1 r1 ty
 refine⟨T,id,pa,slot,hty,h1,h2,?_⟩
 have hA:=ha cpos pins s1 σ H1 _ I1 q1
 rw[hs]at hA ⊢
 refine Calls.callWith_builtin (by show (false || (backTo cpos (starEach es X.env)).any (·.1))=false;rw[hplain]<;>rfl) (Calls.evalArgs_plain ?_)
 exact thn hA fun us s2 ⟨vs,H2,I2,r2,q2⟩=>hm pins s2 σ H2 x vs v us Q I2 r1 r2 q2
end
end
section
def FI(X:Cx)(id:String)(r:V->List V->Hp->VK->Prop):Prop :=
 ∀(pins:List (Addr × Obj)) (s:Shared) (σ:St) (H:Hp) (x:V) (xs:List V) (v:Value) (us:List Value) (Q:VK),Inv X pins σ H s->RelV x v->Vals xs us->r x xs H Q ->
  wpAny (model X.prog X.w) X.A (call (.builtin id) (v::us)) (EP X pins σ Q) X.xe s
theorem Vals.one{x:V}{us:List Value}(h:Vals [x] us):∃u,us=[u]/\RelV x u:=by
 cases h with | cons r t=>cases t;exact⟨_,rfl,r⟩
theorem Vals.two{x y:V}{us:List Value}(h:Vals [x,y] us):∃u v,us=[u,v]/\RelV x u/\RelV y v:=by
 cases h with | cons r t=>cases t with | cons q t=>cases t;exact⟨_,_,rfl,r,q⟩
section
variable{X:Cx}{pins:List (Addr × Obj)}{σ:St}{H:Hp}{s:Shared}{l b:Addr}{xs ys zs:List V}
theorem Inv.lset{its its':List Value}{n:Nat}{f:Array Value->Array Value}{t':Nat}(I:Inv X pins σ H s)(hH:H l=some (.lst xs))
  (e:s.heap.get? l=some { cls:=.type "list",data:=.seq its.toArray n }) (hf:f its.toArray=its'.toArray) (hv:Vals ys its') (hz:ys.length≤sizeLine) :
  Inv X pins σ (upd H l (.lst ys)) { s with heap:=s.heap.update l (Obj.mapSeq f),toks:=t' }:=by
 have q:=PySem.IsL.update e f
 rw[hf]at q
 refine I.write (x:=l) (e:=l) (by rw[hH];exact trivial) (.inl rfl) (fun b' u hb hu=>(Heap.get?_update_other s.heap (Obj.mapSeq f) (aaF hb)).trans hu) ⟨_,q⟩ ?_
 exact⟨hz,its',_,hv,q⟩
theorem Inv.lnew{its:List Value}{t':Nat}(I:Inv X pins σ H s)(hv:Vals ys its)(hz:ys.length≤sizeLine) :
  Inv X pins σ (upd H s.heap.objs.size (.lst ys)) { s with heap:=s.heap.push { cls:=.type "list",data:=.seq its.toArray },toks:=t' } :=
 I.laid (fun _ _ q=>Heap.get?_push_of_some _ q) (aaf _) ⟨hz,its,0,hv,Heap.get?_push_size _ rfl⟩
theorem Inv.fresh(I:Inv X pins σ H s):H s.heap.objs.size=none:=I.hok.fresh (aaf _)
theorem Inv.lstM(I:Inv X pins σ H s)(hH:H l=some (.lst xs)):xs.length≤sizeLine/\∃(its:List Value) (n:Nat),Vals xs its/\xs.length=its.length/\s.heap.get? l=some { cls:=.type "list",data:=.seq its.toArray n }:=by
 obtain⟨z,its,n,r,e⟩:=I.hok l _ hH
 exact⟨z,its,n,r,r.length,e⟩
end
section
variable{X:Cx}
def rAppend:V->List V->Hp->VK->Prop:=fun x vs H Q=>∃l xs y,x=.ref l/\vs=[y]/\H l=some (.lst xs)/\xs.length < sizeLine/\Q .non (upd H l (.lst (xs++[y])))
theorem dM:FI X "list.append" rAppend:=by
 intro pins s σ H x vs v us Q I rx rv h
 obtain⟨l,xs,y,rfl,rfl,hH,hz,q⟩:=h
 cases rx
 obtain⟨u,rfl,ru⟩:=rv.one
 obtain⟨z,its,n,r,hl,e⟩:=I.lstM hH
 refine call_meets F.slot_list_append ⟨_,e,rfl⟩ F.entry_list_append (F.args_list_append_2 _ _) (PySem.list_append l its.toArray n u (by rw[aaw];omega)) ⟨e,?_⟩
 refine⟨.non,_,I.lset (its':=its++[u]) hH e (by simp) (r.append (.cons ru .nil)) ?_,rfl,q⟩
 rw[aam,aaE]
 omega
end
end
end L2
namespace Att
open PySem PySem.W PySem.Calls PyProof.Rows
theorem gx{P:Params}{h:Heap}:∀(ns:List Int) (vs:List Value),WellAll P h vs (ns.map WData.int)->IntsAre vs ns:=by
 intro ns
 induction ns with
 | nil =>
  intro vs w
  rw[aaG]at w
  cases w
  exact .nil
 | cons n ns ih =>
  intro vs w
  rw[aal]at w
  cases w with
  | cons a b =>
   cases a
   exact .cons _ _ (ih _ b)
theorem pk{l:OpenLaw}{n:Nat}(hn:l.most=some n){P:Params}{h:Heap}{args:List WData}{vals:List Value}
  (hpre:l.row.toRowW.claim.pre args=true) (hwl:WellAll P h vals args) :
  ∃a vs ns,vals=[Value.ref a]/\args=[WData.list (ns.map WData.int)]/\h.get? a=some { cls:=.type "list",data:=.seq vs.toArray }/\IntsAre vs ns/\ns.length≤n:=by
 have hsh:WShape.hasAll [] args [.list .int]=true:=(pre_splitW hpre).1
 have hc:l.pre.holds [] { args:=args }=true:=(pre_splitW hpre).2
 obtain⟨d,r,rfl,h1,h2⟩:=hasAllW_cons hsh
 obtain rfl:=hasAllW_nil h2
 obtain⟨xs,rfl,h3⟩:=hasW_list h1
 obtain⟨ns,rfl⟩:=items_int h3
 have hlen:ns.length≤n:=by
  unfold OpenLaw.pre at hc
  have h4:(WTm.not (.lt (.lit (.int (n:Int))) (.len (.arg 0)))).holds [] { args:=[.list (ns.map .int)] }=true:=by
   have h4:=(holds_andW hc).1
   rw[hn]at h4
   exact h4
  have h5:=condW_of h4 (w_not (w_lt w_lit (w_len_list (w_arg rfl))))
  rw[aaa]at h5
  refine Nat.le_of_not_lt fun q=>?_
  have q':(n:Int) < ((ns.length:Nat):Int):=by omega
  first
   | (rw[decide_eq_true q']at h5;exact absurd h5 (by decide))
   | (simp at h5;omega)
 cases hwl with
 | cons w1 w2 =>
  cases w2
  cases w1 with
  | list ho hall=>exact⟨_,_,ns,rfl,rfl,ho,gx ns _ hall,hlen⟩
theorem pq(l:OpenLaw)(args:List WData):l.row.toRowW.claim.post args (.bool true) args=true :=
 postW_of (r:=l.row.toRowW) (X:=(true == true))
  (show WShape.has [] (.bool true) .bool=true by first | rfl | decide | simp[WShape.has,WShape.arms,WShape.armsAll])
  (show (WTm.eq .res (.lit (.bool true))).value [] { args:=args,res:=some (.bool true),after:=args }=some (.bool (true == true)) from w_eq_bool (w_res rfl) w_lit) rfl
theorem attach_call{l:OpenLaw}{n:Nat}{q:Program}{loose:List Str}{XP:(Str->Option Value)->Heap->Prop}{YP:World->Heap->Prop}{d:DefRec}
  (hn:l.most=some n) (hdf:d.params.defaults=[])
  (call:∀(w:World) (s₀ s₁:Shared) (mg mb:Str->Option Value) (fa:Addr) (o:Obj) (pm cd doc:Value) (a:Addr) (vs:List Value) (ns:List Int),
   Ground q loose [] XP w s₀ mg mb s₁.heap->YP w s₁.heap ->
   s₁.heap.get? fa=some o->o.data=.func (docDef d.name d.params d.body d.scope pm cd doc)->s₁.heap.CodeRec cd d.name->mg d.name=some (.ref fa) ->
   s₁.heap.get? a=some { cls:=.type "list",data:=.seq vs.toArray }->IntsAre vs ns->ns.length≤n->s₁.gens=#[] ->
   codeAny (model l.prog w) callerA (.call (.ref fa) ⟨[.ref a],[]⟩) (fun r s'=>r=.ok (.ret (.bool true))/\OldK s₁.heap s'.heap/\s'.os=s₁.os/\AllBare s'.gens) s₁) :
  WalkO q loose XP YP l.row.toRowW d [] (fun f vs=>PySem.call f vs):=by
 intro w s₀ s₁ mg mb G Y fa o pm cd doc dV kV ho hd hcd hD hmg hg args vals as hpre hlay hrd hwl hlo
 obtain rfl:dV=.none:=Dflts.none hD hdf
 obtain rfl:kV=.none:=Dflts.noKw hD
 obtain⟨a,vs,ns,rfl,rfl,hobj,hints,hlen⟩:=pk hn hpre hwl
 refine enter_call (codeAny_mono (call w s₀ s₁ mg mb fa o pm cd doc a vs ns G Y ho (fd_plain hd) hcd hmg hobj hints hlen hg) fun r s' hq=>?_)
 obtain⟨rfl,h2,h3,h4⟩:=hq
 exact⟨.inl ⟨.bool true,.bool true,[],rfl,fun _=>rfl,.bool true,pq l _,fun _=>⟨List.Pairwise.nil,fun _ hm=>(nomatch hm)⟩⟩,h2,h3,h4⟩
end Att
namespace L2
open PySem PySem.Spec PyProof.Rows
section
theorem vals_ints:∀{vs:List Value} {ns:List Int},IntsAre vs ns->Vals (ns.map V.int) vs
 | _,_,.nil=>.nil
 | _,_,.cons n t h=>.cons ⟨t,rfl⟩ (vals_ints h)
def yD(H:Hp):Prop:=∀b,H b=none\/∃o xs,H b=some (.frz o (.lst xs))
theorem qQ{P:Program}{w:World}{K:WF}{mg mb:Str->Option Value}{CX:CXT}{k:Nat}{fa a:Addr}{fd:FuncData}{x:Str}{sp:Sp}{s₁:Shared}{vs:List Value}{ns:List Int}
  (KX:K.In s₁.heap) (hns:s₁.heap.Ns mainGlobals mg) (hb:s₁.heap.Ns builtinsNs mb) (hbb:∀x:Str,x≠"__name__"->mb x=bootBuiltins x) (hlim:s₁.heap.NoLimit) (hg:s₁.gens=#[])
  (ha:s₁.heap.get? a=some { cls:=.type "list",data:=.seq vs.toArray }) (hi:IntsAre vs ns) (hl:ns.length≤sizeLine) (hr:Room k callerA)
  (F:∀base:Heap,K.In base->base.Ns mainGlobals mg->FnOk P w K mg base CX k fa fd [x] sp) (hbind:∀(s:Shared) (u:Value),BindsTo s fd ⟨[u],[]⟩ [(x,u)])
  (hsp:∀H:Hp,yD H->SqL K H a (ns.map V.int)->sp [.ref a] H (fun v _=>v=.bl true) fun _ _ _=>False)
  (hCX:∀H e s',CX [] H s₁ (fun _ _ _=>False) e s'->False) :
  codeAny (model P w) callerA (.call (.ref fa) ⟨[.ref a],[]⟩) (fun r s'=>r=.ok (.ret (.bool true))/\OldK s₁.heap s'.heap/\s'.os=s₁.os/\AllBare s'.gens) s₁:=by
 have rv:=vals_ints hi
 have lenV:=hi.length
 have core:∀H:Hp,yD H->SqL K H a (ns.map V.int)->HOk P w H s₁.heap->(∀b,H b≠none->b=a)->(H a≠none->K.lookup a=none) ->
   codeAny (model P w) callerA (.call (.ref fa) ⟨[.ref a],[]⟩) (fun r s'=>r=.ok (.ret (.bool true))/\OldK s₁.heap s'.heap/\s'.os=s₁.os/\AllBare s'.gens) s₁:=by
  intro H hO hS hok hA hK
  have base_of:∀{b:Addr} {o:Obj},s₁.heap.get? b=some o->H b=none->(jc s₁.heap H).get? b=some o:=fun e n=>hidT_get e n
  have noA:∀{b:Addr} {o:Obj} {es:Array DictEntry} {ep:Nat},s₁.heap.get? b=some o->o.data=.dict es ep->H b=none:=fun {b o es ep} e d=>by
   cases q:H b with
   | none=>rfl
   | some u =>
    have e':b=a:=hA b (by rw[q];simp)
    subst e'
    rw[ha]at e;cases e
    have d':Data.seq vs.toArray _=Data.dict es ep:=d
    cases d'
  have nsK:∀{b:Addr} {m:Str->Option Value},s₁.heap.Ns b m->(jc s₁.heap H).Ns b m:=fun {b m} ⟨o,es,ep,e,d,r⟩=>⟨o,es,ep,base_of e (noA e d),d,r⟩
  have hKb:K.In (jc s₁.heap H):=fun b o e=>base_of (KX b o e) (by
   cases q:H b with
   | none=>rfl
   | some u =>
    have e':b=a:=hA b (by rw[q];simp)
    subst e'
    rw[hK (by rw[q];simp)]at e;cases e)
  have hM:Mod K mg (jc s₁.heap H):=⟨hKb,nsK hns,⟨mb,nsK hb,hbb⟩,let ⟨mc,h1,h2⟩:=hlim;⟨mc,nsK h1,h2⟩⟩
  have e0:Env0 P w K mg (jc s₁.heap H) callerA [] s₁ H:=⟨rfl,hM,fun b o e=>ur e,Nat.le_of_eq (oT _ _),trivial,fun b hb=>absurd (show b∈([]:List Addr) from hb) (by simp),hok,.of_eq hg⟩
  refine codeAny_mono ((F _ hKb (nsK hns)).run callerA [] s₁ H ⟨[.ref a],[]⟩ [.ref a] [.ref a] _ _ hr e0 (hbind s₁ (.ref a)) (.cons rfl .nil) (hsp H hO hS)) fun r s' h=>?_
  cases r with
  | error e=>exact (hCX H e s' h).elim
  | ok fl =>
   cases fl with
   | next=>exact False.elim h
   | brk=>exact False.elim h
   | cont=>exact False.elim h
   | ret u =>
    obtain⟨v,H',os,bare,un,hok',r',q⟩:=h
    have q':v=.bl true:=q
    subst q'
    obtain rfl:u=Value.bool true:=r'
    refine⟨rfl,OldK.of_keep fun b o e=>?_,os,bare⟩
    cases q:H b with
    | none=>exact un.keep b o e q (by intro z;exact absurd (show b∈([]:List Addr) from z) (by simp)) (by simp)
    | some u =>
     rcases hO b with z | ⟨ob,xs,z⟩
     ·rw[q]at z;cases z
     ·have z2:=un.frzs b ob _ z
      obtain⟨e1,_⟩:=hok b _ z
      obtain⟨e2,_⟩:=hok' b _ z2
      rw[e]at e1;cases e1
      exact e2
 cases hk:K.lookup a with
 | some o =>
  have e:=KX a o hk
  rw[ha]at e
  cases e
  refine core (fun _=>none) (fun _=>.inl rfl) (.inr ⟨_,vs.toArray,_,hk,rfl,rfl,rfl,by rw[aaw,lenV];exact hl,by simpa using rv⟩) (fun b u z=>by have z':(none:Option HO)=some u:=z;cases z') (fun b z=>absurd rfl z) fun z=>absurd rfl z
 | none =>
  refine core (fun b=>if b=a then some (.frz { cls:=.type "list",data:=.seq vs.toArray } (.lst (ns.map V.int))) else none) (fun b=>?_) (.inl (.inr ⟨{ cls:=.type "list",data:=.seq vs.toArray },if_pos rfl⟩)) (fun b u z=>?_) (fun b z=>?_) fun _=>hk
  ·by_cases hb:b=a
   ·exact .inr ⟨_,_,if_pos hb⟩
   ·exact .inl (if_neg hb)
  ·by_cases hb:b=a
   ·have z':=(if_pos hb).symm.trans z
    cases z'
    subst hb
    exact⟨ha,by rw[aaa];exact hl,vs,_,rv,ha⟩
   ·have z':=(if_neg hb).symm.trans z
    cases z'
  ·by_cases hb:b=a
   ·exact hb
   ·exact absurd (if_neg hb) z
end
section
theorem walk_of{l:PySem.W.OpenLaw}{n k:Nat}{q:Program}{loose:List Str}{XP:(Str->Option Value)->Heap->Prop}{YP:World->Heap->Prop}{d:DefRec}{K:Params->WF}{CX:World->CXT}{sp:World->Sp}{x:Str}
  (hn:l.most=some n) (hn2:n≤sizeLine) (hdf:d.params.defaults=[]) (hr:Room k callerA)
  (hY:∀(w:World) (h:Heap),YP w h->(K w.params).In h)
  (F:∀(w:World) (mg:Str->Option Value) (fa:Addr) (h:Heap),(K w.params).In h->h.Ns mainGlobals mg->mg d.name=some (.ref fa) ->
   ∃fd:FuncData,(∀(s:Shared) (u:Value),BindsTo s fd ⟨[u],[]⟩ [(x,u)]) /\
    ∀base:Heap,(K w.params).In base->base.Ns mainGlobals mg->FnOk l.prog w (K w.params) mg base (CX w) k fa fd [x] (sp w))
  (hsp:∀(w:World) (H:Hp) (a:Addr) (ns:List Int),ns.length≤n->yD H->SqL (K w.params) H a (ns.map V.int)->sp w [.ref a] H (fun v _=>v=.bl true) fun _ _ _=>False)
  (hCX:∀(w:World) (H:Hp) (s:Shared) (e:Value) (s':Shared),CX w [] H s (fun _ _ _=>False) e s'->False) :
  PySem.W.WalkO q loose XP YP l.row.toRowW d [] (fun f vs=>PySem.call f vs):=by
 refine Att.attach_call hn hdf fun w s₀ s₁ mg mb fa o pm cd doc a vs ns G Y ho hd hcd hmg hobj hints hlen hg=>?_
 have KX:=hY w _ Y
 obtain⟨fd,hb,hF⟩:=F w mg fa _ KX G.T.g hmg
 exact qQ KX G.T.g G.T.b G.T.builtins G.T.nolimit hg hobj hints (aan hlen hn2) hr hF hb (fun H hO hS=>hsp w H a ns hlen hO hS) fun H e s'=>hCX w H s₁ e s'
end
section
def dN(s:Stmt):Arguments:=match s with
 | .FunctionDef _ a _ _ _ _ _ _ _ _=>a
 | _=>{ posonlyargs:=[],args:=[],vararg:=none,kwonlyargs:=[],kw_defaults:=[],kwarg:=none,defaults:=[] }
def bO(s:Stmt):List Stmt:=match s with
 | .FunctionDef _ _ b _ _ _ _ _ _ _=>b
 | _=>[]
def aH(s:Stmt):Scope:=match s with
 | .FunctionDef _ _ _ _ _ _ sc _ _ _=>sc
 | _=>{ kind:=.function,names:=[],isGenerator:=false,isCoroutine:=false }
abbrev CX0:CXT:=fun _ _ _ _ _ _=>False
abbrev E0:XK:=fun _ _ _=>False
theorem kj{X:Cx}:Passes CX0 X E0:=fun _ _ _ _ _ _ _ h=>h.elim
structure Fun (K:WF)(x qual:Str)(st:Stmt)(f:Addr)(fd:FuncData):Prop where
 ex:∃(oc:Value) (od:Option Addr) (kV doc pm:Value) (an:Option Addr) (cdv ct:Value) (osl:Array (Option Value)),
  fd=PySem.W.fnOf x qual (dN st) (bO st) (aH st) .none kV doc pm an cdv ct/\K.lookup f=some ⟨oc,od,.func fd,osl⟩/\PySem.W.codeIn K cdv qual=true
 kp:PySem.W.keepIn K (.ref f)=true
section
variable{P:Program}{w:World}{K:WF}{mg:Str->Option Value}{base:Heap}
theorem Fun.ok{x qual:Str}{st:Stmt}{f:Addr}{fd:FuncData}{N ps:List Str}{k:Nat}{sp:Sp}(F:Fun K x qual st f fd)(S:FnScope N ps (aH st))(len:∀vs H Q E,sp vs H Q E->vs.length=ps.length)
  (hbody:∀(cdv:Value) (A:Around) (outer:List Env) (s:Shared) (H:Hp) (vs:List V) (Q:VK) (E:XK),Room k (A.deeper (envOfC qual (aH st) s.heap.objs.size f cdv))->sp vs H Q E ->
   ∃t,PSs (ji CX0 P w K mg base N qual (aH st) f cdv A outer s H E).nox (bO st) t/\t { nx:=fun _ H'=>Q .non H',rt:=Q } (start N vs) H):FnOk P w K mg base CX0 (k + 1) f fd ps sp:=by
 obtain⟨oc,od,kV,doc,pm,an,cdv,ct,osl,rfl,lk,hcd⟩:=F.ex
 refine AR lk hcd S len fun A outer s H vs Q E hr hsp=>?_
 obtain⟨t,h,q⟩:=hbody cdv A outer s H vs Q E hr hsp
 exact⟨t,h.nox,q⟩
theorem jn{x qual:Str}{st:Stmt}{f:Addr}{oc:Value}{od an:Option Addr}{osl:Array (Option Value)}{kV doc pm cdv ct:Value}(l:K.lookup f=some ⟨oc,od,.func (PySem.W.fnOf x qual (dN st) (bO st) (aH st) .none kV doc pm an cdv ct),osl⟩)
  (c:PySem.W.codeIn K cdv qual=true) (k:PySem.W.keepIn K (.ref f)=true):Fun K x qual st f (PySem.W.fnOf x qual (dN st) (bO st) (aH st) .none kV doc pm an cdv ct):=⟨⟨oc,od,kV,doc,pm,an,cdv,ct,osl,rfl,l,c⟩,k⟩
end
def Same(H H':Hp):Prop:=∀b o,H b=some o->H' b=some o
theorem Same.seq{K:WF}{H H':Hp}{a:Addr}{xs:List V}(e:Same H H')(h:SqL K H a xs):SqL K H' a xs:=by
 rcases h with (h | ⟨o,h⟩) | h
 ·exact .inl (.inl (e _ _ h))
 ·exact .inl (.inr ⟨o,e _ _ h⟩)
 ·exact .inr h
end
section
theorem lO:∀(names:List (Str × NameKind)) (acc:List (Str × Addr)),(∀x∈names,x.2=.free->∃c,env.cells.lookup x.1=some c) ->
  (∀x c,acc.lookup x=some c->env.cells.lookup x=some c) ->
  ∃cl:List (Str × Addr),forIn names acc (fun (x:Str × NameKind) (r:List (Str × Addr))=>match x with
    | (name,kind)=>(if kind == NameKind.free then do let c <- cellOf env name;pure (ForInStep.yield ((name,c)::r)) else pure (ForInStep.yield r):Sem (ForInStep (List (Str × Addr)))))=pure cl /\
   (∀x c,cl.lookup x=some c->env.cells.lookup x=some c)/\(∀x∈names,x.2=.free->∃c,cl.lookup x.1=some c)/\(∀x c,acc.lookup x=some c->∃c',cl.lookup x=some c'):=by
 intro names
 induction names with
 | nil=>intro acc _ h2;exact⟨acc,rfl,h2,fun _ h=>(nomatch h),fun x c h=>⟨c,h⟩⟩
 | cons p r ih =>
  intro acc h1 h2
  obtain⟨n,k⟩:=p
  rw[abL]
  have hr:∀x∈r,x.2=.free->∃c,env.cells.lookup x.1=some c:=fun x hx=>h1 x (aag _ hx)
  by_cases hk:k=.free
  ·subst hk
   obtain⟨c,hc⟩:=h1 (n,.free) aaj rfl
   have hce:cellOf env n=pure c:=by unfold cellOf;rw[show env.cells.lookup n=some c from hc]
   have h2':∀x c',((n,c)::acc).lookup x=some c'->env.cells.lookup x=some c':=fun x c' h=>by
    rw[aaR]at h
    cases hx:x == n with
    | true=>rw[hx]at h;cases h;rw[eq_of_beq hx];exact hc
    | false=>rw[hx]at h;exact h2 x c' h
   obtain⟨cl,e,a,b,d⟩:=ih ((n,c)::acc) hr h2'
   refine⟨cl,?_,a,fun x hx hf=>?_,fun x c' h=>?_⟩
   ·show ((cellOf env n >>= fun c=>pure (ForInStep.yield ((n,c)::acc))) >>= _)=_
    rw[hce]
    exact e
   ·rcases aac.mp hx with rfl | hx
    ·exact d n c (by simp[aaR])
    ·exact b x hx hf
   ·cases hx:x == n with
    | true=>exact d x c (by rw[aaR,hx])
    | false=>exact d x c' (by rw[aaR,hx];exact h)
  ·have hb:(k == NameKind.free)=false:=by simpa using hk
   obtain⟨cl,e,a,b,d⟩:=ih acc hr h2
   refine⟨cl,?_,a,fun x hx hf=>?_,d⟩
   ·show ((if (k == NameKind.free)=true then _ else _) >>= _)=_
    rw[hb]
    exact e
   ·rcases aac.mp hx with rfl | hx
    ·exact absurd hf hk
    ·exact b x hx hf
theorem gI(h:∀x∈scope.names,x.2=.free->∃c,env.cells.lookup x.1=some c) :
  ∃cl:List (Str × Addr),closureFor scope env=pure cl/\(∀x c,cl.lookup x=some c->env.cells.lookup x=some c)/\(∀x∈scope.names,x.2=.free->∃c,cl.lookup x.1=some c):=by
 obtain⟨cl,e,a,b,_⟩:=lO scope.names [] h (fun _ _ h=>nomatch h)
 refine⟨cl,?_,a,b⟩
 have q:closureFor scope env=(forIn scope.names ([]:List (Str × Addr)) (fun (x:Str × NameKind) (r:List (Str × Addr))=>match x with
    | (name,kind)=>(if kind == NameKind.free then do let c <- cellOf env name;pure (ForInStep.yield ((name,c)::r)) else pure (ForInStep.yield r):Sem (ForInStep (List (Str × Addr))))) >>= fun r=>pure r):=rfl
 rw[q,e]
 rfl
def aS(X:Cx)(N:List Str)(scope:Scope)(cl:List (Str × Addr))(s:Shared)(H:Hp)(fp:List Addr)(pins:List (Addr × Obj)):Cx where
 prog:=X.prog
 w:=X.w
 K:=X.K
 mg:=X.mg
 base:=X.base
 A:=X.A
 N:=N
 s₀:=s
 H₀:=H
 env:=compEnvC scope cl s.heap.objs.size X.env
 outer:=X.stack
 stack:=X.stack
 ex:=fp
 fn:=fun _=>false
 calm:=X.calm
 pn:=X.pn++pins
 xe:=fun _ _=>False
structure CC where
 cl:List (Str × Addr)
 s:Shared
 H:Hp
 fp:List Addr
 pins:List (Addr × Obj)
abbrev eG(X:Cx)(N:List Str)(scope:Scope)(c:CC):Cx:=aS X N scope c.cl c.s c.H c.fp c.pins
def bt(nt:Nat)(fr:List Nat)(σ:St):St:=List.replicate nt none++fr.map fun j=>(σ[j]?).join
structure CompScope (N:List Str)(nt:Nat)(fr:List Nat)(ON:List Str)(sc osc:Scope):Prop where
 kind:sc.kind=.function
 nocell:∀x∈sc.names,x.2≠.cell
 names:∀x∈sc.names,x.2=.local->sc.names.lookup x.1=some .local
 len:N.length=nt + fr.length
 out:∀(i:Nat) (j:Nat),fr[i]?=some j->∃x,N[nt + i]?=some x/\ON[j]?=some x/\osc.names.lookup x=some .cell/\sc.names.lookup x=some .free
 cells:∀x∈sc.names,x.2=.free->osc.names.lookup x.1=some .cell
 looks:∀x∈sc.names,x.2=.free->sc.names.lookup x.1=some .free
theorem bP{sc:Scope}{env:Env}:∀(names:List (Str × NameKind)) (x:Str) (k:NameKind),
  (names.map fun (n,k)=>if (k == NameKind.free && env.scope.kind == .function && env.kindOf n == some .cell) then (n,NameKind.cell) else (n,k)).lookup x=some k ->
  names.lookup x=some k\/(k=.cell/\names.lookup x=some .free)
 | [],_,_,h=>by simp at h
 | (n,k0)::r,x,k,h=>by
  have ih:=bP (sc:=sc) (env:=env) r x k
  rw[aal]at h
  have h':List.lookup x ((if (k0 == NameKind.free && env.scope.kind == .function && env.kindOf n == some .cell)=true then (n,NameKind.cell) else (n,k0))::(r.map fun (n,k)=>if (k == NameKind.free && env.scope.kind == .function && env.kindOf n == some .cell) then (n,NameKind.cell) else (n,k)))=some k:=h
  by_cases hc:(k0 == NameKind.free && env.scope.kind == .function && env.kindOf n == some .cell)=true
  ·rw[if_pos hc,aaR]at h'
   rw[aaR]
   cases hx:x == n with
   | true =>
    rw[hx]at h'
    cases h'
    rw[aaB,aaB]at hc
    have:k0=.free:=by simpa using hc.1.1
    subst this
    exact .inr ⟨rfl,rfl⟩
   | false=>rw[hx]at h';exact ih h'
  ·rw[if_neg hc,aaR]at h'
   rw[aaR]
   cases hx:x == n with
   | true=>rw[hx]at h';exact .inl h'
   | false=>rw[hx]at h';exact ih h'
theorem pv(I:Nat->Shared->Prop)
  (turn:∀n s,I n s->wpAny (model prog w) A (pyNext it) (fun r s₁=>match r with
   | none=>R (.ok .next) s₁
   | some v=>wpAny (model prog w) A (letOwnedTupleGo target it v) (fun _ s₂=>wpAny (model prog w) A (assign target env v) (fun _ s₂ =>
     wpAny (model prog w) A (forIn ifs true fun c r=>if r=true then do let ok <- isTrue c env (eval c env);pure (ForInStep.yield ok) else pure (ForInStep.yield r)) (fun ok s₃ =>
      if ok=true then wpAny (model prog w) A (eval elt env) (fun x s₄ =>
       wpAny (model prog w) A (call (.builtin "list.append") [acc,x]) (fun _ s₅=>∃m,m < n/\I m s₅) (fun _ _=>False) s₄) (fun _ _=>False) s₃
      else ∃m,m < n/\I m s₃) (fun _ _=>False) s₂) (fun _ _=>False) s₂) (fun _ _=>False) s₁) (fun _ _=>False) s)
  (n:Nat) (h:I n s) :
  codeAny (model prog w) A (.compLoop (.ListComp elt [⟨target,iter,ifs,0⟩] scope pos) 0 it acc env) R s:=by
 refine codeAny_loop rfl I (fun n s hI=>?_) n h
 show wpAny _ A ((compTurn (.ListComp elt [⟨target,iter,ifs,0⟩] scope pos) 0 it acc env).onRaise (fun x=>do noteFrame x env;theTreesLotGoes x)) _ _ s
 refine wpAny_noted ?_
 rw[compTurn_list]
 refine wpAny_bind (wpAny_standAt (wpAny_bind (wpAny_mono (turn n s hI) (fun r s₁ h₁=>?_) fun _ _ h'=>h'.elim)))
 cases r with
 | none=>exact wpAny_pure h₁
 | some v =>
  refine wpAny_bind (wpAny_mono h₁ (fun _ s₂ h₁=>?_) fun _ _ h'=>h'.elim)
  refine wpAny_bind (wpAny_mono h₁ (fun _ s₂ h₂=>wpAny_bind (wpAny_mono h₂ (fun ok s₃ h₃=>?_) fun _ _ h'=>h'.elim)) fun _ _ h'=>h'.elim)
  cases ok with
  | false=>exact wpAny_pure ⟨rfl,h₃⟩
  | true =>
   exact wpAny_bind (wpAny_bind (wpAny_mono h₃ (fun x s₄ h₄=>wpAny_bind (wpAny_mono h₄ (fun _ s₅ h₅=>wpAny_pure (wpAny_pure ⟨rfl,h₅⟩)) fun _ _ h'=>h'.elim)) fun _ _ h'=>h'.elim))
section
variable{X:Cx}{tg elt iter:Expr}{ifs:List Expr}{scope:Scope}{pos:Pos}{N:List Str}{nt:Nat}{fr:List Nat}
theorem gJ(S:CompScope N nt fr X.N scope X.env.scope)(I:Inv X pins σ H s)
  (hf:∀b∈fp,FpOk X pins H b) (hlt:∀b∈fp,b < s.heap.objs.size)
  (hcl:∀x c,cl.lookup x=some c->X.env.cells.lookup x=some c) (hcf:∀x∈scope.names,x.2=.free->∃c,cl.lookup x.1=some c)
  (hk:∀b o,s.heap.get? b=some o->s4.heap.get? b=some o) (hn:∃m,s4.heap.Ns s.heap.objs.size m) (ho:s4.os=s.os) (hg:s4.gens=s.gens) :
  Inv (aS X N scope cl s H fp pins) [] (bt nt fr σ) H s4:=by
 have hC:H s.heap.objs.size=none:=I.hok.fresh (aaf _)
 have neC:∀b o,s.heap.get? b=some o->b≠s.heap.objs.size:=fun b o e=>aao (Heap.lt_size e)
 have kd:(aS X N scope cl s H fp pins).env.scope.kind=.function:=S.kind
 have lk:∀x,scope.names.lookup x=some .free->∃c,cl.lookup x=some c:=fun x h=>hcf (x,.free) (aa1 h) rfl
 refine⟨⟨I.ok.mod,kd,I.ok.glob,I.ok.blt,aaf _,fun x y c h1 h2=>I.ok.inj x y c (hcl x c h1) (hcl y c h2),fun x hx=>?_,fun _ _ h _=>absurd (show false=true from h) aae,I.ok.hd,I.ok.frames,.inl rfl,fun b hb=>⟨aao (hlt b hb),fun x c e=>(hf b hb).2.2.2.2.1 x c (hcl x c e)⟩,
  I.bs,aan I.ok.bsz I.sz,fun b o e hb=>?_,fun b hb hs=>?_,I.stack,I.stkFree⟩,ho,by rw[hg];exact I.bare,Un.kept hk,?_,fun x c e=>?_,hC,fun x c e=>I.freeC x c (hcl x c e),fun p hp=>?_,I.hok.kept hk,?_⟩
 ·have hx':(relabel scope X.env).names.lookup x=some .cell\/(relabel scope X.env).names.lookup x=some .free:=hx
  rcases hx' with h | h
  ·rcases bP (sc:=scope) scope.names x _ h with q | ⟨_,q⟩
   ·exact absurd rfl (S.nocell _ (aa1 q))
   ·exact lk x q
  ·rcases bP (sc:=scope) scope.names x _ h with q | ⟨q,_⟩
   ·exact lk x q
   ·cases q
 ·rcases (hf b hb).2.2.2.1 with z | z
  ·exact I.ok.noex b o e z
  ·exact absurd (aay (Heap.lt_size e) (aan I.ok.bsz z)) (aaV _)
 ·rcases aac.mp (I.stkSub b hs) with z | z
  ·exact (hf b hb).2.1 z
  ·exact (hf b hb).2.2.1 z
 ·obtain⟨m,hm⟩:=hn
  refine⟨m,hm,fun i x v h1 h2 h3=>?_⟩
  obtain⟨m0,hn0,hl0⟩:=I.loc
  have hi:nt≤i:=by
   refine Nat.le_of_not_lt fun hlt=>?_
   unfold bt at h2
   rw[abc (by simpa using hlt),ab8]at h2
   rw[if_pos hlt]at h2
   cases h2
  obtain⟨d,rfl⟩:∃d,i=nt + d:=⟨i - nt,by omega⟩
  unfold bt at h2
  rw[abo (by simp),abq,ab9,aau]at h2
  cases ej:fr[d]? with
  | none=>rw[ej]at h2;cases h2
  | some j =>
   rw[ej]at h2
   have h2':(σ[j]?).join=some v:=aaA h2
   have hσ:σ[j]?=some (some v):=by
    cases e:σ[j]? with
    | none=>rw[e]at h2';cases h2'
    | some q=>rw[e]at h2';exact congrArg some h2'
   obtain⟨y,e1,e2,e3,e4⟩:=S.out d j ej
   have e1':N[nt + d]?=some x:=h1
   rw[e1]at e1';cases e1'
   obtain⟨u,ru,l⟩:=hl0 j x v e2 hσ (.inr (.inl e3))
   refine⟨u,ru,?_⟩
   rcases l with ⟨q,_⟩ | ⟨_,c,ec,z⟩
   ·have q':X.env.scope.names.lookup x=some .local:=q
    rw[e3]at q';cases q'
   ·obtain⟨c',hc'⟩:=lk x e4
    have:c'=c:=by have:=hcl x c' hc';rw[ec]at this;exact (aaA this).symm
    subst this
    obtain⟨o,ho',hd⟩:=z
    refine .inr ⟨?_,c',hc',⟨o,hk _ _ ho',hd⟩⟩
    rcases h3 with q | q | q
    ·have q':(relabel scope X.env).names.lookup x=some .local:=q
     rcases bP (sc:=scope) scope.names x _ q' with z | ⟨z,_⟩
     ·rw[e4]at z;cases z
     ·cases z
    ·exact .inl q
    ·exact .inr q
 ·obtain⟨v,o,ho',hd⟩:=I.cell x c (hcl x c e)
  exact⟨v,o,hk _ _ ho',hd⟩
 ·have hp':p∈X.pn++pins:=by
   rcases aai.mp hp with z | z
   ·exact z
   ·exact absurd z (by simp)
  obtain⟨e,n,ne,nf,d⟩:=I.pin p hp'
  refine⟨hk _ _ e,n,neC _ _ e,fun z=>?_,d⟩
  rcases aac.mp (I.stkSub p.1 z) with q | q
  ·exact ne q
  ·exact nf q
 ·show (bt nt fr σ).length=N.length
  unfold bt
  rw[aam,abq,aaa,S.len]
theorem qR(I:Inv X pins σ H s)(hf:∀b∈fp,FpOk X pins H b)
  (hD:H D=none) (hDs:s.heap.objs.size≤D) (hDC:D < s3.heap.objs.size) (hk:∀b o,s.heap.get? b=some o->s3.heap.get? b=some o) (hos:s3.os=s.os)
  (J:Inv (aS X N scope cl s3 (upd H D (.lst [])) fp pins) pins' σ' H1 s5) (hs:Heap.SameBut s3.heap.objs.size s5.heap h') :
  Inv X pins σ H1 { s5 with heap:=h' }:=by
 have hsz:s.heap.objs.size≤s3.heap.objs.size:=aaQ (Nat.lt_of_le_of_lt hDs hDC)
 have up3:∀b,b < s.heap.objs.size->b≠D/\b≠s3.heap.objs.size:=fun b hb=>⟨aao (aay hb hDs),aao (aay hb hsz)⟩
 have H3:∀b,b≠D->(upd H D (.lst [])) b=H b:=fun b hb=>upd_ne hb
 refine I.call' (ch:=fp) (J.os.trans hos) ⟨fun b o e n hb hx=>?_,fun b o e n hb hx=>?_,fun b o e n hx=>?_,fun b o e hx=>?_,fun b xs e=>?_,fun b o u e=>?_,fun b ps e=>?_⟩ ?_ J.bare fun b hb=>?_
 ·obtain⟨n1,n2⟩:=up3 b (Heap.lt_size e)
  exact (hs.2 b n2).trans (J.base.keep b o (hk b o e) ((H3 b n1).trans n) hb hx)
 ·obtain⟨n1,n2⟩:=up3 b (Heap.lt_size e)
  obtain⟨sl,q⟩:=J.base.slot b o (hk b o e) ((H3 b n1).trans n) hb hx
  exact⟨sl,(hs.2 b n2).trans q⟩
 ·obtain⟨n1,n2⟩:=up3 b (Heap.lt_size e)
  exact J.base.free b o (hk b o e) ((H3 b n1).trans n) hx
 ·obtain⟨n1,n2⟩:=up3 b (Heap.lt_size e)
  obtain⟨o',q⟩:=J.base.there b o (hk b o e) hx
  exact⟨o',(hs.2 b n2).trans q⟩
 ·exact J.base.tups b xs ((H3 b (ai e hD)).trans e)
 ·exact J.base.frzs b o u ((H3 b (ai e hD)).trans e)
 ·exact J.base.tbls b ps ((H3 b (ai e hD)).trans e)
 ·intro b u e
  refine (J.hok b u e).stay (fun c v hc q=>(hs.2 c ?_).trans q) (fun _ q=>q) fun _ _ q=>q
  have hfree:H1 s3.heap.objs.size=none:=J.free
  rintro rfl
  rcases hc with z | z
  ·rw[z]at hfree;rw[hfree]at e;cases e
  ·rw[hfree]at z;cases z
 ·obtain⟨f0,f1,f2,f3,f4,f5⟩:=hf b hb
  exact⟨f3,f1,f4,f5⟩
abbrev TC:=Addr->St->Hp->(Hp->Prop)->Prop
def m3(te:TE):TC:=fun D σ H Q=>te σ H fun y H1=>∃ys,H1 D=some (.lst ys)/\ys.length < sizeLine/\Q (upd H1 D (.lst (ys++[y])))
def AW(tt:TT)(te:TE):TC:=fun D σ H Q=>tt σ H fun b H1=>if b=true then m3 te D σ H1 Q else Q H1
def kl(wi:TI)(nt:Nat)(fr:List Nat)(g:CC->TG)(tc:CC->TC):TE:=fun σ H Q=>wi σ H fun J H1=>∀(c:CC) D,H1 D=none->∃W:Nat->Nat->St->Hp->Prop,(∃m,W 0 m (bt nt fr σ) (upd H1 D (.lst []))) /\
 ∀i m σ' H',W i m σ' H'->(J.stop i H'/\Q (.ref D) H')\/(J.go i H'/\∀x H2,J.yld i H' x H2->g c x σ' H2 fun σ3 H3=>tc c D σ3 H3 fun H4=>∃m',m' < m/\W (i + 1) m' σ3 H4)
def km(Y:Cx)(D:Addr)(ifs:List Expr)(elt:Expr)(tc:TC):Prop :=
 ∀(pins:List (Addr × Obj)) (s:Shared) (σ:St) (H:Hp) (Q:Hp->Prop),Inv Y pins σ H s->tc D σ H Q ->
  wpAny (model Y.prog Y.w) Y.A (forIn ifs true fun c r=>if r=true then do let ok <- isTrue c Y.env (eval c Y.env);pure (ForInStep.yield ok) else pure (ForInStep.yield r)) (fun ok s₃ =>
   if ok=true then wpAny (model Y.prog Y.w) Y.A (eval elt Y.env) (fun x s₄ =>
    wpAny (model Y.prog Y.w) Y.A (call (.builtin "list.append") [.ref D,x]) (fun _ s₅=>∃H',Inv Y pins σ H' s₅/\Q H') Y.xe s₄) Y.xe s₃
   else ∃H',Inv Y pins σ H' s₃/\Q H') Y.xe s
theorem m4(he:PE Y elt te)(I:Inv Y pins σ H s)(h:m3 te D σ H Q) :
  wpAny (model Y.prog Y.w) Y.A (eval elt Y.env) (fun x s₄ =>
    wpAny (model Y.prog Y.w) Y.A (call (.builtin "list.append") [.ref D,x]) (fun _ s₅=>∃H',Inv Y pins σ H' s₅/\Q H') Y.xe s₄) Y.xe s:=by
 refine thn (he pins s σ H _ I h) fun u s1 hZ=>?_
 obtain⟨y,H1,I1,r1,ys,hD,hz,q⟩:=hZ
 refine thn (dM pins s1 σ H1 (.ref D) [y] (.ref D) [u] (fun v H'=>v=.non/\Q H') I1 rfl (.cons r1 .nil) ⟨D,ys,y,rfl,rfl,hD,hz,rfl,q⟩) fun v s2 ⟨z,H2,I2,_,_,q2⟩=>⟨H2,I2,q2⟩
theorem pw(he:PE Y elt te):km Y D [] elt (m3 te):=by
 intro pins s σ H Q I h
 refine wpAny_tests_nil ?_
 rw[if_pos rfl]
 exact m4 he I h
theorem qS(hc:PT Y c tt)(he:PE Y elt te):km Y D [c] elt (AW tt te):=by
 intro pins s σ H Q I h
 refine wpAny_tests_one (thn (hc pins s σ H _ I h) fun b s1 hZ=>?_)
 obtain⟨H1,I1,q1⟩:=hZ
 cases b with
 | true =>
  rw[if_pos rfl]at q1 ⊢
  exact m4 he I1 q1
 | false =>
  rw[if_neg aae]at q1 ⊢
  exact⟨H1,I1,q1⟩
theorem iP{use:Option (Value->Sem Unit)}{Q0:Value->Shared->Prop}(hc:X.calm=true)(S:CompScope N nt fr X.N scope X.env.scope)(hi:PI X tg iter wi)
  (hg:∀c:CC,PG (eG X N scope c) tg (g c)) (ha:∀(c:CC) D,km (eG X N scope c) D ifs elt (tc c))
  (I:Inv X pins σ H s) (h:kl wi nt fr g tc σ H Q) (hfr:∀x∈scope.names,x.2=.free->X.env.kindOf x.1=some .cell)
  (fin:∀(D C:Addr) (s5:Shared) (H1:Hp),FpOk X pins H1 C->s5.heap.get? C≠none->C≠X.env.locals->(∃m,s5.heap.Ns C m)->(∀h',Heap.SameBut C s5.heap h'->Inv X pins σ H1 { s5 with heap:=h' })->Q (.ref D) H1 ->
   compPost (model X.prog X.w) X.A X.xe use Q0 (.ref D) C (.ok .next) s5)
  (hs:∀x,foldedSetIterable iter X.env x=pure x:=by intro _;rfl) :
  wpAny (model X.prog X.w) X.A (comprehension (.ListComp elt [⟨tg,iter,ifs,0⟩] scope pos) scope X.env (firstIterPos [⟨tg,iter,ifs,0⟩] pos) (newList []) false (eval iter X.env) use) Q0 X.xe s:=by
 have hcells:∀x∈scope.names,x.2=.free->∃c,X.env.cells.lookup x.1=some c:=fun x hx hf=>I.ok.has x.1 (.inl (hfr x hx hf))
 obtain⟨cl,hcl,h1,h2⟩:=gI hcells
 refine wpAny_comprehension_free rfl hs hcl S.kind S.names (thn (hi pins s σ H _ I h) fun xv s1 hx=>thn hx fun itv s2 hpe=>?_)
 obtain⟨it,fp,tn,J,H2,rfl,I2,T,st2,f2,hW⟩:=hpe
 have hlt:∀b∈fp,b < s2.heap.objs.size:=fun b hb=>let ⟨o,e,_⟩:=T.obj 0 _ st2 b hb;Heap.lt_size e
 refine wpAny_newObj_type (wpAny_newFunctionEnv S.nocell (by intro y hy;simp at hy) (fun h₁ hns₁ hsb₁=>?_) S.kind) (by show 0≤sizeLine;exact aaM _)
 have hD:H2 s2.heap.objs.size=none:=I2.hok.fresh (aaf _)
 have I3:Inv X pins σ (upd H2 s2.heap.objs.size (.lst [])) { s2 with heap:=s2.heap.push { cls:=.type "list",dict:=none,data:=.seq ([]:List Value).toArray } }:=I2.lnew .nil (aaM _)
 generalize hs3:({ s2 with heap:=s2.heap.push { cls:=.type "list",dict:=none,data:=.seq ([]:List Value).toArray } }:Shared)=s3 at hns₁ hsb₁ I3 ⊢
 obtain⟨W,⟨m0,w0⟩,turn⟩:=hW ⟨cl,s3,upd H2 s2.heap.objs.size (.lst []),fp,pins⟩ _ hD
 have k23:∀b o,s2.heap.get? b=some o->s3.heap.get? b=some o:=fun b o e=>by rw[<- hs3];exact Heap.get?_push_of_some _ e
 have z3:s3.heap.objs.size=s2.heap.objs.size + 1:=by rw[<- hs3];exact Heap.size_push ..
 have os3:s3.os=s2.os:=by rw[<- hs3]
 have f3:∀b∈fp,FpOk X pins (upd H2 s2.heap.objs.size (.lst [])) b:=fun b hb=>⟨by rw[upd_ne (aao (hlt b hb))];exact (f2 b hb).1,(f2 b hb).2⟩
 have k34:∀b o,s3.heap.get? b=some o->h₁.get? b=some o:=fun b o e=>hsb₁.extBut b o (aao (Heap.lt_size e)) (Heap.get?_push_of_some _ e)
 generalize hs4:({ s3 with heap:=h₁,toks:=s3.toks + ([]:List (Str × Value)).length }:Shared)=s4
 have e4h:s4.heap=h₁:=by rw[<- hs4]
 have I4:Inv (aS X N scope cl s3 (upd H2 s2.heap.objs.size (.lst [])) fp pins) [] (bt nt fr σ) (upd H2 s2.heap.objs.size (.lst [])) s4 :=
  gJ S I3 f3 (fun b hb=>by rw[z3];exact abd (hlt b hb)) h1 h2 (fun b o e=>by rw[e4h];exact k34 b o e) ⟨_,by rw[e4h];exact hns₁⟩ (by rw[<- hs4]) (by rw[<- hs4])
 have st4:tn 0 s4.heap:=T.keep 0 _ _ st2 fun b hb o e=>by rw[e4h];exact k34 b o (k23 b o e)
 have loop:codeAny (model X.prog X.w) X.A (.compLoop (.ListComp elt [⟨tg,iter,ifs,0⟩] scope pos) 0 (.ref it) (.ref s2.heap.objs.size) (compEnvC scope cl s3.heap.objs.size X.env))
   (compPost (model X.prog X.w) X.A X.xe use Q0 (.ref s2.heap.objs.size) s3.heap.objs.size) s4:=by
  have stat:∀{H':Hp},(∀b∈fp,H' b=none)->∀b∈fp,FpOk (aS X N scope cl s3 (upd H2 s2.heap.objs.size (.lst [])) fp pins) [] H' b:=fun {H'} hn b hb =>
   ⟨hn b hb,aao (show b < s3.heap.objs.size by rw[z3];exact abd (hlt b hb)),fun z=>I4.ok.exfs b hb z,.inl hb,fun x c e=>(f2 b hb).2.2.2.2.1 x c (h1 x c e),fun p hp=>(f2 b hb).2.2.2.2.2 p (by
    rcases aai.mp hp with z | z
    ·exact z
    ·exact absurd z (by simp))⟩
  refine pv (fun n s'=>∃i σ' H',Inv (aS X N scope cl s3 (upd H2 s2.heap.objs.size (.lst [])) fp pins) [] σ' H' s'/\tn i s'.heap/\(∀b∈fp,H' b=none)/\W i n σ' H') ?_ m0
   ⟨0,_,_,I4,st4,fun b hb=>(f3 b hb).1,w0⟩
  rintro n s5 ⟨i,σ5,H5,I5,st5,fr5,w5⟩
  rcases turn i n σ5 H5 w5 with ⟨stop,qn⟩ | ⟨go,step⟩
  ·refine thn (T.done (aS X N scope cl s3 (upd H2 s2.heap.objs.size (.lst [])) fp pins) rfl rfl rfl hc i [] s5 σ5 H5 (fun _ _=>False) I5 (stat fr5) st5 stop) fun r s6 hZ=>?_
   obtain⟨hr,I6⟩:=hZ
   subst hr
   obtain⟨m,hm,_⟩:=id I6.loc
   refine fin _ _ s6 H5 (I2.fpOk (by rw[z3];exact abn _) I6.free) ?_ ?_ ⟨m,hm⟩ (fun h' hs'=>qR I2 f2 hD (aaf _) (by rw[z3];exact aaZ _) k23 os3 I6 hs') qn
   ·obtain⟨o,_,_,ho,_⟩:=hm
    intro z
    have ho':s6.heap.get? s3.heap.objs.size=some o:=ho
    rw[z]at ho';cases ho'
   ·exact aaY (abu I2.lt (by rw[z3];exact aaZ _))
  ·refine thn (T.item (aS X N scope cl s3 (upd H2 s2.heap.objs.size (.lst [])) fp pins) rfl rfl rfl hc i [] s5 σ5 H5 (fun _ _=>False) I5 (stat fr5) st5 go) fun r s6 hZ=>?_
   obtain⟨u,hr,h6⟩:=hZ
   subst hr
   refine thn h6 fun _ s7 hZ=>?_
   obtain⟨x,H7,I7,r7,y7,st7,fr7⟩:=hZ
   have I7':=I7.pinned (stat fr7) (T.obj _ _ st7)
   refine thn (hg ⟨cl,s3,upd H2 s2.heap.objs.size (.lst []),fp,pins⟩ _ s7 σ5 H7 x u _ I7' r7 (step x H7 y7)) fun _ s8 hZ=>?_
   obtain⟨σ8,H8,I8,q8⟩:=hZ
   refine thn (ha ⟨cl,s3,upd H2 s2.heap.objs.size (.lst []),fp,pins⟩ _ _ s8 σ8 H8 _ I8 q8) fun ok s9 h9=>?_
   have again:∀{s7':Shared},(∃H',Inv (aS X N scope cl s3 (upd H2 s2.heap.objs.size (.lst [])) fp pins) ([]++pinsAt fp s7.heap) σ8 H' s7'/\∃m',m' < n/\W (i + 1) m' σ8 H') ->
     ∃m,m < n/\∃i σ' H',Inv (aS X N scope cl s3 (upd H2 s2.heap.objs.size (.lst [])) fp pins) [] σ' H' s7'/\tn i s7'.heap/\(∀b∈fp,H' b=none)/\W i m σ' H':=fun {s7'} ⟨H',I',m',hm,w'⟩=>by
    refine⟨m',hm,i + 1,σ8,H',I'.unpinned,T.keep _ _ _ st7 fun b hb o e=>(I'.pin (b,o) (aab _ (aab _ (br hb e)))).1,fun b hb=>?_,w'⟩
    obtain⟨o,e,d⟩:=T.obj _ _ st7 b hb
    exact (I'.pin (b,o) (aab _ (aab _ (br hb e)))).2.1
   cases ok with
   | true =>
    rw[if_pos rfl]at h9 ⊢
    exact thn h9 fun y s10 h10=>thn h10 fun _ s11 h11=>again h11
   | false =>
    rw[if_neg aae]at h9 ⊢
    exact again h9
 exact codeAny_compStart_list loop (T.self X.A 0 s4 _ _ st4 loop)
theorem m5(hc:X.calm=true)(S:CompScope N nt fr X.N scope X.env.scope)(hi:PI X tg iter wi)
  (hg:∀c:CC,PG (eG X N scope c) tg (g c)) (ha:∀(c:CC) D,km (eG X N scope c) D ifs elt (tc c))
  (hs:∀x,foldedSetIterable iter X.env x=pure x:=by intro _;rfl) :
  PE X (.ListComp elt [⟨tg,iter,ifs,0⟩] scope pos) (kl wi nt fr g tc):=by
 intro pins s σ H Q I h
 rw[eval_ListComp]
 refine iP hc S hi hg ha I h (fun x hx hf=>S.cells x hx hf) (fun D C s5 H1 _ _ _ hm hI q=>?_) hs
 obtain⟨m,hm⟩:=hm
 exact⟨m,hm,fun h' hs'=>⟨.ref D,H1,hI h' hs',rfl,q⟩⟩
theorem uM{py spos:Pos}(hN:X.N.Nodup)(hy:X.N[i]?=some y)(hl:X.env.scope.names.lookup y=some .local)(hc:X.calm=true)(S:CompScope N nt fr X.N scope X.env.scope)(hi:PI X tg iter wi)
  (hg:∀c:CC,PG (eG X N scope c) tg (g c)) (ha:∀(c:CC) D,km (eG X N scope c) D ifs elt (tc c))
  (hs:∀x,foldedSetIterable iter X.env x=pure x:=by intro _;rfl)
  (hsw:swapsWith (.ListComp elt [⟨tg,iter,ifs,0⟩] scope pos) (some (.Name y py)) spos.line X.env=pure true:=by rfl) :
  PS X (.Assign [.Name y py] (.ListComp elt [⟨tg,iter,ifs,0⟩] scope pos) spos) (qt (kl wi nt fr g tc) (kc i)):=by
 intro pins s σ H D I h
 rw[exec_Assign_Name_used _ _ _ _ hsw]
 refine wpAny_bind (wpAny_standAt (wpAny_bind ?_))
 show wpAny _ X.A (do let _ <- comprehension (.ListComp elt [⟨tg,iter,ifs,0⟩] scope pos) scope X.env _ (newList []) false (eval iter X.env) (some (assign (.Name y py) X.env))) _ _ s
 refine wpAny_bind (wpAny_mono (iP hc S hi hg ha I h (fun x hx hf=>S.cells x hx hf) (fun Dd C s5 H1 fp hC _ hm hI q=>?_) hs) (fun _ s' hq=>wpAny_pure (wpAny_pure hq)) fun _ _ e=>e)
 obtain⟨m,hm⟩:=hm
 have I5:Inv X pins σ H1 s5:=hI s5.heap ⟨rfl,fun _ _=>rfl⟩
 show wpAny _ X.A (assign (.Name y py) X.env (.ref Dd)) _ _ _
 refine wpAny_assign_Name (fG I5 hN hy (.inl hl) (v:=.ref Dd) rfl (fun s6 I6 hsb=>?_) (.inr hl))
 obtain⟨a,hs6,ha6⟩:=hsb
 have hCa:C≠a:=by
  rcases ha6 with e | e
  ·rw[e];exact fp.2.1
  ·exact fun z=>fp.2.2.2.2.1 _ _ e z.symm
 exact⟨m,hm.sameBut hs6 hCa,fun h' hs'=>⟨_,H1,I6.turned (fun b o hb e=>(hs'.2 b hb).trans e) fp.1 fp.2.1 fp.2.2.2.1 fp.2.2.2.2.1 fp.2.2.2.2.2,q⟩⟩
end
end
section
section
variable{prog:Program}{w:World}{A:Around}{E:Value->Shared->Prop}{s:Shared}
theorem eS{items}(hit:s.heap.IsTupleIter it t i)
  (ht:s.heap.IsTuple t items) (hx:items[i]?=some x)
  (hQ:∀h',h'.IsTupleIter it t (i + 1)->Heap.SameBut it s.heap h'->Q x { s with heap:=h' }) :
  wpAny (model prog w) A (Builtin.SmallTypes.nextOf (.ref it)) Q E s:=by
 obtain⟨o,ho,hc,hd⟩:=id hit
 obtain⟨ol,hol,_,nl,hdl⟩:=ht
 unfold Builtin.SmallTypes.nextOf
 refine wpAny_bind (wpAny_callSpecial?_slot hit.typeIs F.slot_tuple_iterator_next
  (wpAny_call_entry F.slot_tuple_iterator_next hit.typeIs F.entry_tuple_iterator_next ?_ (F.args_tuple_iterator_next_1 _)))
 show wpAny _ _ (field (.ref it) 0 >>= _) _ _ s
 refine wpAny_bind (wpAny_field ho hd rfl ?_)
 show wpAny _ _ (if (Value.ref t == Value.none)=true then _ else _) _ _ s
 rw[if_neg (show ¬ ((Value.ref t == Value.none)=true) from aae)]
 show wpAny _ _ (field (.ref it) 1 >>= _) _ _ s
 refine wpAny_bind (wpAny_field ho hd rfl ?_)
 show wpAny _ _ (seqItems? (.ref t) >>= _) _ _ s
 refine wpAny_bind (wpAny_seqItems hol hdl ?_)
 simp only[abv,hx]
 refine wpAny_bind (wpAny_setField ho hd (by simp) (wpAny_pure ⟨x,rfl,wpAny_pure (hQ _ ?_ (Heap.SameBut.update ..))⟩))
 exact⟨_,Heap.get?_update_self _ ho (Obj.isFreed_of_fields (Obj.data_mapFields hd _)),(Obj.cls_mapFields ..).trans hc,by
  rw[Obj.data_mapFields hd];simp[rawInt]⟩
theorem fK{items}{Q:Value->Shared->Prop}(hh:A.handled=none)
  (hit:s.heap.IsTupleIter it t i) (ht:s.heap.IsTuple t items) (hx:items[i]?=none)
  (hE:∀h' e,Heap.ExtBut it s.heap h'->(∃o,h'.get? e=some o/\o.cls=.type "StopIteration")->E (.ref e) { s with heap:=h' }) :
  wpAny (model prog w) A (Builtin.SmallTypes.nextOf (.ref it)) Q E s:=by
 obtain⟨o,ho,hc,hd⟩:=id hit
 obtain⟨ol,hol,_,nl,hdl⟩:=ht
 unfold Builtin.SmallTypes.nextOf
 refine wpAny_bind (wpAny_callSpecial?_slot hit.typeIs F.slot_tuple_iterator_next
  (wpAny_call_entry F.slot_tuple_iterator_next hit.typeIs F.entry_tuple_iterator_next ?_ (F.args_tuple_iterator_next_1 _)))
 show wpAny _ _ (field (.ref it) 0 >>= _) _ _ s
 refine wpAny_bind (wpAny_field ho hd rfl ?_)
 show wpAny _ _ (if (Value.ref t == Value.none)=true then _ else _) _ _ s
 rw[if_neg (show ¬ ((Value.ref t == Value.none)=true) from aae)]
 show wpAny _ _ (field (.ref it) 1 >>= _) _ _ s
 refine wpAny_bind (wpAny_field ho hd rfl ?_)
 show wpAny _ _ (seqItems? (.ref t) >>= _) _ _ s
 refine wpAny_bind (wpAny_seqItems hol hdl ?_)
 simp only[abv,hx]
 refine wpAny_bind (wpAny_rule (wpAny_bind (wpAny_setField ho hd (by simp) ?_)))
 show wpAny _ _ (newExc (.type "StopIteration") [] >>= _) _ _ _
 refine wpAny_bind ?_
 simp only[newExc,newTuple]
 refine wpAny_bind (wpAny_newObj_type ?_ (by size_fits))
 refine wpAny_bind (wpAny_of_eq (by first | rfl | (simp only[firstArgMember];rfl)) ?_)
 refine wpAny_newObj_type ?_ (by size_fits)
 simp only[raiseNew]
 refine wpAny_bind (wpAny_handled ?_)
 first | rw[show A.in1.handled=none from hh] | rw[hh]
 refine wpAny_bind (wpAny_pure (wpAny_throw ?_))
 exact hE _ _ (((Heap.SameBut.update ..).extBut.push _).push _) ⟨_,Heap.get?_push_size _ rfl,rfl⟩
end
inductive ZS where
 | lst (a:Addr) (xs:List V)
 | tup (a:Addr) (xs:List V)
 | str (z:Str)
def ZS.items:ZS->List V
 | .lst _ xs=>xs
 | .tup _ xs=>xs
 | .str z=>z.cps.toList.map fun c=>.str ⟨#[c]⟩
def ZS.val:ZS->V
 | .lst a _=>.ref a
 | .tup a _=>.ref a
 | .str z=>.str z
def ZS.ok(K:WF)(H:Hp):ZS->Prop
 | .lst a xs=>SqL K H a xs
 | .tup a xs=>SqT K H a xs
 | .str _=>True
structure Sub (prog:Program)(w:World)(A:Around)(i:Addr)(sl:List Addr)(src:Heap->Prop)(st:Nat->Heap->Prop)(vs:List V):Prop where
 sfr:∀h h',src h->(∀b∈sl,∀o,h.get? b=some o->h'.get? b=some o)->src h'
 ifr:∀k h h',st k h->(∀o,h.get? i=some o->h'.get? i=some o)->st k h'
 item:∀(k:Nat) (s:Shared) (x:V) (Q:Value->Shared->Prop) (E:Value->Shared->Prop),vs[k]?=some x->src s.heap->st k s.heap ->
  (∀v h' tk,RelV x v->st (k + 1) h'->Heap.SameBut i s.heap h'->Q v { s with heap:=h',toks:=tk })->wpAny (model prog w) A (Builtin.SmallTypes.nextOf (.ref i)) Q E s
 done:∀(k:Nat) (s:Shared) (Q:Value->Shared->Prop) (E:Value->Shared->Prop),vs.length≤k->src s.heap->st k s.heap ->
  (∀h' e,Heap.ExtBut i s.heap h'->(∃o,h'.get? e=some o/\o.cls=.type "StopIteration")->E (.ref e) { s with heap:=h' })->wpAny (model prog w) A (Builtin.SmallTypes.nextOf (.ref i)) Q E s
theorem Sub.list(hh:A.handled=none)(i l:Addr)(r:Vals xs its) :
  Sub prog w A i [l] (fun h=>h.IsList l its.toArray) (fun k h=>h.IsListIter i l k) xs where
 sfr:=fun h h' x k=>x.at fun o e=>k l (by simp) o e
 ifr:=fun k h h' x f=>x.at fun o e=>f o e
 item:=fun k s x Q E hx hs st hQ=>by
  obtain⟨u,hu,ru⟩:=r.get hx
  exact wpAny_nextOf_list_item st hs (by simpa using hu) fun h' st' sb=>hQ u h' s.toks ru st' sb
 done:=fun k s Q E hk hs st hE=>by
  have hl:=r.length
  exact wpAny_nextOf_list_end hh st hs (by simp;omega) hE
theorem Sub.tuple(hh:A.handled=none)(i l:Addr)(r:Vals xs its) :
  Sub prog w A i [l] (fun h=>h.IsTuple l its.toArray) (fun k h=>h.IsTupleIter i l k) xs where
 sfr:=fun h h' ⟨o,e,c⟩ k=>⟨o,k l (by simp) o e,c⟩
 ifr:=fun k h h' ⟨o,e,c⟩ f=>⟨o,f o e,c⟩
 item:=fun k s x Q E hx hs st hQ=>by
  obtain⟨u,hu,ru⟩:=r.get hx
  exact eS st hs (by simpa using hu) fun h' st' sb=>hQ u h' s.toks ru st' sb
 done:=fun k s Q E hk hs st hE=>by
  have hl:=r.length
  exact fK hh st hs (by simp;omega) hE
theorem Sub.strs(hh:A.handled=none)(i:Addr)(z:Str)(t:Tok) :
  Sub prog w A i [] (fun _=>True) (fun k h=>h.IsStrIter i (strIterType z) z t k) (z.cps.toList.map fun c=>V.str ⟨#[c]⟩) where
 sfr:=fun h h' x k=>trivial
 ifr:=fun k h h' ⟨o,e,c⟩ f=>⟨o,f o e,c⟩
 item:=fun k s x Q E hx hs st hQ=>by
  rw[aau]at hx
  cases e:z.cps.toList[k]? with
  | none=>rw[e]at hx;cases hx
  | some c =>
   rw[e]at hx
   have hx':V.str ⟨#[c]⟩=x:=aaA hx
   subst hx'
   have e':z.cps[k]?=some c:=by rw[<- Array.getElem?_toList];exact e
   unfold strIterType at st hQ
   split at st
   ·rename_i ha
    rw[if_pos ha]at hQ
    exact wpAny_nextOf_ascii_item st e' fun h' st' sb=>hQ _ h' _ ⟨_,rfl⟩ st' sb
   ·rename_i ha
    rw[if_neg ha]at hQ
    exact wpAny_nextOf_wide_item st e' fun h' st' sb=>hQ _ h' _ ⟨_,rfl⟩ st' sb
 done:=fun k s Q E hk hs st hE=>by
  have e':z.cps[k]?=none:=by
   rw[aaa,abG]at hk
   exact Array.getElem?_eq_none hk
  unfold strIterType at st
  split at st
  ·exact wpAny_nextOf_ascii_end hh st e' hE
  ·exact wpAny_nextOf_wide_end hh st e' hE
structure ZApart (z TI TO i1 i2:Addr)(sl1 sl2:List Addr):Prop where
 TIz:TI≠z
 TOz:TO≠z
 i1z:i1≠z
 i2z:i2≠z
 TITO:TI≠TO
 TIi1:TI≠i1
 TIi2:TI≠i2
 TOi1:TO≠i1
 TOi2:TO≠i2
 i12:i1≠i2
 s1:∀b∈sl1,b≠z/\b≠TO/\b≠i1/\b≠i2
 s2:∀b∈sl2,b≠z/\b≠TO/\b≠i1/\b≠i2
section
variable{prog:Program}{w:World}{A:Around}{E:Value->Shared->Prop}{s:Shared}
theorem pC{z TI TO i1 i2:Addr}{Q:Value->Shared->Prop}(D:ZApart z TI TO i1 i2 sl1 sl2)
  (S1:Sub prog w A i1 sl1 src1 st1 xs) (S2:Sub prog w A i2 sl2 src2 st2 ys)
  (hz:IsZip s.heap z TI TO .none) (hTI:IsPair s.heap TI (.ref i1) (.ref i2)) (hTO:IsPair s.heap TO a b)
  (h1:st1 k s.heap) (h2:st2 k s.heap) (hl1:src1 s.heap) (hl2:src2 s.heap) (hx:xs[k]?=some x) (hy:ys[k]?=some y)
  (hQ:∀u v h' tk,RelV x u->RelV y v->IsZip h' z TI TO (rawInt s.heap.objs.size)->IsPair h' TO u v->st1 (k + 1) h'->st2 (k + 1) h'->IsPair h' s.heap.objs.size u v->h'.objs.size=s.heap.objs.size + 1 ->
   (∀c o,c≠z->c≠TO->c≠i1->c≠i2->s.heap.get? c=some o->h'.get? c=some o)->Q (.ref s.heap.objs.size) { s with heap:=h',toks:=tk })
  (hi1:i1 < s.heap.objs.size) (hi2:i2 < s.heap.objs.size) :
  wpAny (model prog w) A (Builtin.«zip.__next__» ⟨[.ref z],[]⟩) (fun fin s'=>∃v,fin=.done (.ret v)/\Q v s') E s:=by
 show wpAny _ _ (field (.ref z) 2 >>= _) _ _ _
 refine wpAny_bind (wpAny_field hz rfl rfl ?_)
 show wpAny _ _ (field (.ref z) 3 >>= _) _ _ _
 refine wpAny_bind (wpAny_field hz rfl rfl ?_)
 refine wpAny_bind (wpAny_seqItems hTI rfl ?_)
 show wpAny _ _ (Builtin.SmallTypes.ownedTupleIsFree (.ref z) >>= _) _ _ _
 refine wpAny_bind ?_
 unfold Builtin.SmallTypes.ownedTupleIsFree
 refine wpAny_bind (wpAny_field hz rfl rfl (wpAny_pure ?_))
 simp only[if_true]
 refine wpAny_bind (wpAny_rule ?_)
 refine wpAny_bind (wpAny_field hz rfl rfl ?_)
 refine wpAny_bind (wpAny_setField_rec hz (by simp) fun h₁ hz₁ hs₁=>?_)
 replace hz₁:IsZip h₁ z TI TO .ellipsis:=hz₁
 refine wpAny_bind ?_
 simp only[List.zipIdx_cons,List.zipIdx_nil,abL,List.forIn_nil]
 refine wpAny_bind (wpAny_bind (wpAny_onRaise ?_))
 show wpAny _ _ (Builtin.SmallTypes.nextOf (.ref i1) >>= _) _ _ _
 refine wpAny_bind (S1.item k _ x _ _ hx (S1.sfr _ _ hl1 fun b hb o e=>hs₁.extBut b o (D.s1 b hb).1 e) (S1.ifr _ _ _ h1 fun o e=>hs₁.extBut _ o D.i1z e) fun u h₂ tk₂ ru h1₂ hs₂=>wpAny_pure ?_)
 have hs₂:Heap.SameBut i1 h₁ h₂:=hs₂
 have hTO₂:IsPair h₂ TO a b:=hs₂.extBut _ _ D.TOi1 (hs₁.extBut _ _ D.TOz hTO)
 refine wpAny_bind (wpAny_seqItems hTO₂ rfl ?_)
 refine wpAny_bind (wpAny_updateSeq_pair hTO₂ fun h₃ hTO₃ hs₃=>?_)
 replace hTO₃:IsPair h₃ TO u b:=hTO₃
 have hs₃:Heap.SameBut TO h₂ h₃:=hs₃
 refine wpAny_bind (wpAny_letGo (wpAny_pure ?_))
 refine wpAny_bind (wpAny_bind (wpAny_onRaise ?_))
 show wpAny _ _ (Builtin.SmallTypes.nextOf (.ref i2) >>= _) _ _ _
 refine wpAny_bind (S2.item k _ y _ _ hy (S2.sfr _ _ hl2 fun b hb o e=>hs₃.extBut b o (D.s2 b hb).2.1 (hs₂.extBut b o (D.s2 b hb).2.2.1 (hs₁.extBut b o (D.s2 b hb).1 e)))
  (S2.ifr _ _ _ h2 fun o e=>hs₃.extBut _ o D.TOi2.symm (hs₂.extBut _ o D.i12.symm (hs₁.extBut _ o D.i2z e))) fun v h₄ tk₄ rv h2₄ hs₄=>wpAny_pure ?_)
 have hs₄:Heap.SameBut i2 h₃ h₄:=hs₄
 have hTO₄:IsPair h₄ TO u b:=hs₄.extBut _ _ D.TOi2 hTO₃
 refine wpAny_bind (wpAny_seqItems hTO₄ rfl ?_)
 refine wpAny_bind (wpAny_updateSeq_pair hTO₄ fun h₅ hTO₅ hs₅=>?_)
 replace hTO₅:IsPair h₅ TO u v:=hTO₅
 have hs₅:Heap.SameBut TO h₄ h₅:=hs₅
 refine wpAny_bind (wpAny_letGo (wpAny_pure (wpAny_pure ?_)))
 refine wpAny_bind (wpAny_seqItems hTO₅ rfl ?_)
 refine wpAny_bind (wpAny_newTuple ?_)
 have hsz:h₅.objs.size=s.heap.objs.size:=by rw[hs₅.1,hs₄.1,hs₃.1,hs₂.1,hs₁.1]
 have hz₅:IsZip h₅ z TI TO .ellipsis:=hs₅.extBut _ _ D.TOz.symm (hs₄.extBut _ _ D.i2z.symm (hs₃.extBut _ _ D.TOz.symm (hs₂.extBut _ _ D.i1z.symm hz₁)))
 have hk₅:∀c o,c≠z->c≠TO->c≠i1->c≠i2->s.heap.get? c=some o->h₅.get? c=some o:=fun c o c1 c2 c3 c4 e =>
  hs₅.extBut _ _ c2 (hs₄.extBut _ _ c4 (hs₃.extBut _ _ c2 (hs₂.extBut _ _ c3 (hs₁.extBut _ _ c1 e))))
 have h1₅:st1 (k + 1) h₅:=S1.ifr _ _ _ h1₂ fun o e=>hs₅.extBut _ o D.TOi1.symm (hs₄.extBut _ o D.i12 (hs₃.extBut _ o D.TOi1.symm e))
 have h2₅:st2 (k + 1) h₅:=S2.ifr _ _ _ h2₄ fun o e=>hs₅.extBut _ o D.TOi2.symm e
 have hzlt:z < h₅.objs.size:=Heap.lt_size hz₅
 show wpAny _ _ (Builtin.SmallTypes.ownedTupleHandOut (.ref z) (.ref h₅.objs.size) >>= _) _ _ _
 refine wpAny_bind ?_
 unfold Builtin.SmallTypes.ownedTupleHandOut
 have hz₆:IsZip (h₅.push { cls:=.type "tuple",data:=.seq #[u,v] }) z TI TO .ellipsis:=Heap.get?_push_of_some _ hz₅
 refine wpAny_bind (wpAny_setField_rec hz₆ (by simp) fun h₇ hz₇ hs₇=>?_)
 replace hz₇:IsZip h₇ z TI TO (rawInt h₅.objs.size):=hz₇
 refine wpAny_setField_rec hz₇ (by simp) fun h₈ hz₈ hs₈=>?_
 replace hz₈:IsZip h₈ z TI TO (rawInt h₅.objs.size):=hz₈
 have up:∀c o,c≠z->h₅.get? c=some o->h₈.get? c=some o:=fun c o c1 e=>hs₈.extBut _ _ c1 (hs₇.extBut _ _ c1 (Heap.get?_push_of_some _ e))
 have hT₈:IsPair h₈ h₅.objs.size u v:=hs₈.extBut _ _ (aaY hzlt) (hs₇.extBut _ _ (aaY hzlt) (Heap.get?_push_size _ rfl))
 have hz8:h₈.objs.size=h₅.objs.size + 1:=by rw[hs₈.1,hs₇.1,Heap.size_push]
 rw[hsz]at hz₈ hT₈ hz8
 refine wpAny_pure ⟨_,rfl,?_⟩
 show Q (.ref h₅.objs.size) _
 rw[hsz]
 exact hQ u v h₈ _ ru rv hz₈ (up _ _ D.TOz hTO₅) (S1.ifr _ _ _ h1₅ fun o e=>up _ o D.i1z e) (S2.ifr _ _ _ h2₅ fun o e=>up _ o D.i2z e) hT₈ hz8 fun c o c1 c2 c3 c4 e=>up c o c1 (hk₅ c o c1 c2 c3 c4 e)
theorem qT{z TI TO i1 i2:Addr}{Q:Fin->Shared->Prop}(D:ZApart z TI TO i1 i2 sl1 sl2)
  (S1:Sub prog w A i1 sl1 src1 st1 xs) (S2:Sub prog w A i2 sl2 src2 st2 ys)
  (hz:IsZip s.heap z TI TO .none) (hTI:IsPair s.heap TI (.ref i1) (.ref i2)) (hTO:IsPair s.heap TO a b)
  (h1:st1 k s.heap) (h2:st2 k s.heap) (hl1:src1 s.heap) (hl2:src2 s.heap) (hend:xs.length≤k\/ys.length≤k)
  (hE:∀h' tk e,(∀c o,c≠z->c≠TO->c≠i1->c≠i2->s.heap.get? c=some o->h'.get? c=some o)->(∃o,h'.get? e=some o/\o.cls=.type "StopIteration")->E (.ref e) { s with heap:=h',toks:=tk }) :
  wpAny (model prog w) A (Builtin.«zip.__next__» ⟨[.ref z],[]⟩) Q E s:=by
 show wpAny _ _ (field (.ref z) 2 >>= _) _ _ _
 refine wpAny_bind (wpAny_field hz rfl rfl ?_)
 show wpAny _ _ (field (.ref z) 3 >>= _) _ _ _
 refine wpAny_bind (wpAny_field hz rfl rfl ?_)
 refine wpAny_bind (wpAny_seqItems hTI rfl ?_)
 show wpAny _ _ (Builtin.SmallTypes.ownedTupleIsFree (.ref z) >>= _) _ _ _
 refine wpAny_bind ?_
 unfold Builtin.SmallTypes.ownedTupleIsFree
 refine wpAny_bind (wpAny_field hz rfl rfl (wpAny_pure ?_))
 simp only[if_true]
 refine wpAny_bind (wpAny_rule ?_)
 refine wpAny_bind (wpAny_field hz rfl rfl ?_)
 refine wpAny_bind (wpAny_setField_rec hz (by simp) fun h₁ hz₁ hs₁=>?_)
 replace hz₁:IsZip h₁ z TI TO .ellipsis:=hz₁
 refine wpAny_bind ?_
 simp only[List.zipIdx_cons,List.zipIdx_nil,abL,List.forIn_nil]
 refine wpAny_bind (wpAny_bind (wpAny_onRaise ?_))
 show wpAny _ _ (Builtin.SmallTypes.nextOf (.ref i1) >>= _) _ _ _
 have l1:src1 h₁:=S1.sfr _ _ hl1 fun b hb o e=>hs₁.extBut b o (D.s1 b hb).1 e
 have t1:st1 k h₁:=S1.ifr _ _ _ h1 fun o e=>hs₁.extBut _ o D.i1z e
 by_cases hx:xs.length≤k
 ·refine wpAny_bind (S1.done k _ _ _ hx l1 t1 fun h₂ e hs₂ he=>?_)
  have hs₂:Heap.ExtBut i1 h₁ h₂:=hs₂
  obtain⟨oe,hoe,hce⟩:=he
  have hz₂:IsZip h₂ z TI TO .ellipsis:=hs₂ _ _ D.i1z.symm hz₁
  have hez:e≠z:=fun x=>by subst x;rw[hz₂]at hoe;cases hoe;simp at hce
  refine wpAny_setField_rec hz₂ (by simp) fun h₃ _ hs₃=>hE h₃ _ e (fun c o c1 _ c3 _ x=>hs₃.extBut _ _ c1 (hs₂ _ _ c3 (hs₁.extBut _ _ c1 x))) ⟨oe,hs₃.extBut _ _ hez hoe,hce⟩
 ·have hy:ys.length≤k:=by rcases hend with h | h;exact absurd h hx;exact h
  obtain⟨x,hx'⟩:∃x,xs[k]?=some x:=⟨_,aar (Nat.lt_of_not_le hx)⟩
  refine wpAny_bind (S1.item k _ x _ _ hx' l1 t1 fun u h₂ tk₂ ru h1₂ hs₂=>wpAny_pure ?_)
  have hs₂:Heap.SameBut i1 h₁ h₂:=hs₂
  have hTO₂:IsPair h₂ TO a b:=hs₂.extBut _ _ D.TOi1 (hs₁.extBut _ _ D.TOz hTO)
  refine wpAny_bind (wpAny_seqItems hTO₂ rfl ?_)
  refine wpAny_bind (wpAny_updateSeq_pair hTO₂ fun h₃ hTO₃ hs₃=>?_)
  have hs₃:Heap.SameBut TO h₂ h₃:=hs₃
  refine wpAny_bind (wpAny_letGo (wpAny_pure ?_))
  refine wpAny_bind (wpAny_bind (wpAny_onRaise ?_))
  show wpAny _ _ (Builtin.SmallTypes.nextOf (.ref i2) >>= _) _ _ _
  refine wpAny_bind (S2.done k _ _ _ hy (S2.sfr _ _ hl2 fun b hb o e=>hs₃.extBut b o (D.s2 b hb).2.1 (hs₂.extBut b o (D.s2 b hb).2.2.1 (hs₁.extBut b o (D.s2 b hb).1 e)))
   (S2.ifr _ _ _ h2 fun o e=>hs₃.extBut _ o D.TOi2.symm (hs₂.extBut _ o D.i12.symm (hs₁.extBut _ o D.i2z e))) fun h₄ e hs₄ he=>?_)
  have hs₄:Heap.ExtBut i2 h₃ h₄:=hs₄
  obtain⟨oe,hoe,hce⟩:=he
  have hz₄:IsZip h₄ z TI TO .ellipsis:=hs₄ _ _ D.i2z.symm (hs₃.extBut _ _ D.TOz.symm (hs₂.extBut _ _ D.i1z.symm hz₁))
  have hez:e≠z:=fun x=>by subst x;rw[hz₄]at hoe;cases hoe;simp at hce
  refine wpAny_setField_rec hz₄ (by simp) fun h₅ _ hs₅=>hE h₅ _ e (fun c o c1 c2 c3 c4 x=>hs₅.extBut _ _ c1 (hs₄ _ _ c4 (hs₃.extBut _ _ c2 (hs₂.extBut _ _ c3 (hs₁.extBut _ _ c1 x))))) ⟨oe,hs₅.extBut _ _ hez hoe,hce⟩
theorem lP{z TI TO i1 i2:Addr}(D:ZApart z TI TO i1 i2 sl1 sl2)
  (S1:Sub prog w A.in1 i1 sl1 src1 st1 xs) (S2:Sub prog w A.in1 i2 sl2 src2 st2 ys)
  (hz:IsZip s.heap z TI TO .none) (hTI:IsPair s.heap TI (.ref i1) (.ref i2)) (hTO:IsPair s.heap TO a b)
  (h1:st1 k s.heap) (h2:st2 k s.heap) (hl1:src1 s.heap) (hl2:src2 s.heap) (hx:xs[k]?=some x) (hy:ys[k]?=some y)
  (hQ:∀u v h' tk,RelV x u->RelV y v->IsZip h' z TI TO (rawInt s.heap.objs.size)->IsPair h' TO u v->st1 (k + 1) h'->st2 (k + 1) h'->IsPair h' s.heap.objs.size u v->h'.objs.size=s.heap.objs.size + 1 ->
   (∀c o,c≠z->c≠TO->c≠i1->c≠i2->s.heap.get? c=some o->h'.get? c=some o)->Q (some (.ref s.heap.objs.size)) { s with heap:=h',toks:=tk })
  (hi1:i1 < s.heap.objs.size) (hi2:i2 < s.heap.objs.size) :
  wpAny (model prog w) A (pyNext (.ref z)) Q E s:=by
 have hT:s.TypeIs (.ref z) "zip":=⟨_,hz,rfl⟩
 unfold pyNext
 exact wpAny_bind (wpAny_attempt (wpAny_callSpecial?_slot hT F.slot_zip_next
  (wpAny_call_entry F.slot_zip_next hT F.entry_zip_next
   (pC D S1 S2 hz hTI hTO h1 h2 hl1 hl2 hx hy (fun u v h' tk r1 r2 a1 a2 a3 a4 a5 a6 a7=>wpAny_pure (hQ u v h' tk r1 r2 a1 a2 a3 a4 a5 a6 a7)) hi1 hi2) (F.args_zip_next_1 _))))
theorem pD{z TI TO i1 i2:Addr}(D:ZApart z TI TO i1 i2 sl1 sl2)
  (S1:Sub prog w A.in1 i1 sl1 src1 st1 xs) (S2:Sub prog w A.in1 i2 sl2 src2 st2 ys)
  (hz:IsZip s.heap z TI TO .none) (hTI:IsPair s.heap TI (.ref i1) (.ref i2)) (hTO:IsPair s.heap TO a b)
  (h1:st1 k s.heap) (h2:st2 k s.heap) (hl1:src1 s.heap) (hl2:src2 s.heap) (hend:xs.length≤k\/ys.length≤k)
  (hQ:∀h' tk,(∀c o,c≠z->c≠TO->c≠i1->c≠i2->s.heap.get? c=some o->h'.get? c=some o)->Q none { s with heap:=h',toks:=tk }):wpAny (model prog w) A (pyNext (.ref z)) Q E s:=by
 have hT:s.TypeIs (.ref z) "zip":=⟨_,hz,rfl⟩
 unfold pyNext
 refine wpAny_bind (wpAny_attempt (wpAny_callSpecial?_slot hT F.slot_zip_next
  (wpAny_call_entry F.slot_zip_next hT F.entry_zip_next (qT D S1 S2 hz hTI hTO h1 h2 hl1 hl2 hend fun h' tk e hk he=>?_) (F.args_zip_next_1 _))))
 obtain⟨o,ho,hc⟩:=he
 refine wpAny_bind (wpAny_isInstance ⟨o,ho,hc⟩ isSubtype_stop ?_)
 exact wpAny_pure (hQ _ _ hk)
end
end
section
def D5(K:WF)(a b:ZS):It :=
 ⟨fun i H=>a.ok K H/\b.ok K H/\i < a.items.length/\i < b.items.length,
  fun i H v H'=>∃T x y,a.items[i]?=some x/\b.items[i]?=some y/\H T=none/\v=.ref T/\H'=upd H T (.tup [x,y]),
  fun i H=>a.ok K H/\b.ok K H/\(a.items.length≤i\/b.items.length≤i)⟩
def ZS.rcd:ZS->Value->Obj
 | .lst _ _,v=>{ cls:=.type "list_iterator",data:=.fields #[v,.int 0 0] }
 | .tup _ _,v=>{ cls:=.type "tuple_iterator",data:=.fields #[v,.int 0 0] }
 | .str z,v=>{ cls:=.type (strIterType z),data:=.fields #[v,.int 0 0] }
def ZS.st(a:ZS)(v:Value)(i:Addr)(k:Nat)(h:Heap):Prop:=match a,v with
 | .lst l _,_=>h.IsListIter i l k
 | .tup l _,_=>h.IsTupleIter i l k
 | .str z,.str _ t=>h.IsStrIter i (strIterType z) z t k
 | .str _,_=>False
def ZS.sl:ZS->List Addr
 | .lst l _=>[l]
 | .tup l _=>[l]
 | .str _=>[]
theorem ZS.st_obj{a:ZS}(x:a.st v i k h):∃o,h.get? i=some o/\∀c,o.data≠.cell c:=by
 cases a with
 | lst l xs=>obtain⟨o,e,c,d⟩:=(show h.IsListIter i l k from x);exact⟨o,e,fun v z=>by rw[d]at z;cases z⟩
 | tup l xs=>obtain⟨o,e,c,d⟩:=(show h.IsTupleIter i l k from x);exact⟨o,e,fun v z=>by rw[d]at z;cases z⟩
 | str z =>
  cases v with
  | str y t=>obtain⟨o,e,c,d⟩:=(show h.IsStrIter i (strIterType z) z t k from x);exact⟨o,e,fun v z=>by rw[d]at z;cases z⟩
  | _=>exact False.elim x
theorem ZS.st_keep{a:ZS}(x:a.st v i k h)(f:∀o,h.get? i=some o->h'.get? i=some o):a.st v i k h':=by
 cases a with
 | lst l xs=>obtain⟨o,e,c⟩:=(show h.IsListIter i l k from x);exact⟨o,f o e,c⟩
 | tup l xs=>obtain⟨o,e,c⟩:=(show h.IsTupleIter i l k from x);exact⟨o,f o e,c⟩
 | str z =>
  cases v with
  | str y t=>obtain⟨o,e,c⟩:=(show h.IsStrIter i (strIterType z) z t k from x);exact⟨o,f o e,c⟩
  | _=>exact False.elim x
section
variable{X:Cx}{pins:List (Addr × Obj)}{σ:St}{H:Hp}{s:Shared}
theorem ZS.sub(a:ZS)(I:Inv X pins σ H s)(ok:a.ok X.K H)(rv:RelV a.val v)(A:Around)(hh:A.handled=none)(i:Addr) :
  ∃src:Heap->Prop,src s.heap/\Sub X.prog X.w A i a.sl src (a.st v i) a.items/\(∀b∈a.sl,∃o,s.heap.get? b=some o/\(H b≠none\/X.base.get? b=some o)):=by
 cases a with
 | lst l xs =>
  have ok:SqL X.K H l xs:=ok
  obtain⟨its,r,p,hz⟩:=I.list ok
  refine⟨_,p.isList,Sub.list hh i l r,fun b hb=>?_⟩
  have e:b=l:=by simpa [ZS.sl] using hb
  subst e
  rcases ok with (h | ⟨o,h⟩) | ⟨o,its',n,hk,_⟩
  ·obtain⟨_,_,_,_,e⟩:=I.hok _ _ h
   exact⟨_,e,.inl (by rw[h];simp)⟩
  ·obtain⟨e,_⟩:=I.hok _ _ h
   exact⟨_,e,.inl (by rw[h];simp)⟩
  ·exact⟨o,I.kIn _ _ hk,.inr (I.ok.mod.kin _ _ hk)⟩
 | tup l xs =>
  have ok:SqT X.K H l xs:=ok
  obtain⟨its,r,p,hz⟩:=I.tuple ok
  refine⟨_,p,Sub.tuple hh i l r,fun b hb=>?_⟩
  have e:b=l:=by simpa [ZS.sl] using hb
  subst e
  rcases ok with (h | ⟨o,h⟩) | ⟨o,its',n,hk,_⟩
  ·obtain⟨_,_,_,o,e,_⟩:=I.hok _ _ h
   exact⟨_,e,.inl (by rw[h];simp)⟩
  ·obtain⟨e,_⟩:=I.hok _ _ h
   exact⟨_,e,.inl (by rw[h];simp)⟩
  ·exact⟨o,I.kIn _ _ hk,.inr (I.ok.mod.kin _ _ hk)⟩
 | str z =>
  obtain⟨t,rfl⟩:=rv
  exact⟨_,trivial,Sub.strs hh i z t,fun b hb=>by simp[ZS.sl]at hb⟩
end
theorem aI{a:ZS}(I:Inv X pins σ H s)(f:FpOk X pins H b)(h:∀c∈a.sl,∃o,s.heap.get? c=some o/\(H c≠none\/X.base.get? c=some o)):∀c∈a.sl,c≠b:=by
 intro c hc e
 subst e
 obtain⟨o,_,q⟩:=h c hc
 rcases q with q | q
 ·exact q f.1
 ·rcases f.2.2.2.1 with z | z
  ·exact I.ok.noex c o q z
  ·exact absurd (aay (Heap.lt_size q) (aan I.ok.bsz z)) (aaV _)
structure ZRec (z TI TO i1 i2:Addr):Prop where
 TIz:TI≠z
 TOz:TO≠z
 i1z:i1≠z
 i2z:i2≠z
 TITO:TI≠TO
 TIi1:TI≠i1
 TIi2:TI≠i2
 TOi1:TO≠i1
 TOi2:TO≠i2
 i12:i1≠i2
theorem Inv.turnedL{t':Nat}{fp:List Addr}(I:Inv X pins σ H s)(k:∀b o,b ∉ fp->s.heap.get? b=some o->h'.get? b=some o)(f:∀b∈fp,FpOk X pins H b)
  : Inv X pins σ H { s with heap:=h',toks:=t' }:=by
 have nit:∀b u,H b=some u->b ∉ fp:=fun b u e z=>by rw[(f b z).1]at e;cases e
 refine I.step (fun b hb=>?_) (fun b o _ _ hc e _=>k b o hc e) (fun b o _ _ hc e _=>⟨o.slots,k b o hc e⟩) (fun _ _ _ _ n=>n)
  (fun b o hc e=>⟨o,k b o hc e⟩) (fun _ _ e=>e) (fun _ _ _ e=>e) (fun b ps e=>⟨#[],by rw[e];simp⟩) (fun m hm=>?_) (fun b u e=>?_) I.bare
 ·obtain⟨f0,f1,f2,f3,f4,f5⟩:=f b hb
  exact⟨f3,f1,f4,f5⟩
 ·obtain⟨o,es,ep,ho,r⟩:=hm
  exact⟨o,es,ep,k _ o (fun z=>(f _ z).2.1 rfl) ho,r⟩
 ·refine (I.hok b u e).stay (fun c v hc q=>k c v ?_ q) (fun _ q=>q) fun _ _ q=>q
  rcases hc with z | z
  ·rw[z];exact nit b u e
  ·exact nit c _ z
theorem qU{P:Program}{K:WF}{x1}(a b:ZS)(va vb:Value)(ra:RelV a.val va)(rb:RelV b.val vb)(z TI TO i1 i2:Addr)(R:ZRec z TI TO i1 i2) :
  Turn P w K (.Tuple es x1 pos) (D5 K a b) [z,TI,TO,i1,i2] z
   (fun i h=>IsZip h z TI TO .none/\IsPair h TI (.ref i1) (.ref i2)/\(∃p q,IsPair h TO p q)/\a.st va i1 i h/\b.st vb i2 i h) where
 mem:=by simp
 obj:=fun i h ⟨h1,h2,⟨p,q,h3⟩,h4,h5⟩ c hc=>by
  simp only[aac,aak,or_false]at hc
  rcases hc with rfl | rfl | rfl | rfl | rfl
  ·exact⟨_,h1,fun v z=>by cases z⟩
  ·exact⟨_,h2,fun v z=>by cases z⟩
  ·exact⟨_,h3,fun v z=>by cases z⟩
  ·exact ZS.st_obj h4
  ·exact ZS.st_obj h5
 keep:=fun i h h' ⟨h1,h2,⟨p,q,h3⟩,h4,h5⟩ k =>
  ⟨k z (by simp) _ h1,k TI (by simp) _ h2,⟨p,q,k TO (by simp) _ h3⟩,ZS.st_keep h4 (fun o e=>k i1 (by simp) o e),ZS.st_keep h5 (fun o e=>k i2 (by simp) o e)⟩
 item:=by
  intro X hP hw hK hc i pins s σ H E I hf ⟨h1,h2,⟨p,q,h3⟩,h4,h5⟩ hg
  subst hP hw hK
  obtain⟨oka,okb,la,lb⟩:=hg
  have hh:X.A.in1.handled=none:=I.ok.hd hc
  obtain⟨src1,hs1,S1,ap1⟩:=a.sub I oka ra X.A.in1 hh i1
  obtain⟨src2,hs2,S2,ap2⟩:=b.sub I okb rb X.A.in1 hh i2
  obtain⟨x,hx⟩:∃x,a.items[i]?=some x:=⟨_,aar la⟩
  obtain⟨y,hy⟩:∃y,b.items[i]?=some y:=⟨_,aar lb⟩
  have D:ZApart z TI TO i1 i2 a.sl b.sl:=⟨R.TIz,R.TOz,R.i1z,R.i2z,R.TITO,R.TIi1,R.TIi2,R.TOi1,R.TOi2,R.i12,
   fun c hc=>⟨aI I (hf z (by simp)) ap1 c hc,aI I (hf TO (by simp)) ap1 c hc,aI I (hf i1 (by simp)) ap1 c hc,aI I (hf i2 (by simp)) ap1 c hc⟩,
   fun c hc=>⟨aI I (hf z (by simp)) ap2 c hc,aI I (hf TO (by simp)) ap2 c hc,aI I (hf i1 (by simp)) ap2 c hc,aI I (hf i2 (by simp)) ap2 c hc⟩⟩
  have fl:∀c∈([z,TI,TO,i1,i2]:List Addr),c < s.heap.objs.size:=fun c hc=>by
   simp only[aac,aak,or_false]at hc
   rcases hc with rfl | rfl | rfl | rfl | rfl
   ·exact Heap.lt_size h1
   ·exact Heap.lt_size h2
   ·exact Heap.lt_size h3
   ·obtain⟨o,e,_⟩:=ZS.st_obj h4;exact Heap.lt_size e
   ·obtain⟨o,e,_⟩:=ZS.st_obj h5;exact Heap.lt_size e
  refine lP D S1 S2 h1 h2 h3 h4 h5 hs1 hs2 hx hy (fun u v h' tk ru rv hz' hTO' st1' st2' hT hsz hk=>?_) (fl i1 (by simp)) (fl i2 (by simp))
  refine⟨.ref s.heap.objs.size,rfl,?_⟩
  refine wpAny_letOwnedTupleGo_zip hz' fun h'' hz'' hs''=>?_
  have hs'':Heap.SameBut z h' h'':=hs''
  have k1:∀c o,c ∉ ([z,TI,TO,i1,i2]:List Addr)->s.heap.get? c=some o->h''.get? c=some o:=fun c o hc e=>by
   simp only[aac,aak,or_false,not_or]at hc
   exact hs''.extBut _ _ hc.1 (hk c o hc.1 hc.2.2.1 hc.2.2.2.1 hc.2.2.2.2 e)
  have hn:H s.heap.objs.size=none:=I.hok.fresh (aaf _)
  have I1:Inv X pins σ H { s with heap:=h'',toks:=tk }:=I.turnedL k1 hf
  have nez:s.heap.objs.size≠z:=aaY (fl z (by simp))
  have hT'':IsPair h'' s.heap.objs.size u v:=hs''.extBut _ _ nez hT
  have I2:Inv X pins σ (upd H s.heap.objs.size (.tup [x,y])) { s with heap:=h'',toks:=tk }:=by
   refine I.step (fun b hb=>?_) (fun b o _ _ hc e _=>k1 b o hc e) (fun b o _ _ hc e _=>⟨o.slots,k1 b o hc e⟩) (fun b o hc e n=>?_)
    (fun b o hc e=>⟨o,k1 b o hc e⟩) (fun b ys e=>?_) (fun b o u e=>?_) (fun b ps e=>⟨#[],?_⟩) (fun m hm=>?_) (fun b o e=>?_) I.bare
   ·obtain⟨f0,f1,f2,f3,f4,f5⟩:=hf b hb
    exact⟨f3,f1,f4,f5⟩
   ·rw[upd_ne (aao (Heap.lt_size e))];exact n
   ·rw[upd_ne (ai e hn)];exact e
   ·rw[upd_ne (ai e hn)];exact e
   ·rw[upd_ne (ai e hn),e];simp
   ·obtain⟨o,es',ep,ho,r⟩:=hm
    exact⟨o,es',ep,k1 _ o (fun z=>(hf _ z).2.1 rfl) ho,r⟩
   ·by_cases hb:b=s.heap.objs.size
    ·subst hb
     rw[ar]at e
     cases e
     exact⟨(by show 2≤sizeLine;decide),[u,v],.cons ru (.cons rv .nil),⟨_,hT'',rfl,_,rfl⟩⟩
    ·rw[upd_ne hb]at e
     refine (I1.hok b o e).stay (fun c v hc q=>q) (fun c q=>by rw[upd_ne (ai q hn)];exact q) fun c ys q=>by rw[upd_ne (ai q hn)];exact q
  refine⟨.ref s.heap.objs.size,_,I2,rfl,⟨_,x,y,hx,hy,hn,rfl,rfl⟩,⟨hz'',?_,⟨u,v,hs''.extBut _ _ R.TOz hTO'⟩,ZS.st_keep st1' (fun o e=>hs''.extBut _ _ R.i1z e),ZS.st_keep st2' (fun o e=>hs''.extBut _ _ R.i2z e)⟩,fun c hc=>?_⟩
  ·exact hs''.extBut _ _ R.TIz (hk _ _ R.TIz R.TITO R.TIi1 R.TIi2 h2)
  ·rw[upd_ne (aao (fl c hc))];exact (hf c hc).1
 done:=by
  intro X hP hw hK hc i pins s σ H E I hf ⟨h1,h2,⟨p,q,h3⟩,h4,h5⟩ hg
  subst hP hw hK
  obtain⟨oka,okb,hend⟩:=hg
  have hh:X.A.in1.handled=none:=I.ok.hd hc
  obtain⟨src1,hs1,S1,ap1⟩:=a.sub I oka ra X.A.in1 hh i1
  obtain⟨src2,hs2,S2,ap2⟩:=b.sub I okb rb X.A.in1 hh i2
  have D:ZApart z TI TO i1 i2 a.sl b.sl:=⟨R.TIz,R.TOz,R.i1z,R.i2z,R.TITO,R.TIi1,R.TIi2,R.TOi1,R.TOi2,R.i12,
   fun c hc=>⟨aI I (hf z (by simp)) ap1 c hc,aI I (hf TO (by simp)) ap1 c hc,aI I (hf i1 (by simp)) ap1 c hc,aI I (hf i2 (by simp)) ap1 c hc⟩,
   fun c hc=>⟨aI I (hf z (by simp)) ap2 c hc,aI I (hf TO (by simp)) ap2 c hc,aI I (hf i1 (by simp)) ap2 c hc,aI I (hf i2 (by simp)) ap2 c hc⟩⟩
  refine pD D S1 S2 h1 h2 h3 h4 h5 hs1 hs2 hend fun h' tk hk=>⟨rfl,I.turnedL (fun c o hc e=>?_) hf⟩
  simp only[aac,aak,or_false,not_or]at hc
  exact hk c o hc.1 hc.2.2.1 hc.2.2.2.1 hc.2.2.2.2 e
 self:=fun _ _ _ _ _ ⟨h1,_⟩ h=>wpAny_pyIter_zip h1 h
theorem gK(v1 v2:Value)(o1 o2:Obj)(src1 src2:Heap->Prop)(fr2:∀h o,src2 h->src2 (h.push o))
  (p1:∀(prog:Program) (w:World) (A:Around) (E:Value->Shared->Prop) (s:Shared) (Q:Value->Shared->Prop),src1 s.heap->Q (.ref s.heap.objs.size) { s with heap:=s.heap.push o1 }->wpAny (model prog w) A (pyIter v1) Q E s)
  (p2:∀(prog:Program) (w:World) (A:Around) (E:Value->Shared->Prop) (s:Shared) (Q:Value->Shared->Prop),src2 s.heap->Q (.ref s.heap.objs.size) { s with heap:=s.heap.push o2 }->wpAny (model prog w) A (pyIter v2) Q E s) :
  Meets (Builtin.«zip.__new__» ⟨[.type "zip",v1,v2],[]⟩) (fun _ R s=>src1 s.heap/\src2 s.heap /\
   R (.ok (.ret (.ref ((((s.heap.push o1).push o2).push { cls:=.type "tuple",data:=.seq #[.ref s.heap.objs.size,.ref (s.heap.push o1).objs.size] }).push { cls:=.type "tuple",data:=.seq #[.none,.none] }).objs.size)))
    { s with heap:=((((s.heap.push o1).push o2).push { cls:=.type "tuple",data:=.seq #[.ref s.heap.objs.size,.ref (s.heap.push o1).objs.size] }).push { cls:=.type "tuple",data:=.seq #[.none,.none] }).push { cls:=.type "zip",data:=.fields #[.none,.bool false,.bool false,.ref ((s.heap.push o1).push o2).objs.size,.ref (((s.heap.push o1).push o2).push { cls:=.type "tuple",data:=.seq #[.ref s.heap.objs.size,.ref (s.heap.push o1).objs.size] }).objs.size] } }) :=
 .of_wp fun prog w A R s h=>by
  obtain⟨hp,g,d,tk,os⟩:=s;obtain⟨hl1,hl2,h⟩:=h
  have hsub:=sub_zip
  have q1:∀{A:Around} {E:Value->Shared->Prop} {Q:Value->Shared->Prop},Q (.ref hp.objs.size) ⟨hp.push o1,g,d,tk,os⟩->wpAny (model prog w) A (pyIter v1) Q E ⟨hp,g,d,tk,os⟩:=fun hQ=>p1 _ _ _ _ ⟨hp,g,d,tk,os⟩ _ hl1 hQ
  have q2:∀{A:Around} {E:Value->Shared->Prop} {Q:Value->Shared->Prop},Q (.ref (hp.push o1).objs.size) ⟨(hp.push o1).push o2,g,d,tk,os⟩->wpAny (model prog w) A (pyIter v2) Q E ⟨hp.push o1,g,d,tk,os⟩:=fun hQ=>p2 _ _ _ _ ⟨hp.push o1,g,d,tk,os⟩ _ (fr2 _ _ hl2) hQ
  wp_walk using q1,q2
  exact⟨_,rfl,h⟩
end
section
theorem boot_zip:bootBuiltins "zip"=some (.type "zip"):=by decide +kernel
section
variable{X:Cx}
theorem ZS.iter(a:ZS)(I:Inv X pins σ H s)(ok:a.ok X.K H)(rv:RelV a.val v) :
  ∃src:Heap->Prop,src s.heap/\(∀h o,src h->src (h.push o)) /\
   ∀(prog:Program) (w:World) (A:Around) (E:Value->Shared->Prop) (s:Shared) (Q:Value->Shared->Prop),src s.heap->Q (.ref s.heap.objs.size) { s with heap:=s.heap.push (a.rcd v) }->wpAny (model prog w) A (pyIter v) Q E s:=by
 cases a with
 | lst l xs =>
  obtain⟨its,r,p,hz⟩:=I.list (show SqL X.K H l xs from ok)
  cases rv
  exact⟨fun h=>h.IsList l its.toArray,p.isList,fun h o x=>x.push o,fun prog w A E s Q h q=>wpAny_pyIter_list h q⟩
 | tup l xs =>
  obtain⟨its,r,p,hz⟩:=I.tuple (show SqT X.K H l xs from ok)
  cases rv
  exact⟨fun h=>h.IsTuple l its.toArray,p,fun h o x=>x.push o,fun prog w A E s Q h q=>wpAny_pyIter_tuple h q⟩
 | str z =>
  obtain⟨t,rfl⟩:=rv
  exact⟨fun _=>True,trivial,fun _ _ _=>trivial,fun prog w A E s Q _ q=>wpAny_pyIter_strU q⟩
theorem ZS.st0(a:ZS)(rv:RelV a.val v)(e:h.get? i=some (a.rcd v)):a.st v i 0 h:=by
 cases a with
 | lst l xs=>cases rv;exact⟨_,e,rfl,rfl⟩
 | tup l xs=>cases rv;exact⟨_,e,rfl,rfl⟩
 | str z=>obtain⟨t,rfl⟩:=rv;exact⟨_,e,rfl,rfl⟩
theorem kn(a:ZS)(v:Value):(a.rcd v).isFreed=false:=by cases a<;>rfl
def D6(K:WF)(ta:TA):TI:=fun σ H R=>ta σ H fun vs H1=>∃a b:ZS,vs=[a.val,b.val]/\a.ok K H1/\b.ok K H1/\R (D5 K a b) H1
theorem addNe(h:i≠j):(n + i:Addr)≠n + j:=fun e=>h (aca e)
theorem addNe0(h:i≠0):(n + i:Addr)≠n:=fun e=>h (aca e)
theorem yE {es:List Expr} {x1} {tpos:Pos} {a b:Expr} {p pos:Pos} (hg:Gl X "zip") (hm:X.mg "zip"=none) (ha:PA X [a,b] ta) (hs:starEach [a,b] X.env=[(false,eval a X.env),(false,eval b X.env)]:=by rfl) (hs2:starEach [b] X.env=[(false,eval b X.env)]:=by rfl) :
  PI X (.Tuple es x1 tpos) (.Call (.Name "zip" p) [a,b] [] pos) (D6 X.K ta):=by
 intro pins s σ H R I h
 refine Call_ (fH I hg hm boot_zip (abl (thn (ha pos pins s σ H _ I h) fun us s1 hZ=>?_) (by rw[hs,hs2]) (by rw[hs2];rfl)))
 obtain⟨vs,H1,I1,r1,q1⟩:=hZ
 obtain⟨za,zb,e,oka,okb,q⟩:=q1
 subst e
 obtain⟨ua,ub,rfl,ra,rb⟩:=r1.two
 obtain⟨src1,h1,_,p1⟩:=za.iter I1 oka ra
 obtain⟨src2,h2,fr2,p2⟩:=zb.iter I1 okb rb
 refine callType_new F.called_zip (by decide) (F.typeCall_zip_2 _ _) (F.newCall_zip_2 _ _) (fun obj=>F.args_object_init_3 obj _ _) F.entry_zip_new
  (gK ua ub (za.rcd ua) (zb.rcd ub) src1 src2 fr2 p1 p2) ⟨h1,h2,?_⟩
 generalize hA:s1.heap.push (za.rcd ua)=A1
 generalize hB:A1.push (zb.rcd ub)=A2
 generalize hC:A2.push { cls:=.type "tuple",data:=.seq #[.ref s1.heap.objs.size,.ref A1.objs.size] }=A3
 generalize hD:A3.push { cls:=.type "tuple",data:=.seq #[.none,.none] }=A4
 generalize hE:A4.push { cls:=.type "zip",data:=.fields #[.none,.bool false,.bool false,.ref A2.objs.size,.ref A3.objs.size] }=A5
 have z1:A1.objs.size=s1.heap.objs.size + 1:=by rw[<- hA];exact Heap.size_push ..
 have z2:A2.objs.size=s1.heap.objs.size + 2:=by rw[<- hB,Heap.size_push,z1]
 have z3:A3.objs.size=s1.heap.objs.size + 3:=by rw[<- hC,Heap.size_push,z2]
 have z4:A4.objs.size=s1.heap.objs.size + 4:=by rw[<- hD,Heap.size_push,z3]
 have g5:A5.get? A4.objs.size=some { cls:=.type "zip",data:=.fields #[.none,.bool false,.bool false,.ref A2.objs.size,.ref A3.objs.size] }:=by rw[<- hE];exact Heap.get?_push_size _ rfl
 have u5:∀c o,A4.get? c=some o->A5.get? c=some o:=fun c o e=>by rw[<- hE];exact Heap.get?_push_of_some _ e
 have u4:∀c o,A3.get? c=some o->A5.get? c=some o:=fun c o e=>u5 c o (by rw[<- hD];exact Heap.get?_push_of_some _ e)
 have u3:∀c o,A2.get? c=some o->A5.get? c=some o:=fun c o e=>u4 c o (by rw[<- hC];exact Heap.get?_push_of_some _ e)
 have u2:∀c o,A1.get? c=some o->A5.get? c=some o:=fun c o e=>u3 c o (by rw[<- hB];exact Heap.get?_push_of_some _ e)
 have u1:∀c o,s1.heap.get? c=some o->A5.get? c=some o:=fun c o e=>u2 c o (by rw[<- hA];exact Heap.get?_push_of_some _ e)
 have g4:A5.get? A3.objs.size=some { cls:=.type "tuple",data:=.seq #[.none,.none] }:=u5 _ _ (by rw[<- hD];exact Heap.get?_push_size _ rfl)
 have g3:A5.get? A2.objs.size=some { cls:=.type "tuple",data:=.seq #[.ref s1.heap.objs.size,.ref A1.objs.size] }:=u4 _ _ (by rw[<- hC];exact Heap.get?_push_size _ rfl)
 have g2:A5.get? A1.objs.size=some (zb.rcd ub):=u3 _ _ (by rw[<- hB];exact Heap.get?_push_size _ (kn _ _))
 have g1:A5.get? s1.heap.objs.size=some (za.rcd ua):=u2 _ _ (by rw[<- hA];exact Heap.get?_push_size _ (kn _ _))
 refine⟨⟨_,g5,rfl⟩,?_⟩
 have ez:IsZip A5 A4.objs.size A2.objs.size A3.objs.size .none:=g5
 refine wpAny_pyIter_zip ez ?_
 have R:ZRec A4.objs.size A2.objs.size A3.objs.size s1.heap.objs.size A1.objs.size:=by
  rw[z1,z2,z3,z4]
  refine⟨?_,?_,?_,?_,?_,?_,?_,?_,?_,?_⟩<;>first | exact addNe (by decide) | exact addNe0 (by decide) | exact (addNe0 (by decide)).symm
 have I5:Inv X pins σ H1 { s1 with heap:=A5 }:=I1.kept u1
 refine⟨A4.objs.size,[A4.objs.size,A2.objs.size,A3.objs.size,s1.heap.objs.size,A1.objs.size],_,_,H1,rfl,I5,qU za zb ua ub ra rb _ _ _ _ _ R,
  ⟨ez,g3,⟨_,_,g4⟩,za.st0 ra g1,zb.st0 rb g2⟩,fun b hb=>?_,q⟩
 have hb':s1.heap.objs.size≤b:=by
  simp only[aac,aak,or_false]at hb
  rcases hb with rfl | rfl | rfl | rfl | rfl<;>first | exact aaf _ | (rw[z4];exact aa7 _ _) | (rw[z3];exact aa7 _ _) | (rw[z2];exact aa7 _ _) | (rw[z1];exact aa7 _ _)
 exact I1.fpOk hb' (I1.hok.fresh hb')
end
section
variable{X:Cx}
theorem uN:∀{us:List Value},Vals (bs.map V.bl) us->LSm.BoolsAre us bs:=by
 induction bs with
 | nil=>intro us r;rw[aaG]at r;cases r;exact .nil
 | cons b bs ih =>
  intro us r
  rw[aal]at r
  cases r with
  | cons r1 r2=>cases r1;exact .cons b (ih r2)
theorem qV(hc:X.calm=true):bN X (.builtin "all") (fun xs H Q=>∃(p:Addr) (bs:List Bool),xs=[.ref p]/\SqL X.K H p (bs.map V.bl)/\Q (.bl (bs.all id)) H):=by
 intro pins s σ H xs us Q I r h
 obtain⟨p,bs,rfl,hq,q⟩:=h
 obtain⟨u,rfl,rx⟩:=vals1 r
 cases rx
 obtain⟨its,r',pl,hz⟩:=I.list hq
 obtain⟨m,F⟩:=I.fr
 have hlt:p < s.heap.objs.size:=by obtain⟨_,_,e,_⟩:=pl;exact Heap.lt_size e
 have hb:=uN r'
 refine call_all_walk (wpAny_pyIter_list pl.isList ?_)
 refine⟨s.heap.objs.size,[s.heap.objs.size,p],[s.heap.objs.size],its.toArray.size,_,_,fun i=>(bs[i]?).getD true,rfl,Walks.list (A:=X.A.in1) (I.ok.hd hc) _ p (aao hlt) its.toArray,
  ⟨⟨_,Heap.get?_push_size _ rfl,rfl,rfl⟩,pl.isList.push _⟩,fun i v s' Q' E' hP hQ=>?_,fun h' tk hk=>?_⟩
 ·obtain⟨b,e,rfl⟩:=hb.get i v (by simpa using hP)
  simp only[e,abw]at hQ
  exact wpAny_truthy_bool hQ
 ·have e:((List.range its.toArray.size).all fun i=>(bs[i]?).getD true)=bs.all id:=by
   rw[aaw,hb.length];exact LSm.range_all bs
  rw[e]
  exact⟨.bl (bs.all id),H,I.kept (LSm.kept_iter hk),rfl,q⟩
end
end
section
mutual
inductive Dt (K:WF)(H:Hp):V->PyData->Prop
 | non:Dt K H .non .none
 | bl (b:Bool):Dt K H (.bl b) (.bool b)
 | int (i:Int):Dt K H (.int i) (.int i)
 | str (x:Str):Dt K H (.str x) (.str x)
 | lst {a xs ds}:SqL K H a xs->DtAll K H xs ds->Dt K H (.ref a) (.list ds)
 | tup {a xs ds}:SqT K H a xs->DtAll K H xs ds->Dt K H (.ref a) (.tuple ds)
inductive DtAll (K:WF)(H:Hp):List V->List PyData->Prop
 | nil:DtAll K H [] []
 | cons {x d xs ds}:Dt K H x d->DtAll K H xs ds->DtAll K H (x::xs) (d::ds)
end
theorem DtAll.length{K:WF}(h:DtAll K H xs ds):xs.length=ds.length:=by
 induction xs generalizing ds with
 | nil=>cases h;rfl
 | cons v vs ih=>cases h with | cons _ t=>rw[aap,aap,ih t]
theorem DtAll.ints{K:WF}:∀(ns:List Int),DtAll K H (ns.map V.int) (ns.map PyData.int)
 | []=>.nil
 | n::ns=>.cons (.int n) (DtAll.ints ns)
theorem Same.tupS{K:WF}{H H':Hp}(e:Same H H')(h:SqT K H a xs):SqT K H' a xs:=by
 rcases h with (h | ⟨o,h⟩) | h
 ·exact .inl (.inl (e _ _ h))
 ·exact .inl (.inr ⟨o,e _ _ h⟩)
 ·exact .inr h
theorem Dt.ind{K:WF}{P:V->PyData->Prop}{Q:List V->List PyData->Prop}(non:P .non .none)(bl:∀b,P (.bl b) (.bool b))(int:∀i,P (.int i) (.int i))(str:∀x,P (.str x) (.str x))
  (lst:∀{a xs ds},SqL K H a xs->Q xs ds->P (.ref a) (.list ds)) (tup:∀{a xs ds},SqT K H a xs->Q xs ds->P (.ref a) (.tuple ds)) (nil:Q [] []) (cons:∀{x d xs ds},P x d->Q xs ds->Q (x::xs) (d::ds)) :
  (∀{v d},Dt K H v d->P v d)/\∀{vs ds},DtAll K H vs ds->Q vs ds :=
 ⟨fun h=>Dt.rec non bl int str (fun h _ i=>lst h i) (fun h _ i=>tup h i) nil (fun _ _ i j=>cons i j) h,
  fun h=>DtAll.rec non bl int str (fun h _ i=>lst h i) (fun h _ i=>tup h i) nil (fun _ _ i j=>cons i j) h⟩
section
variable{X:Cx}{pins:List (Addr × Obj)}{σ:St}{H:Hp}{s:Shared}
theorem Dt.reads_(I:Inv X pins σ H s):(∀{x:V} {d:PyData},Dt X.K H x d->∀{u:Value},RelV x u->∃as,Reads s.heap u d as)/\∀{xs:List V} {ds:List PyData},DtAll X.K H xs ds->∀{us:List Value},Vals xs us->∃as,ReadsAll s.heap us ds as:=by
 refine Dt.ind (P:=fun x d=>∀{u:Value},RelV x u->∃as,Reads s.heap u d as) ?_ ?_ ?_ ?_ ?_ ?_ ?_ ?_
 ·intro u r;cases r;exact⟨_,.none⟩
 ·intro b u r;cases r;exact⟨_,.bool b⟩
 ·intro i u r;obtain⟨t,rfl⟩:=r;exact⟨_,.int i t⟩
 ·intro x u r;obtain⟨t,rfl⟩:=r;exact⟨_,.str x t⟩
 ·intro a xs ds h i u r
  cases r
  obtain⟨its,rv,⟨o,n,e,hc,_,hd⟩,_⟩:=I.list h
  obtain⟨as,q⟩:=i rv
  exact⟨_,.list e hc hd (by simpa using q)⟩
 ·intro a xs ds h i u r
  cases r
  obtain⟨its,rv,⟨o,e,hc,n,hd⟩,_⟩:=I.tuple h
  obtain⟨as,q⟩:=i rv
  exact⟨_,.tuple e hc hd (by simpa using q)⟩
 ·intro us r;cases r;exact⟨_,.nil⟩
 ·intro x d xs ds i j us r
  cases r with
  | cons r1 r2 =>
   obtain⟨as,q⟩:=i r1
   obtain⟨bs,p⟩:=j r2
   exact⟨_,.cons q p⟩
theorem Dt.reads(I:Inv X pins σ H s)(h:Dt X.K H x d)(r:RelV x u):∃as,Reads s.heap u d as:=(Dt.reads_ I).1 h r
end
mutual
theorem eqv_refl:∀(d:PyData),d.canLay0=true->PyData.eqv d d=true
 | .none,_=>by simp[PyData.eqv]
 | .bool b,_=>by simp[PyData.eqv]
 | .int i,_=>by simp[PyData.eqv]
 | .str x,_=>by simp[PyData.eqv]
 | .list xs,h=>by simp only[PyData.eqv];exact eqvAll_refl xs (by simpa [PyData.canLay0] using h)
 | .tuple xs,h=>by simp only[PyData.eqv];exact eqvAll_refl xs (by simpa [PyData.canLay0] using h)
 | .dict _,h=>by simp[PyData.canLay0]at h
theorem eqvAll_refl:∀(ds:List PyData),PyData.canLayAll0 ds=true->PyData.eqvAll ds ds=true
 | [],_=>by simp[PyData.eqvAll]
 | d::ds,h=>by
  simp only[PyData.canLayAll0,aaB]at h
  simp only[PyData.eqvAll,aaB]
  exact⟨eqv_refl d h.1,eqvAll_refl ds h.2⟩
end
section
variable{X:Cx}
def AX(K:WF):R2:=fun x y H Q=>∃da db,Dt K H x da/\Dt K H y db/\SeqAt.shaped da=true/\SeqAt.shaped db=true/\Q (.bl (PyData.eqv da db)) H
def AY(K:WF):R2:=fun x y H Q=>∃da db,Dt K H x da/\Dt K H y db/\SeqAt.shaped da=true/\SeqAt.shaped db=true/\Q (.bl (!PyData.eqv da db)) H
theorem yF(hu:X.A.units + 64 < cLine):OpR X (compareOp .Eq) (AX X.K):=by
 intro pins s σ H x y v u Q I rx ry h
 obtain⟨da,db,ra,rb,sa,sb,q⟩:=h
 obtain⟨as,r1⟩:=ra.reads I rx
 obtain⟨bs,r2⟩:=rb.reads I ry
 exact eq_dataH r1 r2 sa sb hu ⟨.bl _,H,I,rfl,q⟩
theorem yG(hu:X.A.units + 64 < cLine):OpR X (compareOp .NotEq) (AY X.K):=by
 intro pins s σ H x y v u Q I rx ry h
 obtain⟨da,db,ra,rb,sa,sb,q⟩:=h
 obtain⟨as,r1⟩:=ra.reads I rx
 obtain⟨bs,r2⟩:=rb.reads I ry
 exact ne_dataH r1 r2 sa sb hu ⟨.bl _,H,I,rfl,q⟩
theorem kit_same(K:WF)(T:String):PySem.W.kitOne K (.type T) (.type T)=some true:=by
 unfold PySem.W.kitOne
 rw[if_pos (by simp)]
theorem kit_tl(K:WF):PySem.W.kitOne K (.type "tuple") (.type "list")=some false:=by kernel_rfl
theorem kit_bi(K:WF):PySem.W.kitOne K (.type "bool") (.type "int")=some true:=by kernel_rfl
theorem kit_ib(K:WF):PySem.W.kitOne K (.type "int") (.type "bool")=some false:=by kernel_rfl
theorem kit_il(K:WF):PySem.W.kitOne K (.type "int") (.type "list")=some false:=by kernel_rfl
theorem kit_it(K:WF):PySem.W.kitOne K (.type "int") (.type "tuple")=some false:=by kernel_rfl
theorem kit_sl(K:WF):PySem.W.kitOne K (.type "str") (.type "list")=some false:=by kernel_rfl
theorem kit_st(K:WF):PySem.W.kitOne K (.type "str") (.type "tuple")=some false:=by kernel_rfl
theorem kit_si(K:WF):PySem.W.kitOne K (.type "str") (.type "int")=some false:=by kernel_rfl
theorem kit_bl(K:WF):PySem.W.kitOne K (.type "bool") (.type "list")=some false:=by kernel_rfl
theorem kit_bt(K:WF):PySem.W.kitOne K (.type "bool") (.type "tuple")=some false:=by kernel_rfl
theorem kit_bs(K:WF):PySem.W.kitOne K (.type "bool") (.type "str")=some false:=by kernel_rfl
theorem kit_nl(K:WF):PySem.W.kitOne K (.type "NoneType") (.type "list")=some false:=by kernel_rfl
theorem kit_nt(K:WF):PySem.W.kitOne K (.type "NoneType") (.type "tuple")=some false:=by kernel_rfl
theorem kit_ni(K:WF):PySem.W.kitOne K (.type "NoneType") (.type "int")=some false:=by kernel_rfl
theorem kit_li(K:WF):PySem.W.kitOne K (.type "list") (.type "int")=some false:=by kernel_rfl
theorem kit_ti(K:WF):PySem.W.kitOne K (.type "tuple") (.type "int")=some false:=by kernel_rfl
inductive Ty (K:WF)(H:Hp):V->String->Prop
 | non:Ty K H .non "NoneType"
 | bl (b:Bool):Ty K H (.bl b) "bool"
 | int (i:Int):Ty K H (.int i) "int"
 | str (x:Str):Ty K H (.str x) "str"
 | lst {a xs}:SqL K H a xs->Ty K H (.ref a) "list"
 | tup {a xs}:SqT K H a xs->Ty K H (.ref a) "tuple"
theorem Ty.kitx(I:Inv X pins σ H s)(ty:Ty X.K H x n)(rx:RelV x u) :
  ∃Z:Heap->Prop,PySem.W.KitX X.K u (.type n) Z/\Z s.heap/\u≠.builtin "__main__.__loader__#opaque":=by
 cases ty with
 | non=>cases rx;exact⟨_,PySem.W.kitx_none,trivial,fun z=>nomatch z⟩
 | bl b=>cases rx;exact⟨_,PySem.W.kitx_bool,trivial,fun z=>nomatch z⟩
 | int i=>obtain⟨t,rfl⟩:=rx;exact⟨_,PySem.W.kitx_int,trivial,fun z=>nomatch z⟩
 | str x=>obtain⟨t,rfl⟩:=rx;exact⟨_,PySem.W.kitx_str,trivial,fun z=>nomatch z⟩
 | lst h =>
  cases rx
  obtain⟨its,_,⟨o,n,e,hc,_⟩,_⟩:=I.list h
  exact⟨_,PySem.W.kitx_list,⟨o,e,hc⟩,fun z=>nomatch z⟩
 | tup h =>
  cases rx
  obtain⟨its,_,⟨o,e,hc,_⟩,_⟩:=I.tuple h
  exact⟨_,PySem.W.kitx_tuple,⟨o,e,hc⟩,fun z=>nomatch z⟩
theorem qW(T:String):bN X (.builtin "isinstance") (fun xs H Q=>∃x n b,xs=[x,.ty T]/\Ty X.K H x n/\PySem.W.kitOne X.K (.type n) (.type T)=some b/\Q (.bl b) H):=by
 intro pins s σ H xs us Q I r h
 obtain⟨x,n,b,rfl,ty,e,q⟩:=h
 obtain⟨u,v,rfl,rx,ry⟩:=r.two
 cases ry
 obtain⟨Z,kx,z,ne⟩:=ty.kitx I rx
 exact PySem.W.kia_one kx I.kIn z e ne fun tk=>⟨.bl b,H,I.tok _,rfl,q⟩
theorem pF(S T:String):bN X (.builtin "isinstance") (fun xs H Q=>∃x n b p,xs=[x,.ref p]/\H p=some (.tup [.ty S,.ty T])/\Ty X.K H x n/\PySem.W.kitAny X.K (.type n) [.type S,.type T]=some b/\Q (.bl b) H):=by
 intro pins s σ H xs us Q I r h
 obtain⟨x,n,b,p,rfl,hp,ty,e,q⟩:=h
 obtain⟨u,v,rfl,rx,ry⟩:=r.two
 cases ry
 obtain⟨Z,kx,z,ne⟩:=ty.kitx I rx
 obtain⟨_,its,rv,⟨⟨c,dd,dt,sl⟩,eo,hc,nn,hd⟩⟩:=I.hok p _ hp
 obtain⟨u1,u2,rfl,r1,r2⟩:=rv.two
 cases r1
 cases r2
 replace hc:c=.type "tuple":=hc
 replace hd:dt=.seq [Value.type S,Value.type T].toArray nn:=hd
 subst hc hd
 exact PySem.W.kia_tup kx I.kIn z eo e ne fun tk=>⟨.bl b,H,I.tok _,rfl,q⟩
theorem gL(K:WF)(h1:PySem.W.kitOne K (.type n) (.type S)=some true\/(PySem.W.kitOne K (.type n) (.type S)=some false/\PySem.W.kitOne K (.type n) (.type T)=some true)) :
  PySem.W.kitAny K (.type n) [.type S,.type T]=some true:=by
 rcases h1 with h | ⟨h,h'⟩
 ·simp[PySem.W.kitAny,h]
 ·simp[PySem.W.kitAny,h,h']
theorem dO(K:WF)(h:PySem.W.kitOne K (.type n) (.type S)=some false)(h':PySem.W.kitOne K (.type n) (.type T)=some false) :
  PySem.W.kitAny K (.type n) [.type S,.type T]=some false:=by
 simp[PySem.W.kitAny,h,h']
end
end
section
section
variable{X:Cx}{pos:Pos}
def AZ(i j k:Nat)(ta:TA):TS:=fun D σ H=>ta σ H fun vs H1=>∃v w u,vs=[v,w,u]/\D.nx (((σ.set i (some v)).set j (some w)).set k (some u)) H1
theorem uO{kt k2 pt2}(hc:X.calm=true)(hN:X.N.Nodup)(hi:X.N[i]?=some x)(hj:X.N[j]?=some y)(hk:X.N[k]?=some z)(hij:i≠j)(hik:i≠k)(hjk:j≠k)
  (hx:X.env.scope.names.lookup x=some .local) (hy:X.env.scope.names.lookup y=some .local) (hz:X.env.scope.names.lookup z=some .local) (ha:PA X [a,b,c] ta)
  (hw:swappedStores [.Tuple [.Name x px,.Name y py,.Name z pz] kt pt] (.Tuple [a,b,c] k2 pt2) X.env=pure (some [x,y,z]))
  (hs:swapsWithSole [.Tuple [.Name x px,.Name y py,.Name z pz] kt pt] (.Tuple [a,b,c] k2 pt2) pos.line X.env=pure false:=by rfl) :
  PS X (.Assign [.Tuple [.Name x px,.Name y py,.Name z pz] kt pt] (.Tuple [a,b,c] k2 pt2) pos) (AZ i j k ta):=by
 intro pins s σ H D I h
 rw[exec_Assign_arm]
 refine wpAny_bind (wpAny_standAt ?_)
 rw[hs]
 refine wpAny_bind (wpAny_pure ?_)
 rw[if_neg (by decide)]
 refine wpAny_bind (Tuple_ (thn (ha _ pins s σ H _ I h) fun us s1 ⟨vs,H1,I1,r1,q1⟩=>?_))
 obtain⟨v,w,u,e1,q1⟩:=q1
 subst e1
 obtain⟨u1,u2,u3,rfl,rv,rw',ru⟩:∃u1 u2 u3,us=[u1,u2,u3]/\RelV v u1/\RelV w u2/\RelV u u3:=by
  cases r1 with
  | cons p q =>
   cases q with
   | cons p' q' =>
    cases q' with
    | cons p'' q'' =>
     cases q''
     exact⟨_,_,_,rfl,p,p',p''⟩
 refine wpAny_newObj_type ?_ (by show 3≤sizeLine;decide)
 have I2:Inv X pins σ H1 { s1 with heap:=s1.heap.push { cls:=.type "tuple",data:=.seq [u1,u2,u3].toArray } }:=I1.kept fun b o e=>Heap.get?_push_of_some _ e
 rw[hw]
 refine wpAny_bind (wpAny_pure ?_)
 show wpAny (model X.prog X.w) X.A (do rule "assign.swapped-stores";let items <- unpackItems (.ref s1.heap.objs.size) 3 none;assignInOrder [fun v=>bindName X.env z v,fun v=>bindName X.env y v,fun v=>bindName X.env x v] items.reverse;pure Flow.next) _ _ _
 refine wpAny_bind (wpAny_rule (wpAny_bind (unpackItems_tuple (items:=#[u1,u2,u3]) (I.ok.hd hc) (IsTup.new s1.heap _) fun h' hx'=>?_)))
 have I3:=I2.kept (t':=s1.toks) fun b o e=>hx' b o (aao (Heap.lt_size e)) e
 show wpAny _ _ (assignInOrder [fun v=>bindName X.env z v,fun v=>bindName X.env y v,fun v=>bindName X.env x v] [u3,u2,u1] >>= fun _=>pure Flow.next) _ _ _
 refine wpAny_bind (assignInOrder_cons (wpAny_bindName (bA I3 hN hk (.inl hz) ru (fun s2 I4=>?_) (.inr hz))))
 refine assignInOrder_cons (wpAny_bindName (bA I4 hN hj (.inl hy) rw' (fun s3 I5=>?_) (.inr hy)))
 refine assignInOrder_cons (wpAny_bindName (bA I5 hN hi (.inl hx) rv (fun s4 I6=>assignInOrder_nil (wpAny_pure ?_)) (.inr hx)))
 have e:((σ.set k (some u)).set j (some w)).set i (some v)=((σ.set i (some v)).set j (some w)).set k (some u):=by
  rw[abk _ _ (aaF hij),abk _ _ (aaF hik),abk _ _ (aaF hjk)]
 rw[e]at I6
 exact⟨_,H1,I6,q1⟩
end
def Keep(S:List Addr)(H H':Hp):Prop:=∀b o,H b=some o->b ∉ S->H' b=some o
theorem Keep.same(a:Keep [] H H'):Same H H':=fun b o h=>a b o h (by simp)
end
section
theorem qX:bootBuiltins "len"=some (.builtin "len"):=by decide +kernel
theorem yH:bootBuiltins "abs"=some (.builtin "abs"):=by decide +kernel
theorem qY:bootBuiltins "max"=some (.builtin "max"):=by decide +kernel
theorem yI:bootBuiltins "min"=some (.builtin "min"):=by decide +kernel
theorem yJ:bootBuiltins "all"=some (.builtin "all"):=by decide +kernel
theorem em:bootBuiltins "isinstance"=some (.builtin "isinstance"):=by decide +kernel
theorem qZ:bootBuiltins "int"=some (.type "int"):=by decide +kernel
theorem uP:bootBuiltins "bool"=some (.type "bool"):=by decide +kernel
theorem yK:bootBuiltins "str"=some (.type "str"):=by decide +kernel
theorem jo:bootBuiltins "list"=some (.type "list"):=by decide +kernel
theorem gM:bootBuiltins "tuple"=some (.type "tuple"):=by decide +kernel
section
variable{H:Hp}{Q:VK}{K:WF}{x y v:V}{i j:Int}{p l:Addr}{xs:List V}
theorem lQ(h:n≤1000000):n≤sizeLine:=aan h (by decide)
end
end
section
section
variable{κ:Type}[DecidableEq κ]
def valV(kvs:List (κ × V))(k:κ):Option V:=(kvs.find? fun kv=>decide (kv.1=k)).map (·.2)
def putK(kvs:List (κ × V))(k:κ)(v:V):List (κ × V) :=
 if (kvs.any fun kv=>decide (kv.1=k))=true then kvs.map (fun kv=>if kv.1=k then (kv.1,v) else kv) else kvs++[(k,v)]
theorem dm{k:κ}(e:p.1=k):valV (p::r) k=some p.2:=by simp[valV,aaS,e]
theorem gP{k:κ}(e:¬ p.1=k):valV (p::r) k=valV r k:=by simp[valV,aaS,e]
theorem gQ(k:κ):∀kvs:List (κ × V),(kvs.any fun kv=>decide (kv.1=k))=(valV kvs k).isSome
 | []=>rfl
 | p::r=>by
  rw[aaO]
  by_cases e:p.1=k
  ·simp only[dm e,decide_eq_true e,Bool.true_or,Option.isSome_some]
  ·rw[gP e,decide_eq_false e,abM];exact gQ k r
theorem f6(kvs:List (κ × V))(k:κ)(v:V):(putK kvs k v).length≤kvs.length + 1:=by
 unfold putK
 split
 ·rw[aaa];omega
 ·rw[aam,aap,aaL];omega
theorem putK_new{k:κ}(v:V)(h:valV kvs k=none):putK kvs k v=kvs++[(k,v)]:=by
 unfold putK
 rw[gQ,h]
 exact if_neg (by decide)
theorem RelO.isSome_eq(r:RelO o u):o.isSome=u.isSome:=by
 cases o with
 | none=>cases u with
  | none=>rfl
  | some _=>exact (show False from r).elim
 | some _=>cases u with
  | none=>exact (show False from r).elim
  | some _=>rfl
theorem KV.val(r:KV kvs vs)(k:κ):RelO (valV kvs k) (valueAt vs k):=by
 unfold KV at r
 induction r with
 | nil=>exact True.intro
 | @cons p q ps qs h t ih =>
  obtain⟨h1,h2⟩:=h
  by_cases e:p.1=k
  ·have e':q.1=k:=h1.symm.trans e
   have b:valueAt (q::qs) k=some q.2:=by simp[valueAt,aaS,e']
   rw[dm e,b];exact h2
  ·have e':¬ q.1=k:=fun z=>e (h1.trans z)
   have b:valueAt (q::qs) k=valueAt qs k:=by simp[valueAt,aaS,e']
   rw[gP e,b];exact ih
theorem KV.any{vs:List (κ × Value)}(r:KV kvs vs)(k:κ):(kvs.any fun kv=>decide (kv.1=k))=vs.any fun kv=>decide (kv.1=k):=by
 unfold KV at r
 induction r with
 | nil=>rfl
 | cons h t ih=>rw[aaO,aaO,ih,h.1]
theorem KV.repl(r:KV kvs vs)(k:κ)(ry:RelV y u) :
  KV (kvs.map fun kv=>if kv.1=k then (kv.1,y) else kv) (vs.map fun kv=>if kv.1=k then (kv.1,u) else kv):=by
 unfold KV at r ⊢
 induction r with
 | nil=>exact .nil
 | @cons p q ps qs h t ih =>
  rw[aal,aal]
  refine .cons ?_ ih
  obtain⟨h1,h2⟩:=h
  by_cases e:p.1=k
  ·rw[if_pos e,if_pos (h1.symm.trans e)];exact⟨h1,ry⟩
  ·rw[if_neg e,if_neg (fun z=>e (h1.trans z))];exact⟨h1,h2⟩
theorem KV.put(r:KV kvs vs)(k:κ)(ry:RelV y u):KV (putK kvs k y) (stored vs k u):=by
 unfold putK stored
 rw[r.any k]
 by_cases e:(vs.any fun kv=>decide (kv.1=k))=true
 ·rw[if_pos e,if_pos e];exact r.repl k ry
 ·rw[if_neg e,if_neg e];exact Paired.snoc r ⟨rfl,ry⟩
theorem KV.length{vs:List (κ × Value)}(r:KV kvs vs):kvs.length=vs.length:=Paired.length r
end
theorem ko(r:RelV (kV k) u):(aX P w).is k u=true:=by
 cases k with
 | inl i=>obtain⟨t,e⟩:=(show ∃t,u=Value.int i t from r);subst e;exact j7 P w i t
 | inr x=>obtain⟨t,e⟩:=(show ∃t,u=Value.str x t from r);subst e;exact mixKind_str P w x t
theorem iQ:∀{ks:List Key} {us:List Value},Vals (ks.map kV) us->ItemsAre (aX P w) ks us
 | [],_,r=>by rw[aaG]at r;cases r;exact .nil
 | k::ks,_,r=>by
  rw[aal]at r
  cases r with
  | cons h t=>exact .cons (ko h) (iQ t)
abbrev KT(H:Hp):List (List Key × V)->List (List Key × Addr × Value)->Prop:=Paired fun p q=>p.1=q.1/\H q.2.1=some (.tup (p.1.map kV))/\RelV p.2 q.2.2
theorem KT.val(r:KT H kvs xs)(k:List Key):RelO (valV kvs k) ((atKey xs k).map (·.2)):=by
 induction r with
 | nil=>exact True.intro
 | @cons p q ps qs h t ih =>
  obtain⟨h1,_,h2⟩:=h
  by_cases e:p.1=k
  ·have e':q.1=k:=h1.symm.trans e
   have b:atKey (q::qs) k=some q.2:=by simp[atKey,aaS,e']
   rw[dm e,b];exact h2
  ·have e':¬ q.1=k:=fun z=>e (h1.trans z)
   have b:atKey (q::qs) k=atKey qs k:=by simp[atKey,aaS,e']
   rw[gP e,b];exact ih
theorem KT.repl(r:KT H kvs xs)(k:List Key)(ry:RelV y u) :
  KT H (kvs.map fun kv=>if kv.1=k then (kv.1,y) else kv) (xs.map (putAt k u)):=by
 induction r with
 | nil=>exact .nil
 | @cons p q ps qs h t ih =>
  rw[aal,aal]
  refine .cons ?_ ih
  obtain⟨h1,h2,h3⟩:=h
  unfold putAt
  by_cases e:p.1=k
  ·rw[if_pos e,if_pos (h1.symm.trans e)];exact⟨h1,h2,ry⟩
  ·rw[if_neg e,if_neg (fun z=>e (h1.trans z))];exact⟨h1,h2,h3⟩
theorem KT.put(r:KT H kvs xs)(k:List Key)(hb:H b=some (.tup (k.map kV)))(ry:RelV y u) :
  KT H (putK kvs k y) (storedH xs k b u):=by
 have e:(kvs.any fun kv=>decide (kv.1=k))=(atKey xs k).isSome:=by
  rw[gQ,(r.val k).isSome_eq,abN]
 unfold putK storedH
 rw[e]
 by_cases q:(atKey xs k).isSome=true
 ·rw[if_pos q,if_pos q];exact r.repl k ry
 ·rw[if_neg q,if_neg q];exact Paired.snoc r ⟨rfl,hb,ry⟩
theorem KT.keeps(r:KT H kvs xs)(ht:∀b ys,H b=some (.tup ys)->H' b=some (.tup ys)):KT H' kvs xs :=
 Paired.mapP r fun _ _ z=>⟨z.1,ht _ _ z.2.1,z.2.2⟩
section
variable{P:Program}{w:World}{H:Hp}{h:Heap}{a:Addr}
theorem wZ(ok:HOk P w H h)(e:Rd H a u):ObjOk P w H h a u:=e.ok ok
theorem kr(ok:HOk P w H h)(e:Rd H a (.dK kvs)):kvs.length≤sizeLine/\(a == sysModules)=false/\∃vs,KV kvs vs/\h.DictOf (aX P w) a vs :=
 show ObjOk P w H h a (.dK kvs) from wZ ok e
theorem A6(ok:HOk P w H h)(e:H a=some (.dK kvs)):kvs.length≤sizeLine/\(a == sysModules)=false/\∃vs,KV kvs vs/\h.DictOf (aX P w) a vs:=kr ok (.inl e)
theorem gR(ok:HOk P w H h)(e:H a=some (.tup (ks.map kV))):(tupleKind (aX P w)).is h ks a:=by
 obtain⟨_,its,r,o,h1,h2,n,h3⟩:=(show ObjOk P w H h a (.tup (ks.map kV)) from ok a _ e)
 exact⟨o,its.toArray,n,h1,h2,h3,by simpa using iQ r⟩
theorem ku(ok:HOk P w H h)(e:Rd H a (.dT kvs)):kvs.length≤sizeLine/\(a == sysModules)=false /\
  ∃xs,KT H kvs xs/\h.DictOfH (tupleKind (aX P w)) a xs:=by
 obtain⟨z,y,xs,r,o,es,ep,h1,h2,h3,h4,h5⟩:=(show ObjOk P w H h a (.dT kvs) from wZ ok e)
 refine⟨z,y,xs,r,o,es,ep,h1,h2,h3,h4,fun x hx=>?_,h5⟩
 have all:∀{l:List (List Key × V)} {m:List (List Key × Addr × Value)},KT H l m->∀x∈m,(tupleKind (aX P w)).is h x.1 x.2.1:=by
  intro l m q
  induction q with
  | nil=>intro x hx;exact nomatch hx
  | @cons p q ps qs hq t ih =>
   intro x hx
   rcases aac.mp hx with e | hx
   ·subst e
    exact gR ok (by rw[<- hq.1];exact hq.2.1)
   ·exact ih x hx
 exact all r x hx
theorem A7(ok:HOk P w H h)(e:H a=some (.dT kvs)):kvs.length≤sizeLine/\(a == sysModules)=false /\
  ∃xs,KT H kvs xs/\h.DictOfH (tupleKind (aX P w)) a xs:=ku ok (.inl e)
end
def DGet(H:Hp)(a:Addr)(y:V)(r:Option V):Prop :=
 (∃kvs k,Rd H a (.dK kvs)/\y=kV k/\r=valV kvs k)\/∃kvs k b,Rd H a (.dT kvs)/\y=.ref b/\H b=some (.tup (k.map kV))/\r=valV kvs k
def DPut(H:Hp)(a:Addr)(y v:V)(H':Hp):Prop :=
 (∃kvs k,H a=some (.dK kvs)/\y=kV k/\kvs.length < sizeLine/\H'=upd H a (.dK (putK kvs k v))) \/
 ∃kvs k b,H a=some (.dT kvs)/\y=.ref b/\H b=some (.tup (k.map kV))/\kvs.length < sizeLine/\H'=upd H a (.dT (putK kvs k v))
theorem DGet.k{H:Hp}{a:Addr}{kvs:List (Key × V)}{k:Key}(e:H a=some (.dK kvs)):DGet H a (kV k) (valV kvs k):=.inl ⟨kvs,k,.inl e,rfl,rfl⟩
theorem DPut.k{H:Hp}{a:Addr}{kvs:List (Key × V)}{k:Key}{v:V}(e:H a=some (.dK kvs))(hl:kvs.length < sizeLine):DPut H a (kV k) v (upd H a (.dK (putK kvs k v))):=.inl ⟨kvs,k,e,rfl,hl,rfl⟩
section
variable{X:Cx}{pins:List (Addr × Obj)}{σ:St}{H:Hp}{s:Shared}{a:Addr}{y v:V}{u r:Value}{o:Option V}{A:Around}{E:Value->Shared->Prop}
theorem Inv.big(I:Inv X pins σ H s):sysModules < s.heap.objs.size:=by
 have h:mainGlobals < s.heap.objs.size:=(I.mod.glob.keeps I.bk).lt
 exact abu (by decide) h
theorem pG(hu:A.units + 1 < cLine)(I:Inv X pins σ H s)(g:DGet H a y (some v))(ry:RelV y u)(h:∀w' s',Inv X pins σ H s'->RelV v w'->Q w' s') :
  wpAny (model X.prog X.w) A (getItem (.ref a) u) Q E s:=by
 rcases g with ⟨kvs,k,e,ey,l⟩ | ⟨kvs,k,b,e,ey,eb,l⟩
 ·subst ey
  obtain⟨z,hd,vs,rel,dd⟩:=kr I.hok e
  obtain⟨w',hw,rw'⟩:=RelO.some_of (by rw[l];exact rel.val k)
  exact wpAny_getItem_of (ko ry) dd.mapOf hw (h w' _ (I.tok _) rw')
 ·subst ey
  cases (show u=Value.ref b from ry)
  obtain⟨z,hd,xs,rel,dd⟩:=ku I.hok e
  obtain⟨w',hw,rw'⟩:=RelO.some_of (by rw[l];exact rel.val k)
  obtain⟨p,hp,hp2⟩:=aaH.mp hw
  refine wpAny_getItem_heap (tupleKind_room_in1 hu) (gR I.hok eb) dd hp ?_
  rw[hp2]
  exact h w' _ (I.tok _) rw'
theorem D7(hu:A.units + 1 < cLine)(I:Inv X pins σ H s)(g:DGet H a y o)(ry:RelV y u)(h:∀s',Inv X pins σ H s'->Q (.bool o.isSome) s') :
  wpAny (model X.prog X.w) A (compareOp .In u (.ref a)) Q E s:=by
 rcases g with ⟨kvs,k,e,ey,l⟩ | ⟨kvs,k,b,e,ey,eb,l⟩
 ·subst ey
  obtain⟨z,hd,vs,rel,dd⟩:=kr I.hok e
  refine wpAny_in_of (ko ry) hd dd.mapOf ?_
  rw[<- (rel.val k).isSome_eq,<- l]
  exact h _ (I.tok _)
 ·subst ey
  cases (show u=Value.ref b from ry)
  obtain⟨z,hd,xs,rel,dd⟩:=ku I.hok e
  refine wpAny_in_heap (tupleKind_room_in1 hu) (gR I.hok eb) hd dd ?_
  have q:=(rel.val k).isSome_eq
  rw[abN]at q
  rw[<- q,<- l]
  exact h _ (I.tok _)
theorem uQ(hu:A.units + 1 < cLine)(I:Inv X pins σ H s)(g:DGet H a y o)(ry:RelV y u)(h:∀s',Inv X pins σ H s'->Q (.bool (!o.isSome)) s') :
  wpAny (model X.prog X.w) A (compareOp .NotIn u (.ref a)) Q E s:=by
 rcases g with ⟨kvs,k,e,ey,l⟩ | ⟨kvs,k,b,e,ey,eb,l⟩
 ·subst ey
  obtain⟨z,hd,vs,rel,dd⟩:=kr I.hok e
  refine wpAny_notIn_of (ko ry) hd dd.mapOf ?_
  rw[<- (rel.val k).isSome_eq,<- l]
  exact h _ (I.tok _)
 ·subst ey
  cases (show u=Value.ref b from ry)
  obtain⟨z,hd,xs,rel,dd⟩:=ku I.hok e
  refine wpAny_notIn_heap (tupleKind_room_in1 hu) (gR I.hok eb) hd dd ?_
  have q:=(rel.val k).isSome_eq
  rw[abN]at q
  rw[<- q,<- l]
  exact h _ (I.tok _)
theorem m6{t':Nat}(I:Inv X pins σ H s)(mu:Ax (H a))(hs:Heap.SameBut a s.heap h')(he:∃q,h'.get? a=some q)(new:ObjOk X.prog X.w (upd H a ob) h' a ob) :
  Inv X pins σ (upd H a ob) { s with heap:=h',toks:=t' } :=
 I.write mu (.inl rfl) (fun b q hb z=>(hs.2 b hb).trans z) he new
theorem yL(z:kvs.length≤sizeLine)(hd:(a == sysModules)=false)(rel:KV kvs vs)(dd:h'.DictOf (aX P w) a vs) :
  ObjOk P w H' h' a (.dK kvs):=⟨z,hd,vs,rel,dd⟩
theorem pH(hu:A.units + 1 < cLine)(I:Inv X pins σ H s)(g:DPut H a y v H')(ry:RelV y u)(rv:RelV v r)(h:∀s',Inv X pins σ H' s'->Q () s') :
  wpAny (model X.prog X.w) A (setItem (.ref a) u r) Q E s:=by
 rcases g with ⟨kvs,k,e,ey,l,eH⟩ | ⟨kvs,k,b,e,ey,eb,l,eH⟩
 ·subst ey eH
  obtain⟨z,hd,vs,rel,dd⟩:=A6 I.hok e
  have hz:vs.length≤sizeLine:=by rw[<- rel.length];exact z
  have hl:(putK kvs k v).length≤sizeLine:=by have:=f6 kvs k v;omega
  refine wpAny_setItem_pairs (ko ry) dd fun h' dd' hs=>h _ ?_
  have he:∃q,h'.get? a=some q:=let ⟨q,_,_,hq,_⟩:=dd';⟨q,hq⟩
  exact m6 I (by rw[e];exact True.intro) hs he (yL hl hd (rel.put k rv) dd')
 ·subst ey eH
  cases (show u=Value.ref b from ry)
  obtain⟨z,hd,xs,rel,dd⟩:=A7 I.hok e
  have hz:xs.length≤sizeLine:=by rw[<- Paired.length rel];exact z
  have hl:(putK kvs k v).length≤sizeLine:=by have:=f6 kvs k v;omega
  refine wpAny_setItem_heap (tupleKind_room_in1 hu) (gR I.hok eb) dd fun h' dd' hs=>h _ ?_
  obtain⟨q,es,ep,hq,h2,h3,h4,_,h5⟩:=dd'
  refine m6 I (by rw[e];exact True.intro) hs ⟨q,hq⟩ ⟨hl,hd,_,(rel.put k eb rv).keeps fun c ys ec=>?_,q,es,ep,hq,h2,h3,h4,h5⟩
  rw[upd_ne (Aw ec e (fun z=>nomatch z))]
  exact ec
end
def NoSl(i:Expr):Prop:=∀ov iv,subscripted i false ov iv=operate [ov,iv] (getItem ov iv)
theorem subD_of{T id:String}
  (hl:typeLookup (.type T) "__getitem__"=pure (some (.builtin id))) (hs:NoSl slice)
  (h:wpAny (model prog w) A (eval value env) (fun o s₁=>wpAny (model prog w) A (eval slice env) (fun i s₂=>s₂.TypeIs o T/\wpAny (model prog w) A (getItem o i) Q E s₂) E s₁) E s) :
  wpAny (model prog w) A (eval (.Subscript value slice pos) env) Q E s:=by
 refine Subscript_ (wpAny_mono h (fun o s₁ h₁=>wpAny_mono h₁ (fun i s₂ h₂=>?_) fun _ _ x=>x) fun _ _ x=>x)
 obtain⟨hT,h₂⟩:=h₂
 unfold subscriptTail
 refine wpAny_bind ?_
 rw[getitemInPython_of_ne hT.not_modules]
 refine wpAny_bind (wpAny_specialOf hT hl ?_)
 have fin:wpAny (model prog w) A (subscripted slice false o i) (fun r s₃=>wpAny (model prog w) A (letTemporaryGo value o r >>= fun _=>pure r) Q E s₃) E s₂:=by
  rw[hs o i]
  exact wpAny_operating (wpAny_mono h₂ (fun r s₃ h₃=>wpAny_bind (wpAny_letTemporaryGo (wpAny_pure h₃))) fun _ _ x=>x)
 first
  | exact wpAny_pure (wpAny_bind fin)
  | exact wpAny_bind (wpAny_pure (wpAny_bind fin))
  | exact wpAny_bind fin
theorem ky(I:Inv X pins σ H s)(g:DGet H a y o):s.TypeIs (.ref a) "dict":=by
 rcases g with ⟨kvs,k,e,_,_⟩ | ⟨kvs,k,b,e,_,_,_⟩
 ·obtain⟨_,_,vs,_,dd⟩:=kr I.hok e
  exact dd.typeIs
 ·obtain⟨_,_,xs,_,dd⟩:=ku I.hok e
  exact dd.typeIs
def A8(td ty:TE):TE:=fun σ H Q=>td σ H fun x H1=>ty σ H1 fun y H2=>∃a v,x=.ref a/\DGet H2 a y (some v)/\Q v H2
def A9(ty td:TE):TE:=fun σ H Q=>ty σ H fun y H1=>td σ H1 fun x H2=>∃a o,x=.ref a/\DGet H2 a y o/\Q (.bl o.isSome) H2
def m7(ty td:TE):TE:=fun σ H Q=>ty σ H fun y H1=>td σ H1 fun x H2=>∃a o,x=.ref a/\DGet H2 a y o/\Q (.bl (!o.isSome)) H2
def Ba(td ty tv:TE):TS:=fun D σ H=>tv σ H fun v H1=>td σ H1 fun x H2=>ty σ H2 fun y H3=>∃a H4,x=.ref a/\DPut H3 a y v H4/\D.nx σ H4
section
variable{X:Cx}{o i e value:Expr}{pos pos' tpos:Pos}{td ty tv:TE}
theorem uR(hu:X.A.units + 1 < cLine)(ho:PE X o td)(hi:PE X i ty)(hs:NoSl i):PE X (.Subscript o i pos) (A8 td ty):=by
 intro pins s σ H Q I h
 refine subD_of PySem.F.slot_dict_getitem.lookup hs (thn (ho pins s σ H _ I h) fun u s1 ⟨x,H1,I1,rx,q1⟩=>thn (hi pins s1 σ H1 _ I1 q1) fun iv s2 hZ=>?_)
 obtain⟨y,H2,I2,ry,a,v,ex,g,q2⟩:=hZ
 subst ex
 obtain rfl:u=Value.ref a:=rx
 exact⟨ky I2 g,pG hu I2 g ry fun w' s3 I3 rw'=>⟨v,H2,I3,rw',q2⟩⟩
theorem rc(hu:X.A.units + 1 < cLine)(hi:PE X i ty)(ho:PE X o td):PC X .In i o (A9 ty td):=by
 intro pins s σ H Q I h
 refine thn (hi pins s σ H _ I h) fun iv s1 ⟨y,H1,I1,ry,q1⟩=>thn (ho pins s1 σ H1 _ I1 q1) fun u s2 hZ=>?_
 obtain⟨x,H2,I2,rx,a,ov,ex,g,q2⟩:=hZ
 subst ex
 obtain rfl:u=Value.ref a:=rx
 exact D7 hu I2 g ry fun s3 I3=>⟨.bl ov.isSome,H2,I3,rfl,q2⟩
theorem iR(hu:X.A.units + 1 < cLine)(hi:PE X i ty)(ho:PE X o td):PC X .NotIn i o (m7 ty td):=by
 intro pins s σ H Q I h
 refine thn (hi pins s σ H _ I h) fun iv s1 ⟨y,H1,I1,ry,q1⟩=>thn (ho pins s1 σ H1 _ I1 q1) fun u s2 hZ=>?_
 obtain⟨x,H2,I2,rx,a,ov,ex,g,q2⟩:=hZ
 subst ex
 obtain rfl:u=Value.ref a:=rx
 exact uQ hu I2 g ry fun s3 I3=>⟨.bl (!ov.isSome),H2,I3,rfl,q2⟩
theorem uS(hu:X.A.units + 1 < cLine)(ho:PE X o td)(hi:PE X i ty)(hv:PE X value tv)(hs:swapsWith value (some (.Subscript o i pos')) pos.line X.env=pure false) :
  PS X (.Assign [.Subscript o i pos'] value pos) (Ba td ty tv):=by
 intro pins s σ H D I h
 refine wpAny_Assign_Subscript (thn (hv pins s σ H _ I h) fun r s1 ⟨v,H1,I1,rv,q1⟩=>thn (ho pins s1 σ H1 _ I1 q1) fun u s2 ⟨x,H2,I2,rx,q2⟩=>thn (hi pins s2 σ H2 _ I2 q2) fun iv s3 hZ=>?_) hs
 obtain⟨y,H3,I3,ry,a,H4,ex,g,q3⟩:=hZ
 subst ex
 obtain rfl:u=Value.ref a:=rx
 exact pH hu I3 g ry rv fun s4 I4=>⟨σ,H4,I4,q3⟩
end
theorem kz(h:Heap)(hb:sysModules < h.objs.size):ObjOk P w H (h.push { cls:=.type "dict",data:=.dict #[] }) h.objs.size (.dK []) :=
 ⟨aaM _,beq_eq_false_iff_ne.mpr (aaF (aao hb)),[],.nil,Heap.DictOf.new h⟩
def tDNewK:TE:=fun _ H Q=>∀p,H p=none->Q (.ref p) (upd H p (.dK []))
section
variable{X:Cx}{pos:Pos}
theorem rg:PE X (.Dict [] [] pos) tDNewK:=fun pins s σ H Q I h =>
 wpAny_Dict_empty ⟨.ref s.heap.objs.size,_,I.laid (fun _ _ q=>Heap.get?_push_of_some _ q) (aaf _) (kz s.heap I.big),rfl,h _ (I.hok.fresh (aaf _))⟩
end
end
end L2
namespace L2
open PySem PySem.Spec PyProof.Rows
section
def D8(K:WF)(l:Addr):It :=
 ⟨fun i H=>∃xs x,SqL K H l xs/\xs[i]?=some x,
  fun i H v H'=>∃T x,(∀xs,SqL K H l xs->xs[i]?=some x)/\H T=none/\v=.ref T/\H'=upd H T (.tup [.int i,x]),
  fun i H=>∃xs,SqL K H l xs/\xs.length≤i⟩
theorem pI{K:WF}{x1}(l e it:Addr)(hne:e≠it) :
  Turn P w K (.Tuple es x1 pos) (D8 K l) [e,it] e (fun i h=>(∃old,IsEnum h e it (i:Int) old)/\h.IsListIter it l i) where
 mem:=by simp
 obj:=fun i h ⟨⟨old,h1⟩,h2⟩ c hc=>by
  simp only[aac,aak,or_false]at hc
  rcases hc with rfl | rfl
  ·exact⟨_,h1,fun v z=>by cases z⟩
  ·obtain⟨o,e,c,d⟩:=h2;exact⟨o,e,fun v z=>by rw[d]at z;cases z⟩
 keep:=fun i h h' ⟨⟨old,h1⟩,h2⟩ k=>⟨⟨old,k e (by simp) _ h1⟩,h2.at fun o e=>k it (by simp) o e⟩
 item:=by
  intro X hP hw hK hc i pins s σ H E I hf ⟨⟨old,h1⟩,h2⟩ hg
  subst hP hw hK
  obtain⟨xs,x,hq,hx⟩:=hg
  obtain⟨its,rv,p,hz⟩:=I.list hq
  obtain⟨u,hu,ru⟩:=rv.get hx
  have le:e < s.heap.objs.size:=Heap.lt_size h1
  have li:it < s.heap.objs.size:=by obtain⟨o,e',_⟩:=id h2;exact Heap.lt_size e'
  refine wpAny_pyNext_enum_item h1 h2 p.isList (by simpa using hu) hne fun h' he' hit' hT hsz hk=>?_
  refine⟨.ref s.heap.objs.size,rfl,?_⟩
  refine wpAny_letOwnedTupleGo_enum he' fun h'' he'' hs''=>?_
  have hs'':Heap.SameBut e h' h'':=hs''
  have k1:∀c o,c ∉ ([e,it]:List Addr)->s.heap.get? c=some o->h''.get? c=some o:=fun c o hc q=>by
   simp only[aac,aak,or_false,not_or]at hc
   exact hs''.extBut _ _ hc.1 (hk c o hc.1 hc.2 q)
  have hn:H s.heap.objs.size=none:=I.hok.fresh (aaf _)
  have I1:Inv X pins σ H { s with heap:=h'',toks:=s.toks + 1 }:=I.turnedL k1 hf
  have hT'':IsPair h'' s.heap.objs.size (.int i s.toks) u:=hs''.extBut _ _ (aaY le) hT
  have I2:Inv X pins σ (upd H s.heap.objs.size (.tup [.int i,x])) { s with heap:=h'',toks:=s.toks + 1 }:=by
   refine I.step (fun b hb=>?_) (fun b o _ _ hc e _=>k1 b o hc e) (fun b o _ _ hc e _=>⟨o.slots,k1 b o hc e⟩) (fun b o hc e n=>?_)
    (fun b o hc e=>⟨o,k1 b o hc e⟩) (fun b ys e=>?_) (fun b o u e=>?_) (fun b ps e=>⟨#[],?_⟩) (fun m hm=>?_) (fun b o e=>?_) I.bare
   ·obtain⟨f0,f1,f2,f3,f4,f5⟩:=hf b hb
    exact⟨f3,f1,f4,f5⟩
   ·rw[upd_ne (aao (Heap.lt_size e))];exact n
   ·rw[upd_ne (ai e hn)];exact e
   ·rw[upd_ne (ai e hn)];exact e
   ·rw[upd_ne (ai e hn),e];simp
   ·obtain⟨o,es',ep,ho,r⟩:=hm
    exact⟨o,es',ep,k1 _ o (fun z=>(hf _ z).2.1 rfl) ho,r⟩
   ·by_cases hb:b=s.heap.objs.size
    ·subst hb
     rw[ar]at e
     cases e
     exact⟨(by show 2≤sizeLine;decide),[.int i s.toks,u],.cons ⟨_,rfl⟩ (.cons ru .nil),⟨_,hT'',rfl,_,rfl⟩⟩
    ·rw[upd_ne hb]at e
     refine (I1.hok b o e).stay (fun c v hc q=>q) (fun c q=>by rw[upd_ne (ai q hn)];exact q) fun c ys q=>by rw[upd_ne (ai q hn)];exact q
  refine⟨.ref s.heap.objs.size,_,I2,rfl,⟨_,x,fun ys hy=>by rw[I.list_inj hy hq];exact hx,hn,rfl,rfl⟩,⟨⟨u,by simpa using he''⟩,hit'.at fun o q=>hs''.extBut _ _ (aaF hne) q⟩,fun c hc=>?_⟩
  simp only[aac,aak,or_false]at hc
  rcases hc with rfl | rfl
  ·rw[upd_ne (aao le)];exact (hf _ (by simp)).1
  ·rw[upd_ne (aao li)];exact (hf _ (by simp)).1
 done:=by
  intro X hP hw hK hc i pins s σ H E I hf ⟨⟨old,h1⟩,h2⟩ hg
  subst hP hw hK
  obtain⟨xs,hq,hx⟩:=hg
  obtain⟨its,rv,p,hz⟩:=I.list hq
  have hl:=rv.length
  refine wpAny_pyNext_enum_end (I.ok.hd hc) h1 h2 p.isList (by simp;omega) fun h' eb=>⟨rfl,I.turnedL (fun c o hc q=>?_) hf⟩
  simp only[aac,aak,or_false,not_or]at hc
  exact eb c o hc.2 q
 self:=fun _ _ _ _ _ ⟨⟨old,h1⟩,_⟩ h=>wpAny_pyIter_enum h1 h
theorem pJ:bootBuiltins "enumerate"=some (.type "enumerate"):=by decide +kernel
section
variable{X:Cx}
def Bb(K:WF)(ta:TA):TI:=fun σ H R=>ta σ H fun vs H1=>∃l xs,vs=[.ref l]/\SqL K H1 l xs/\R (D8 K l) H1
theorem uT {es:List Expr} {x1} {tpos:Pos} {a:Expr} {p pos:Pos} (hg:Gl X "enumerate") (hm:X.mg "enumerate"=none) (ha:PA X [a] ta) (hs:starEach [a] X.env=[(false,eval a X.env)]:=by rfl) :
  PI X (.Tuple es x1 tpos) (.Call (.Name "enumerate" p) [a] [] pos) (Bb X.K ta):=by
 intro pins s σ H R I h
 refine Call_ (fH I hg hm pJ (abl (thn (ha pos pins s σ H _ I h) fun us s1 hZ=>?_) hs rfl))
 obtain⟨vs,H1,I1,r1,q1⟩:=hZ
 obtain⟨l,xs,e,ok,q⟩:=q1
 subst e
 cases r1 with
 | cons r rr =>
  cases rr
  cases r
  obtain⟨its,rv,pl,hz⟩:=I1.list ok
  refine call_enumerate_list pl.isList fun h' he hit hsz kp=>?_
  refine wpAny_pyIter_enum he ?_
  have I5:Inv X pins σ H1 { s1 with heap:=h' }:=I1.kept kp
  refine⟨s1.heap.objs.size + 1,[s1.heap.objs.size + 1,s1.heap.objs.size],_,_,H1,rfl,I5,pI l _ _ (by show (_:Nat)≠_;omega),⟨⟨_,he⟩,hit⟩,fun b hb=>?_,q⟩
  have hb':s1.heap.objs.size≤b:=by
   simp only[aac,aak,or_false]at hb
   rcases hb with rfl | rfl
   ·show s1.heap.objs.size≤s1.heap.objs.size + 1;omega
   ·exact aaf _
  exact I1.fpOk hb' (I1.hok.fresh hb')
end
end
section
section
variable{X:Cx}{o i e:Expr}{pos:Pos}{ti:TE}{c:Addr}{kvs:List (Str × Str)}
def D9(K:WF)(n:Nat)(t:TGs):TG:=fun v σ H Q=>∃a xs,v=.ref a/\SqL K H a xs/\xs.length=n/\t xs σ H Q
theorem yM{k:Nat}(hc:X.calm=true)(h:Ar X es t)
  (hn:(assignEach es X.env).length=n:=by rfl) (hst:(assignEach es X.env).findIdx? (·.1)=none:=by rfl):PG X (.Tuple es k pos) (D9 X.K n t):=by
 intro pins s σ H v u Q I r hw
 obtain⟨a,xs,e1,hq,hl,hw⟩:=hw
 subst e1
 cases r
 obtain⟨its,rv,⟨ob,nn,h1,h2,_,h3⟩,hz⟩:=I.list hq
 have il:s.heap.IsList a its.toArray:=⟨ob,h1,h2,nn,h3⟩
 rw[assign_Tuple]
 refine wpAny_bind (wpAny_standAt ?_)
 unfold unpack
 rw[show (assignEach es X.env).length=its.toArray.size by simp[hn,<- hl,rv.length],hst]
 refine wpAny_bind (wpAny_holding (PySem.W.kun_itemsOf (I.ok.hd hc) il fun h' hx=>?_))
 have I1:Inv X pins σ H { s with heap:=h' }:=I.kept fun b o e=>hx b o (aao (Heap.lt_size e)) e
 exact h pins _ σ H xs _ Q I1 (by simpa using rv) hw
end
end
section
theorem lR(I:Nat->Shared->Prop)
  (turn:∀n s,I n s->wpAny (model prog w) A (pyNext it) (fun r s₁=>match r with
   | none=>R (.ok .next) s₁
   | some v=>wpAny (model prog w) A (letOwnedTupleGo target it v) (fun _ s₂=>wpAny (model prog w) A (assign target env v) (fun _ s₂ =>
     wpAny (model prog w) A (forIn ifs true fun c r=>if r=true then do let ok <- isTrue c env (eval c env);pure (ForInStep.yield ok) else pure (ForInStep.yield r)) (fun ok s₃ =>
      if ok=true then wpAny (model prog w) A (eval kx env) (fun kv s₄=>wpAny (model prog w) A (eval vx env) (fun vv s₅ =>
       wpAny (model prog w) A (dictSet D kv vv) (fun _ s₆=>∃m,m < n/\I m s₆) (fun _ _=>False) s₅) (fun _ _=>False) s₄) (fun _ _=>False) s₃
      else ∃m,m < n/\I m s₃) (fun _ _=>False) s₂) (fun _ _=>False) s₂) (fun _ _=>False) s₁) (fun _ _=>False) s)
  (n:Nat) (h:I n s) :
  codeAny (model prog w) A (.compLoop (.DictComp kx vx [⟨target,iter,ifs,0⟩] scope pos) 0 it (.ref D) env) R s:=by
 refine codeAny_loop rfl I (fun n s hI=>?_) n h
 show wpAny _ A ((compTurn (.DictComp kx vx [⟨target,iter,ifs,0⟩] scope pos) 0 it (.ref D) env).onRaise (fun x=>do noteFrame x env;theTreesLotGoes x)) _ _ s
 refine wpAny_noted ?_
 rw[compTurn_dict]
 refine wpAny_bind (wpAny_standAt (wpAny_bind (wpAny_mono (turn n s hI) (fun r s₁ h₁=>?_) fun _ _ h'=>h'.elim)))
 cases r with
 | none=>exact wpAny_pure h₁
 | some v =>
  refine wpAny_bind (wpAny_mono h₁ (fun _ s₂ h₁=>?_) fun _ _ h'=>h'.elim)
  refine wpAny_bind (wpAny_mono h₁ (fun _ s₂ h₂=>wpAny_bind (wpAny_mono h₂ (fun ok s₃ h₃=>?_) fun _ _ h'=>h'.elim)) fun _ _ h'=>h'.elim)
  cases ok with
  | false=>exact wpAny_pure ⟨rfl,h₃⟩
  | true =>
   exact wpAny_bind (wpAny_bind (wpAny_mono h₃ (fun kv s₄ h₄=>wpAny_bind (wpAny_holding (wpAny_mono h₄ (fun vv s₅ h₅=>wpAny_bind (wpAny_standAt (wpAny_holding (wpAny_mono h₅ (fun _ s₆ h₆=>wpAny_pure ⟨rfl,h₆⟩) fun _ _ h'=>h'.elim)))) fun _ _ h'=>h'.elim))) fun _ _ h'=>h'.elim))
section
variable{X:Cx}{tg kx vx iter:Expr}{ifs:List Expr}{scope:Scope}{pos:Pos}{N:List Str}{nt:Nat}{fr:List Nat}
theorem pK(I:Inv X pins σ H s)(hf:∀b∈fp,FpOk X pins H b)
  (hD:H D=none) (hDs:s.heap.objs.size≤D) (hDC:D < s3.heap.objs.size) (hk:∀b o,s.heap.get? b=some o->s3.heap.get? b=some o) (hos:s3.os=s.os)
  (J:Inv (aS X N scope cl s3 (upd H D (.dK [])) fp pins) pins' σ' H1 s5) (hs:Heap.SameBut s3.heap.objs.size s5.heap h') :
  Inv X pins σ H1 { s5 with heap:=h' }:=by
 have hsz:s.heap.objs.size≤s3.heap.objs.size:=aaQ (Nat.lt_of_le_of_lt hDs hDC)
 have up3:∀b,b < s.heap.objs.size->b≠D/\b≠s3.heap.objs.size:=fun b hb=>⟨aao (aay hb hDs),aao (aay hb hsz)⟩
 have H3:∀b,b≠D->(upd H D (.dK [])) b=H b:=fun b hb=>upd_ne hb
 refine I.call' (ch:=fp) (J.os.trans hos) ⟨fun b o e n hb hx=>?_,fun b o e n hb hx=>?_,fun b o e n hx=>?_,fun b o e hx=>?_,fun b xs e=>?_,fun b o u e=>?_,fun b ps e=>?_⟩ ?_ J.bare fun b hb=>?_
 ·obtain⟨n1,n2⟩:=up3 b (Heap.lt_size e)
  exact (hs.2 b n2).trans (J.base.keep b o (hk b o e) ((H3 b n1).trans n) hb hx)
 ·obtain⟨n1,n2⟩:=up3 b (Heap.lt_size e)
  obtain⟨sl,q⟩:=J.base.slot b o (hk b o e) ((H3 b n1).trans n) hb hx
  exact⟨sl,(hs.2 b n2).trans q⟩
 ·obtain⟨n1,n2⟩:=up3 b (Heap.lt_size e)
  exact J.base.free b o (hk b o e) ((H3 b n1).trans n) hx
 ·obtain⟨n1,n2⟩:=up3 b (Heap.lt_size e)
  obtain⟨o',q⟩:=J.base.there b o (hk b o e) hx
  exact⟨o',(hs.2 b n2).trans q⟩
 ·exact J.base.tups b xs ((H3 b (ai e hD)).trans e)
 ·exact J.base.frzs b o u ((H3 b (ai e hD)).trans e)
 ·exact J.base.tbls b ps ((H3 b (ai e hD)).trans e)
 ·intro b u e
  refine (J.hok b u e).stay (fun c v hc q=>(hs.2 c ?_).trans q) (fun _ q=>q) fun _ _ q=>q
  have hfree:H1 s3.heap.objs.size=none:=J.free
  rintro rfl
  rcases hc with z | z
  ·rw[z]at hfree;rw[hfree]at e;cases e
  ·rw[hfree]at z;cases z
 ·obtain⟨f0,f1,f2,f3,f4,f5⟩:=hf b hb
  exact⟨f3,f1,f4,f5⟩
def rh(wi:TI)(nt:Nat)(fr:List Nat)(g:CC->TG)(tc:CC->TC):TE:=fun σ H Q=>wi σ H fun J H1=>∀(c:CC) D,H1 D=none->∃W:Nat->Nat->St->Hp->Prop,(∃m,W 0 m (bt nt fr σ) (upd H1 D (.dK []))) /\
 ∀i m σ' H',W i m σ' H'->(J.stop i H'/\Q (.ref D) H')\/(J.go i H'/\∀x H2,J.yld i H' x H2->g c x σ' H2 fun σ3 H3=>tc c D σ3 H3 fun H4=>∃m',m' < m/\W (i + 1) m' σ3 H4)
def w8(Y:Cx)(D:Addr)(ifs:List Expr)(kx vx:Expr)(tc:TC):Prop :=
 ∀(pins:List (Addr × Obj)) (s:Shared) (σ:St) (H:Hp) (Q:Hp->Prop),Inv Y pins σ H s->tc D σ H Q ->
  wpAny (model Y.prog Y.w) Y.A (forIn ifs true fun c r=>if r=true then do let ok <- isTrue c Y.env (eval c Y.env);pure (ForInStep.yield ok) else pure (ForInStep.yield r)) (fun ok s₃ =>
   if ok=true then wpAny (model Y.prog Y.w) Y.A (eval kx Y.env) (fun kv s₄=>wpAny (model Y.prog Y.w) Y.A (eval vx Y.env) (fun vv s₅ =>
    wpAny (model Y.prog Y.w) Y.A (dictSet D kv vv) (fun _ s₆=>∃H',Inv Y pins σ H' s₆/\Q H') Y.xe s₅) Y.xe s₄) Y.xe s₃
   else ∃H',Inv Y pins σ H' s₃/\Q H') Y.xe s
theorem lS{use:Option (Value->Sem Unit)}{Q0:Value->Shared->Prop}(hc:X.calm=true)(S:CompScope N nt fr X.N scope X.env.scope)(hi:PI X tg iter wi)
  (hg:∀c:CC,PG (eG X N scope c) tg (g c)) (ha:∀(c:CC) D,w8 (eG X N scope c) D ifs kx vx (tc c))
  (I:Inv X pins σ H s) (h:rh wi nt fr g tc σ H Q) (hfr:∀x∈scope.names,x.2=.free->X.env.kindOf x.1=some .cell)
  (fin:∀(D C:Addr) (s5:Shared) (H1:Hp),FpOk X pins H1 C->s5.heap.get? C≠none->C≠X.env.locals->(∃m,s5.heap.Ns C m)->(∀h',Heap.SameBut C s5.heap h'->Inv X pins σ H1 { s5 with heap:=h' })->Q (.ref D) H1 ->
   compPost (model X.prog X.w) X.A X.xe use Q0 (.ref D) C (.ok .next) s5)
  (hs:∀x,foldedSetIterable iter X.env x=pure x:=by intro _;rfl) :
  wpAny (model X.prog X.w) X.A (comprehension (.DictComp kx vx [⟨tg,iter,ifs,0⟩] scope pos) scope X.env (firstIterPos [⟨tg,iter,ifs,0⟩] pos) newDict false (eval iter X.env) use) Q0 X.xe s:=by
 have hcells:∀x∈scope.names,x.2=.free->∃c,X.env.cells.lookup x.1=some c:=fun x hx hf=>I.ok.has x.1 (.inl (hfr x hx hf))
 obtain⟨cl,hcl,h1,h2⟩:=gI hcells
 refine wpAny_comprehension_free rfl hs hcl S.kind S.names (thn (hi pins s σ H _ I h) fun xv s1 hx=>thn hx fun itv s2 hpe=>?_)
 obtain⟨it,fp,tn,J,H2,rfl,I2,T,st2,f2,hW⟩:=hpe
 have hlt:∀b∈fp,b < s2.heap.objs.size:=fun b hb=>let ⟨o,e,_⟩:=T.obj 0 _ st2 b hb;Heap.lt_size e
 refine wpAny_newObj_type (wpAny_newFunctionEnv S.nocell (by intro y hy;simp at hy) (fun h₁ hns₁ hsb₁=>?_) S.kind) (by first | trivial | exact aaM _ | decide)
 have hD:H2 s2.heap.objs.size=none:=I2.hok.fresh (aaf _)
 have I3:Inv X pins σ (upd H2 s2.heap.objs.size (.dK [])) { s2 with heap:=s2.heap.push { cls:=.type "dict",data:=.dict #[] } }:=I2.laid (fun _ _ q=>Heap.get?_push_of_some _ q) (aaf _) (kz s2.heap I2.big)
 generalize hs3:({ s2 with heap:=s2.heap.push { cls:=.type "dict",data:=.dict #[] } }:Shared)=s3 at hns₁ hsb₁ I3 ⊢
 obtain⟨W,⟨m0,w0⟩,turn⟩:=hW ⟨cl,s3,upd H2 s2.heap.objs.size (.dK []),fp,pins⟩ _ hD
 have k23:∀b o,s2.heap.get? b=some o->s3.heap.get? b=some o:=fun b o e=>by rw[<- hs3];exact Heap.get?_push_of_some _ e
 have z3:s3.heap.objs.size=s2.heap.objs.size + 1:=by rw[<- hs3];exact Heap.size_push ..
 have os3:s3.os=s2.os:=by rw[<- hs3]
 have f3:∀b∈fp,FpOk X pins (upd H2 s2.heap.objs.size (.dK [])) b:=fun b hb=>⟨by rw[upd_ne (aao (hlt b hb))];exact (f2 b hb).1,(f2 b hb).2⟩
 have k34:∀b o,s3.heap.get? b=some o->h₁.get? b=some o:=fun b o e=>hsb₁.extBut b o (aao (Heap.lt_size e)) (Heap.get?_push_of_some _ e)
 generalize hs4:({ s3 with heap:=h₁,toks:=s3.toks + ([]:List (Str × Value)).length }:Shared)=s4
 have e4h:s4.heap=h₁:=by rw[<- hs4]
 have I4:Inv (aS X N scope cl s3 (upd H2 s2.heap.objs.size (.dK [])) fp pins) [] (bt nt fr σ) (upd H2 s2.heap.objs.size (.dK [])) s4 :=
  gJ S I3 f3 (fun b hb=>by rw[z3];exact abd (hlt b hb)) h1 h2 (fun b o e=>by rw[e4h];exact k34 b o e) ⟨_,by rw[e4h];exact hns₁⟩ (by rw[<- hs4]) (by rw[<- hs4])
 have st4:tn 0 s4.heap:=T.keep 0 _ _ st2 fun b hb o e=>by rw[e4h];exact k34 b o (k23 b o e)
 have loop:codeAny (model X.prog X.w) X.A (.compLoop (.DictComp kx vx [⟨tg,iter,ifs,0⟩] scope pos) 0 (.ref it) (.ref s2.heap.objs.size) (compEnvC scope cl s3.heap.objs.size X.env))
   (compPost (model X.prog X.w) X.A X.xe use Q0 (.ref s2.heap.objs.size) s3.heap.objs.size) s4:=by
  have stat:∀{H':Hp},(∀b∈fp,H' b=none)->∀b∈fp,FpOk (aS X N scope cl s3 (upd H2 s2.heap.objs.size (.dK [])) fp pins) [] H' b:=fun {H'} hn b hb =>
   ⟨hn b hb,aao (show b < s3.heap.objs.size by rw[z3];exact abd (hlt b hb)),fun z=>I4.ok.exfs b hb z,.inl hb,fun x c e=>(f2 b hb).2.2.2.2.1 x c (h1 x c e),fun p hp=>(f2 b hb).2.2.2.2.2 p (by
    rcases aai.mp hp with z | z
    ·exact z
    ·exact absurd z (by simp))⟩
  refine lR (fun n s'=>∃i σ' H',Inv (aS X N scope cl s3 (upd H2 s2.heap.objs.size (.dK [])) fp pins) [] σ' H' s'/\tn i s'.heap/\(∀b∈fp,H' b=none)/\W i n σ' H') ?_ m0
   ⟨0,_,_,I4,st4,fun b hb=>(f3 b hb).1,w0⟩
  rintro n s5 ⟨i,σ5,H5,I5,st5,fr5,w5⟩
  rcases turn i n σ5 H5 w5 with ⟨stop,qn⟩ | ⟨go,step⟩
  ·refine thn (T.done (aS X N scope cl s3 (upd H2 s2.heap.objs.size (.dK [])) fp pins) rfl rfl rfl hc i [] s5 σ5 H5 (fun _ _=>False) I5 (stat fr5) st5 stop) fun r s6 ⟨hr,I6⟩=>?_
   subst hr
   obtain⟨m,hm,_⟩:=id I6.loc
   refine fin _ _ s6 H5 (I2.fpOk (by rw[z3];exact abn _) I6.free) ?_ ?_ ⟨m,hm⟩ (fun h' hs'=>pK I2 f2 hD (aaf _) (by rw[z3];exact aaZ _) k23 os3 I6 hs') qn
   ·obtain⟨o,_,_,ho,_⟩:=hm
    intro z
    have ho':s6.heap.get? s3.heap.objs.size=some o:=ho
    rw[z]at ho';cases ho'
   ·exact aaY (abu I2.lt (by rw[z3];exact aaZ _))
  ·refine thn (T.item (aS X N scope cl s3 (upd H2 s2.heap.objs.size (.dK [])) fp pins) rfl rfl rfl hc i [] s5 σ5 H5 (fun _ _=>False) I5 (stat fr5) st5 go) fun r s6 ⟨u,hr,h6⟩=>?_
   subst hr
   refine thn h6 fun _ s7 ⟨x,H7,I7,r7,y7,st7,fr7⟩=>?_
   have I7':=I7.pinned (stat fr7) (T.obj _ _ st7)
   refine thn (hg ⟨cl,s3,upd H2 s2.heap.objs.size (.dK []),fp,pins⟩ _ s7 σ5 H7 x u _ I7' r7 (step x H7 y7)) fun _ s8 ⟨σ8,H8,I8,q8⟩=>?_
   refine thn (ha ⟨cl,s3,upd H2 s2.heap.objs.size (.dK []),fp,pins⟩ _ _ s8 σ8 H8 _ I8 q8) fun ok s9 h9=>?_
   have again:∀{s7':Shared},(∃H',Inv (aS X N scope cl s3 (upd H2 s2.heap.objs.size (.dK [])) fp pins) ([]++pinsAt fp s7.heap) σ8 H' s7'/\∃m',m' < n/\W (i + 1) m' σ8 H') ->
     ∃m,m < n/\∃i σ' H',Inv (aS X N scope cl s3 (upd H2 s2.heap.objs.size (.dK [])) fp pins) [] σ' H' s7'/\tn i s7'.heap/\(∀b∈fp,H' b=none)/\W i m σ' H':=fun {s7'} ⟨H',I',m',hm,w'⟩=>by
    refine⟨m',hm,i + 1,σ8,H',I'.unpinned,T.keep _ _ _ st7 fun b hb o e=>(I'.pin (b,o) (aab _ (aab _ (br hb e)))).1,fun b hb=>?_,w'⟩
    obtain⟨o,e,d⟩:=T.obj _ _ st7 b hb
    exact (I'.pin (b,o) (aab _ (aab _ (br hb e)))).2.1
   cases ok with
   | true =>
    rw[if_pos rfl]at h9 ⊢
    exact thn h9 fun y s10 h10=>thn h10 fun z s11 h11=>thn h11 fun _ s12 h12=>again h12
   | false =>
    rw[if_neg aae]at h9 ⊢
    exact again h9
 exact codeAny_compStart_dict loop (T.self X.A 0 s4 _ _ st4 loop)
theorem rj{py spos:Pos}(hN:X.N.Nodup)(hy:X.N[i]?=some y)(hl:X.env.scope.names.lookup y=some .local)(hc:X.calm=true)(S:CompScope N nt fr X.N scope X.env.scope)(hi:PI X tg iter wi)
  (hg:∀c:CC,PG (eG X N scope c) tg (g c)) (ha:∀(c:CC) D,w8 (eG X N scope c) D ifs kx vx (tc c))
  (hs:∀x,foldedSetIterable iter X.env x=pure x:=by intro _;rfl)
  (hsw:swapsWith (.DictComp kx vx [⟨tg,iter,ifs,0⟩] scope pos) (some (.Name y py)) spos.line X.env=pure true:=by rfl) :
  PS X (.Assign [.Name y py] (.DictComp kx vx [⟨tg,iter,ifs,0⟩] scope pos) spos) (qt (rh wi nt fr g tc) (kc i)):=by
 intro pins s σ H D I h
 rw[exec_Assign_Name_used _ _ _ _ hsw]
 refine wpAny_bind (wpAny_standAt (wpAny_bind ?_))
 show wpAny _ X.A (do let _ <- comprehension (.DictComp kx vx [⟨tg,iter,ifs,0⟩] scope pos) scope X.env _ newDict false (eval iter X.env) (some (assign (.Name y py) X.env))) _ _ s
 refine wpAny_bind (wpAny_mono (lS hc S hi hg ha I h (fun x hx hf=>S.cells x hx hf) (fun Dd C s5 H1 fp hC _ hm hI q=>?_) hs) (fun _ s' hq=>wpAny_pure (wpAny_pure hq)) fun _ _ e=>e)
 obtain⟨m,hm⟩:=hm
 have I5:Inv X pins σ H1 s5:=hI s5.heap ⟨rfl,fun _ _=>rfl⟩
 show wpAny _ X.A (assign (.Name y py) X.env (.ref Dd)) _ _ _
 refine wpAny_assign_Name (fG I5 hN hy (.inl hl) (v:=.ref Dd) rfl (fun s6 I6 hsb=>?_) (.inr hl))
 obtain⟨a,hs6,ha6⟩:=hsb
 have hCa:C≠a:=by
  rcases ha6 with e | e
  ·rw[e];exact fp.2.1
  ·exact fun z=>fp.2.2.2.2.1 _ _ e z.symm
 exact⟨m,hm.sameBut hs6 hCa,fun h' hs'=>⟨_,H1,I6.turned (fun b o hb e=>(hs'.2 b hb).trans e) fp.1 fp.2.1 fp.2.2.2.1 fp.2.2.2.2.1 fp.2.2.2.2.2,q⟩⟩
end
end
end L2
set_option genInjectivity false
namespace L2
open PySem PySem.Spec PyProof.Rows
section
structure Kp (S:Addr->Prop)(H H':Hp):Prop where
 k:∀b o,H b=some o->¬ S b->H' b=some o
 n:∀b,H' b=none->H b=none
section
variable{S T S':Addr->Prop}{H H1 H' H2:Hp}{p:Addr}{o:HO}
theorem Kp.refl(S:Addr->Prop)(H:Hp):Kp S H H:=⟨fun _ _ h _=>h,fun _ h=>h⟩
theorem Kp.trans(a:Kp S H H1)(b:Kp S H1 H2):Kp S H H2:=⟨fun c o h n=>b.k c o (a.k c o h n) n,fun c h=>a.n c (b.n c h)⟩
theorem Kp.weak(a:Kp S H H')(h:∀b,S b->T b\/H b=none):Kp T H H':=⟨fun b o e n=>a.k b o e fun z=>(h b z).elim n fun q=>(by rw[q]at e;cases e),a.n⟩
theorem Kp.put(hp:S p\/H p=none):Kp S H (upd H p o):=by
 refine⟨fun b u h n=>?_,fun b h=>?_⟩
 ·have ne:b≠p:=fun e=>by
   subst e
   rcases hp with hp | hp
   ·exact n hp
   ·rw[hp]at h;cases h
  rw[upd_ne ne];exact h
 ·by_cases e:b=p
  ·subst e;rw[ar]at h;cases h
  ·rw[upd_ne e]at h;exact h
theorem Kp.keep(a:Kp (fun _=>False) H H'):Keep [] H H':=fun b o h _=>a.k b o h (fun z=>z)
def Bx(S:Addr->Prop)(F:Hp->Prop)(H:Hp):Prop:=∀H',Kp S H H'->F H'
theorem Bx.now{F:Hp->Prop}(h:Bx S F H):F H:=h H (Kp.refl _ _)
theorem Bx.step{F:Hp->Prop}(h:Bx S F H)(k:Kp S H H')(n:∀b,S' b->S b\/H b=none):Bx S' F H':=fun H2 k' =>
 h H2 ⟨fun b o e ns=>k'.k b o (k.k b o e ns) fun z=>(n b z).elim ns fun q=>(by rw[q]at e;cases e),fun b e=>k.n b (k'.n b e)⟩
end
mutual
inductive Fz (K:WF)(S:Addr->Prop)(H:Hp):V->PyData->Prop
 | non:Fz K S H .non .none
 | bl (b:Bool):Fz K S H (.bl b) (.bool b)
 | int (i:Int):Fz K S H (.int i) (.int i)
 | str (x:Str):Fz K S H (.str x) (.str x)
 | lst {a xs ds}:Bx S (fun H=>SqL K H a xs) H->FzA K S H xs ds->Fz K S H (.ref a) (.list ds)
 | tup {a xs ds}:Bx S (fun H=>SqT K H a xs) H->FzA K S H xs ds->Fz K S H (.ref a) (.tuple ds)
inductive FzA (K:WF)(S:Addr->Prop)(H:Hp):List V->List PyData->Prop
 | nil:FzA K S H [] []
 | cons {x d xs ds}:Fz K S H x d->FzA K S H xs ds->FzA K S H (x::xs) (d::ds)
end
section
variable{K:WF}{S T S':Addr->Prop}{H H1 H' H2:Hp}
theorem Fz.ind{P:V->PyData->Prop}{Q:List V->List PyData->Prop}(non:P .non .none)(bl:∀b,P (.bl b) (.bool b))(int:∀i,P (.int i) (.int i))(str:∀x,P (.str x) (.str x))
  (lst:∀{a xs ds},Bx S (fun H=>SqL K H a xs) H->Q xs ds->P (.ref a) (.list ds)) (tup:∀{a xs ds},Bx S (fun H=>SqT K H a xs) H->Q xs ds->P (.ref a) (.tuple ds)) (nil:Q [] []) (cons:∀{x d xs ds},P x d->Q xs ds->Q (x::xs) (d::ds)) :
  (∀{v d},Fz K S H v d->P v d)/\∀{vs ds},FzA K S H vs ds->Q vs ds :=
 ⟨fun h=>Fz.rec non bl int str (fun h _ i=>lst h i) (fun h _ i=>tup h i) nil (fun _ _ i j=>cons i j) h,
  fun h=>FzA.rec non bl int str (fun h _ i=>lst h i) (fun h _ i=>tup h i) nil (fun _ _ i j=>cons i j) h⟩
theorem Fz.step_(k:Kp S H H')(n:∀b,S' b->S b\/H b=none):(∀{v:V} {d:PyData},Fz K S H v d->Fz K S' H' v d)/\∀{vs:List V} {ds:List PyData},FzA K S H vs ds->FzA K S' H' vs ds :=
 Fz.ind .non .bl .int .str (fun h t=>.lst (h.step k n) t) (fun h t=>.tup (h.step k n) t) .nil (fun r t=>.cons r t)
theorem Fz.step(k:Kp S H H')(n:∀b,S' b->S b\/H b=none){v:V}{d:PyData}(h:Fz K S H v d):Fz K S' H' v d:=(Fz.step_ k n).1 h
theorem FzA.step(k:Kp S H H')(n:∀b,S' b->S b\/H b=none){vs:List V}{ds:List PyData}(h:FzA K S H vs ds):FzA K S' H' vs ds:=(Fz.step_ k n).2 h
theorem Fz.dt_:(∀{v:V} {d:PyData},Fz K S H v d->Dt K H v d)/\∀{vs:List V} {ds:List PyData},FzA K S H vs ds->DtAll K H vs ds :=
 Fz.ind .non .bl .int .str (fun h t=>.lst h.now t) (fun h t=>.tup h.now t) .nil (fun r t=>.cons r t)
theorem Fz.dt(h:Fz K S H v d):Dt K H v d:=Fz.dt_.1 h
theorem Fz.of0(h:Dt K H v d):Fz K (fun _=>False) H v d :=
 Dt.rec .non .bl .int .str (fun h _ t=>.lst (fun H' k=>k.keep.same.seq h) t) (fun h _ t=>.tup (fun H' k=>k.keep.same.tupS h) t) .nil (fun _ _ r t=>.cons r t) h
theorem FzA.of0:∀{vs:List V} {ds:List PyData},DtAll K H vs ds->FzA K (fun _=>False) H vs ds:=by
 intro vs
 induction vs with
 | nil=>intro ds h;cases h;exact .nil
 | cons v vs ih=>intro ds h;cases h with | cons r t=>exact .cons (Fz.of0 r) (ih t)
theorem Fz.sub(h:∀b,S' b->S b)(f:Fz K S H v d):Fz K S' H v d:=f.step (Kp.refl _ _) fun b z=>.inl (h b z)
theorem FzA.sub(h:∀b,S' b->S b)(f:FzA K S H v d):FzA K S' H v d:=f.step (Kp.refl _ _) fun b z=>.inl (h b z)
theorem FzA.length(h:FzA K S H vs ds):vs.length=ds.length:=by
 induction vs generalizing ds with
 | nil=>cases h;rfl
 | cons v vs ih=>cases h with | cons _ t=>rw[aap,aap,ih t]
theorem Fz.list_inv(h:Fz K S H v (.list ds)):∃a xs,v=.ref a/\Bx S (fun H=>SqL K H a xs) H/\FzA K S H xs ds:=by
 cases h with | lst h t=>exact⟨_,_,rfl,h,t⟩
theorem Fz.tup_inv(h:Fz K S H v (.tuple ds)):∃a xs,v=.ref a/\Bx S (fun H=>SqT K H a xs) H/\FzA K S H xs ds:=by
 cases h with | tup h t=>exact⟨_,_,rfl,h,t⟩
theorem yN(h:H a=some (.lst xs))(n:¬ S a):Bx S (fun H=>SqL K H a xs) H:=fun _ k=>SqL.of (k.k _ _ h n)
theorem rk(h:H a=some (.tup xs))(n:¬ S a):Bx S (fun H=>SqT K H a xs) H:=fun _ k=>SqT.of (k.k _ _ h n)
end
inductive OD where
 | fz (d:PyData) | lst (xs:List OD) | tup (xs:List OD) | dic (ks:List Key) (xs:List OD) | obj (c:Str) (ns:List Str) (xs:List OD) | pin (l:Bool) (xs:List V) (ds:List PyData) | hole (v:V)
mutual
def OD.dat:OD->Option PyData
 | .fz d=>some d
 | .lst xs=>match OD.dats xs with | some ds=>some (.list ds) | none=>none
 | .tup xs=>match OD.dats xs with | some ds=>some (.tuple ds) | none=>none
 | .dic _ _=>none
 | .obj _ _ _=>none
 | .pin l _ ds=>some (if l then .list ds else .tuple ds)
 | .hole _=>none
def OD.dats:List OD->Option (List PyData)
 | []=>some []
 | x::xs=>match x.dat with
  | some d=>match OD.dats xs with | some ds=>some (d::ds) | none=>none
  | none=>none
end
def am(K:WF)(c:Str):Addr:=match PySem.W.nsIn K mainGlobals c with | some (some (.ref C))=>C | _=>0
structure Bs where
 K:WF
 H0:Hp
 S0:Addr->Prop
 C:Addr->Prop
mutual
inductive Ow (b:Bs)(S:Addr->Prop)(H:Hp):V->OD->List Addr->Prop
 | fz {v d}:Fz b.K S H v d->Ow b S H v (.fz d) []
 | lst {a vs xs A}:H a=some (.lst vs)->Ows b S H vs xs A->Ow b S H (.ref a) (.lst xs) (a::A)
 | tup {a vs xs A}:H a=some (.tup vs)->Ows b S H vs xs A->Ow b S H (.ref a) (.tup xs) A
 | dic {a ws ks vs xs A}:H a=some (.dK ws)->ws.map (·.1)=ks->ws.map (·.2)=vs->Ows b S H vs xs A->Ow b S H (.ref a) (.dic ks xs) (a::A)
 | obj {a dx c fs ns vs xs A}:H a=some (.ins (am b.K c) dx fs)->H dx=some (.own a)->fs.map (·.1)=ns->fs.map (·.2)=vs->Ows b S H vs xs A->Ow b S H (.ref a) (.obj c ns xs) (a::dx::A)
 | pinL {a xs ds}:Bx S (fun H=>SqL b.K H a xs) H->FzA b.K S H xs ds->Ow b S H (.ref a) (.pin true xs ds) []
 | pinT {a xs ds}:Bx S (fun H=>SqT b.K H a xs) H->FzA b.K S H xs ds->Ow b S H (.ref a) (.pin false xs ds) []
 | hole {v u}:v=u->Ow b S H v (.hole u) []
inductive Ows (b:Bs)(S:Addr->Prop)(H:Hp):List V->List OD->List Addr->Prop
 | nil:Ows b S H [] [] []
 | cons {v x A vs xs B}:Ow b S H v x A->Ows b S H vs xs B->Ows b S H (v::vs) (x::xs) (A++B)
end
abbrev OwL(b:Bs)(S:Addr->Prop)(H:Hp)(L:List (V × OD))(A:List Addr):Prop:=Ows b S H (L.map (·.1)) (L.map (·.2)) A
def MutO:HO->Prop
 | .lst _=>True | .dK _=>True | .ins _ _ _=>True | .own _=>True
 | _=>False
section
variable{b:Bs}{S T S':Addr->Prop}{H H1 H' H2:Hp}
theorem Ows.len(h:Ows b S H vs xs A):vs.length=xs.length:=by
 induction vs generalizing xs A with
 | nil=>cases h;rfl
 | cons v vs ih=>cases h with | cons _ t=>rw[aap,aap,ih t]
theorem Ow.ind{P:V->OD->List Addr->Prop}{Q:List V->List OD->List Addr->Prop}(fz:∀{v d},Fz b.K S H v d->P v (.fz d) [])(lst:∀{a vs xs A},H a=some (.lst vs)->Q vs xs A->P (.ref a) (.lst xs) (a::A))(tup:∀{a vs xs A},H a=some (.tup vs)->Q vs xs A->P (.ref a) (.tup xs) A)
  (dic:∀{a ws ks vs xs A},H a=some (.dK ws)->ws.map (·.1)=ks->ws.map (·.2)=vs->Q vs xs A->P (.ref a) (.dic ks xs) (a::A)) (obj:∀{a dx c fs ns vs xs A},H a=some (.ins (am b.K c) dx fs)->H dx=some (.own a)->fs.map (·.1)=ns->fs.map (·.2)=vs->Q vs xs A->P (.ref a) (.obj c ns xs) (a::dx::A))
  (pinL:∀{a xs ds},Bx S (fun H=>SqL b.K H a xs) H->FzA b.K S H xs ds->P (.ref a) (.pin true xs ds) []) (pinT:∀{a xs ds},Bx S (fun H=>SqT b.K H a xs) H->FzA b.K S H xs ds->P (.ref a) (.pin false xs ds) []) (hole:∀{v u},v=u->P v (.hole u) [])
  (nil:Q [] [] []) (cons:∀{v x A vs xs B},P v x A->Q vs xs B->Q (v::vs) (x::xs) (A++B)):(∀{v x A},Ow b S H v x A->P v x A)/\∀{vs xs A},Ows b S H vs xs A->Q vs xs A :=
 ⟨fun h=>Ow.rec fz (fun e _ i=>lst e i) (fun e _ i=>tup e i) (fun e h1 h2 _ i=>dic e h1 h2 i) (fun e e2 h1 h2 _ i=>obj e e2 h1 h2 i) pinL pinT hole nil (fun _ _ i j=>cons i j) h,
  fun h=>Ows.rec fz (fun e _ i=>lst e i) (fun e _ i=>tup e i) (fun e h1 h2 _ i=>dic e h1 h2 i) (fun e e2 h1 h2 _ i=>obj e e2 h1 h2 i) pinL pinT hole nil (fun _ _ i j=>cons i j) h⟩
theorem m8{P:Addr->Prop}(h:P a)(t:∀c∈A,P c):∀c∈a::A,P c:=fun c hc=>(aac.mp hc).elim (fun e=>e ▸ h) (t c)
theorem Ow.mu_:(∀{v:V} {x:OD} {A:List Addr},Ow b S H v x A->∀a∈A,∃o,H a=some o/\MutO o)/\∀{vs:List V} {xs:List OD} {A:List Addr},Ows b S H vs xs A->∀a∈A,∃o,H a=some o/\MutO o :=
 Ow.ind (fun _ _ h=>absurd h aak) (fun e i=>m8 ⟨_,e,trivial⟩ i) (fun _ i=>i) (fun e _ _ i=>m8 ⟨_,e,trivial⟩ i) (fun e e2 _ _ i=>m8 ⟨_,e,trivial⟩ (m8 ⟨_,e2,trivial⟩ i)) (fun _ _ _ h=>absurd h aak) (fun _ _ _ h=>absurd h aak) (fun _ _ h=>absurd h aak) (fun _ h=>absurd h aak) (fun i j a h=>(aai.mp h).elim (i a) (j a))
theorem Ow.mu(h:Ow b S H v x A):∀a∈A,∃o,H a=some o/\MutO o:=Ow.mu_.1 h
theorem Ows.mu(h:Ows b S H vs xs A):∀a∈A,∃o,H a=some o/\MutO o:=Ow.mu_.2 h
theorem Ows.ne(h:Ows b S H vs xs A):∀a∈A,H a≠none:=fun a ha e=>by
 obtain⟨o,q,_⟩:=h.mu a ha
 rw[q]at e;cases e
theorem Ows.tl(h:Ows b S H vs xs A):∀a∈A,∀ys,H a≠some (.tup ys):=fun a ha ys e=>by
 obtain⟨o,q,m⟩:=h.mu a ha
 rw[q]at e;cases e;exact m
theorem Ow.step_(hK:b2.K=b.K)(k:Kp S H H')(n:∀b,S' b->S b\/H b=none)(hs:∀a xs,H a=some (.tup xs)->¬ S a):(∀{v:V} {x:OD} {A:List Addr},Ow b S H v x A->(∀a∈A,H' a=H a)->Ow b2 S' H' v x A)/\∀{vs:List V} {xs:List OD} {A:List Addr},Ows b S H vs xs A->(∀a∈A,H' a=H a)->Ows b2 S' H' vs xs A :=
 Ow.ind (fun f _=>.fz (hK ▸ f.step k n)) (fun e i s=>.lst ((s _ aaj).trans e) (i fun a h=>s a (aag _ h))) (fun e i s=>.tup (k.k _ _ e (hs _ _ e)) (i s)) (fun e h1 h2 i s=>.dic ((s _ aaj).trans e) h1 h2 (i fun a h=>s a (aag _ h)))
  (fun e e2 h1 h2 i s=>.obj (hK ▸ (s _ aaj).trans e) ((s _ (aag _ aaj)).trans e2) h1 h2 (i fun a h=>s a (aag _ (aag _ h)))) (fun h t _=>.pinL (hK ▸ h.step k n) (hK ▸ t.step k n)) (fun h t _=>.pinT (hK ▸ h.step k n) (hK ▸ t.step k n)) (fun e _=>.hole e) (fun _=>.nil) (fun i j s=>.cons (i fun a h=>s a (aad _ h)) (j fun a h=>s a (aab _ h)))
theorem Ow.step(k:Kp S H H')(n:∀b,S' b->S b\/H b=none)(hs:∀a xs,H a=some (.tup xs)->¬ S a){v:V}{x:OD}{A:List Addr}(s:∀a∈A,H' a=H a)(h:Ow b S H v x A):Ow b S' H' v x A:=(Ow.step_ rfl k n hs).1 h s
theorem Ows.step(k:Kp S H H')(n:∀b,S' b->S b\/H b=none)(hs:∀a xs,H a=some (.tup xs)->¬ S a){vs:List V}{xs:List OD}{A:List Addr}(s:∀a∈A,H' a=H a)(h:Ows b S H vs xs A):Ows b S' H' vs xs A:=(Ow.step_ rfl k n hs).2 h s
theorem Ow.sub(hs:∀a xs,H a=some (.tup xs)->¬ S a)(n:∀c,S' c->S c)(h:Ow b S H v x A):Ow b S' H v x A:=h.step (Kp.refl _ _) (fun c z=>.inl (n c z)) hs (fun _ _=>rfl)
theorem Ows.sub(hs:∀a xs,H a=some (.tup xs)->¬ S a)(n:∀c,S' c->S c)(h:Ows b S H v x A):Ows b S' H v x A:=h.step (Kp.refl _ _) (fun c z=>.inl (n c z)) hs (fun _ _=>rfl)
theorem Ows.subB(hK:b2.K=b.K)(hs:∀a xs,H a=some (.tup xs)->¬ S a)(n:∀c,S' c->S c)(h:Ows b S H v x A):Ows b2 S' H v x A:=(Ow.step_ hK (Kp.refl _ _) (fun c z=>.inl (n c z)) hs).2 h fun _ _=>rfl
theorem uU(h:(OD.lst xs).dat=some d):∃ds,OD.dats xs=some ds/\d=.list ds:=by
 rw[OD.dat]at h
 cases z:OD.dats xs with
 | none=>rw[z]at h;cases h
 | some ds=>rw[z]at h;cases h;exact⟨ds,rfl,rfl⟩
theorem uV(h:(OD.tup xs).dat=some d):∃ds,OD.dats xs=some ds/\d=.tuple ds:=by
 rw[OD.dat]at h
 cases z:OD.dats xs with
 | none=>rw[z]at h;cases h
 | some ds=>rw[z]at h;cases h;exact⟨ds,rfl,rfl⟩
theorem pL(h:OD.dats (x::xs)=some es):∃d ds,x.dat=some d/\OD.dats xs=some ds/\es=d::ds:=by
 rw[OD.dats]at h
 cases z:x.dat with
 | none=>rw[z]at h;cases h
 | some d =>
  cases z2:OD.dats xs with
  | none=>rw[z,z2]at h;cases h
  | some ds=>rw[z,z2]at h;cases h;exact⟨d,ds,rfl,rfl,rfl⟩
theorem Ow.frz_(hS:∀a,S' a->S a)(nt:∀a xs,H a=some (.tup xs)->¬ S a):(∀{v:V} {x:OD} {A:List Addr},Ow b S H v x A->∀d:PyData,(∀a∈A,¬ S' a)->x.dat=some d->Fz b.K S' H v d)/\∀{vs:List V} {xs:List OD} {A:List Addr},Ows b S H vs xs A->∀ds:List PyData,(∀a∈A,¬ S' a)->OD.dats xs=some ds->FzA b.K S' H vs ds:=by
 refine Ow.ind (P:=fun v x A=>∀d:PyData,(∀a∈A,¬ S' a)->x.dat=some d->Fz b.K S' H v d) (Q:=fun vs xs A=>∀ds:List PyData,(∀a∈A,¬ S' a)->OD.dats xs=some ds->FzA b.K S' H vs ds) ?_ ?_ ?_ (fun _ _ _ _ _ _ q=>?_) (fun _ _ _ _ _ _ _ q=>?_) ?_ ?_ (fun _ _ _ q=>?_) ?_ ?_
 ·intro v d f d' _ q;cases q;exact f.sub hS
 ·intro a vs xs A e i d hA q
  obtain⟨ds,z,rfl⟩:=uU q
  exact .lst (yN e (hA _ aaj)) (i ds (fun a h=>hA a (aag _ h)) z)
 ·intro a vs xs A e i d hA q
  obtain⟨ds,z,rfl⟩:=uV q
  exact .tup (rk e fun y=>nt _ _ e (hS _ y)) (i ds hA z)
 ·cases q
 ·cases q
 ·intro a xs ds h t d _ q;cases q;exact .lst (h.step (Kp.refl _ _) fun c z=>.inl (hS c z)) (t.sub hS)
 ·intro a xs ds h t d _ q;cases q;exact .tup (h.step (Kp.refl _ _) fun c z=>.inl (hS c z)) (t.sub hS)
 ·cases q
 ·intro ds _ q;cases q;exact .nil
 ·intro v x A vs xs B i j es hA q
  obtain⟨d,ds,z1,z2,rfl⟩:=pL q
  exact .cons (i d (fun a h=>hA a (aad _ h)) z1) (j ds (fun a h=>hA a (aab _ h)) z2)
theorem Ow.frz(hS:∀a,S' a->S a)(nt:∀a xs,H a=some (.tup xs)->¬ S a)(hA:∀a∈A,¬ S' a)(h:Ow b S H v x A)(q:x.dat=some d):Fz b.K S' H v d:=(Ow.frz_ hS nt).1 h d hA q
theorem Ows.append(h:Ows b S H vs xs A)(h':Ows b S H us ys B):Ows b S H (vs++us) (xs++ys) (A++B):=by
 induction vs generalizing xs A with
 | nil=>cases h;exact h'
 | cons v vs ih=>cases h with | cons r t=>rw[aah];exact .cons r (ih t)
theorem Ows.split(e:vs.length=xs.length)(h:Ows b S H (vs++us) (xs++ys) A):∃A1 A2,A=A1++A2/\Ows b S H vs xs A1/\Ows b S H us ys A2:=by
 induction vs generalizing xs A with
 | nil =>
  cases xs with
  | nil=>exact⟨[],A,rfl,.nil,h⟩
  | cons _ _=>cases e
 | cons v vs ih =>
  cases xs with
  | nil=>cases e
  | cons x xs =>
   cases h with
   | cons r t =>
    obtain⟨A1,A2,rfl,h1,h2⟩:=ih (Nat.succ.inj e) t
    exact⟨_,A2,(aah ..).symm,.cons r h1,h2⟩
theorem OwL.split'(h:OwL b S H (L1++L2) A):∃A1 A2,A=A1++A2/\OwL b S H L1 A1/\OwL b S H L2 A2:=by
 unfold OwL at h
 rw[aax,aax]at h
 exact Ows.split (by simp) h
theorem OwL.join'(h1:OwL b S H L1 A1)(h2:OwL b S H L2 A2):OwL b S H (L1++L2) (A1++A2):=by
 unfold OwL
 rw[aax,aax]
 exact Ows.append h1 h2
theorem OwL.perm(p:L.Perm L'):∀{A:List Addr},OwL b S H L A->∃A',OwL b S H L' A'/\A.Perm A':=by
 induction p with
 | nil=>intro A h;exact⟨A,h,.refl _⟩
 | cons x _ ih =>
  intro A h
  cases h with
  | cons r t=>obtain⟨B,h2,q⟩:=ih t;exact⟨_,.cons r h2,q.append_left _⟩
 | swap x y l =>
  intro A h
  cases h with
  | cons r t =>
   cases t with
   | cons r' t' =>
    refine⟨_,.cons r' (.cons r t'),?_⟩
    rw[<- aah,<- aah]
    exact aaT.append_right _
 | trans _ _ ih1 ih2 =>
  intro A h
  obtain⟨B,h1,p1⟩:=ih1 h
  obtain⟨C,h2,p2⟩:=ih2 h1
  exact⟨C,h2,p1.trans p2⟩
theorem OwL.mem:∀{A:List Addr},OwL b S H L A->∀{x:V × OD},x∈L->∃B,Ow b S H x.1 x.2 B:=by
 induction L with
 | nil=>intro A h x hx;cases hx
 | cons y L ih =>
  intro A h x hx
  cases h with
  | cons r t =>
   rcases aac.mp hx with rfl | hx
   ·exact⟨_,r⟩
   ·exact ih t hx
theorem Ows.zip(h:Ows b S H vs xs A)(e:xs[k]?=some x):∃v A1 B A2,vs[k]?=some v/\A=A1++(B++A2)/\Ow b S H v x B /\
  ∀{S':Addr->Prop} {H':Hp} {u:V} {y:OD} {B':List Addr},Ow b S' H' u y B'->(∀{v:V} {x:OD} {C:List Addr},(∀a∈C,a∈A1\/a∈A2)->Ow b S H v x C->Ow b S' H' v x C)->Ows b S' H' (vs.set k u) (xs.set k y) (A1++(B'++A2)):=by
 induction vs generalizing xs A k with
 | nil=>cases h;cases k<;>cases e
 | cons v vs ih =>
  cases h with
  | @cons _ x0 A _ xs B r t =>
   cases k with
   | zero =>
    cases e
    refine⟨v,[],A,B,rfl,rfl,r,fun {S' H' u y B'} h g=>Ows.cons (B:=B) h ?_⟩
    have go:∀{vs:List V} {xs:List OD} {D:List Addr},(∀a∈D,a∈B)->Ows b S H vs xs D->Ows b S' H' vs xs D:=fun {vs xs D} s h=>by
     induction xs generalizing vs D with
     | nil=>cases h;exact .nil
     | cons x xs ih=>cases h with | cons r t=>exact .cons (g (fun a h=>.inr (s a (aad _ h))) r) (ih (fun a h=>s a (aab _ h)) t)
    exact go (fun a h=>h) t
   | succ k =>
    obtain⟨v',A1,B1,A2,h1,h2,h3,h4⟩:=ih t e
    subst h2
    refine⟨v',A++A1,B1,A2,h1,(aah ..).symm,h3,fun h g=>?_⟩
    rw[aaD,aaD,aah]
    exact .cons (g (fun a h=>.inl (aad _ h)) r) (h4 h fun s h=>g (fun a z=>(s a z).imp (aab _) id) h)
end
end
section
structure Wd (b:Bs)(H:Hp)(L:List (V × OD)):Prop where
 out:∃A,OwL b (fun a=>a∈A\/b.S0 a) H L A/\A.Nodup/\∀a∈A,b.H0 a=none\/b.C a
 fr:Kp b.C b.H0 H
 s0:∀a,b.S0 a->b.H0 a≠none/\¬ b.C a
 nt:∀a xs,H a=some (.tup xs)->¬ b.S0 a
section
variable{b:Bs}{H H1 H':Hp}{L L':List (V × OD)}{v u:V}{x y:OD}{d:PyData}{ds:List PyData}{p a:Addr}
theorem Wd.nt'(w:Wd b H L)(h:OwL b (fun a=>a∈A\/b.S0 a) H L A):∀a xs,H a=some (.tup xs)->¬ (a∈A\/b.S0 a):=fun a xs e z=>z.elim (fun z=>Ows.tl h a z xs e) (w.nt a xs e)
theorem Wd.al(w:Wd b H L)(h:OwL b (fun a=>a∈A\/b.S0 a) H L A)(e:H a=none):¬ (a∈A\/b.S0 a):=fun z=>z.elim (fun z=>Ows.ne h a z e) fun z=>(w.s0 a z).1 (w.fr.n a e)
theorem Wd.dj(w:Wd b H L){A:List Addr}(new:∀a∈A,b.H0 a=none\/b.C a):∀a∈A,¬ b.S0 a:=fun a ha z=>(new a ha).elim (w.s0 a z).1 (w.s0 a z).2
theorem Wd.perm(w:Wd b H L)(q:L.Perm L'):Wd b H L':=by
 obtain⟨A,h,nd,new⟩:=w.out
 obtain⟨A',h',pA⟩:=OwL.perm q h
 refine⟨⟨A',Ows.step (Kp.refl _ _) (fun c z=>.inl (z.imp (pA.mem_iff.mpr) id)) (w.nt' h) (fun _ _=>rfl) h',pA.nodup_iff.mp nd,fun a ha=>new a (pA.mem_iff.mpr ha)⟩,w.fr,w.s0,w.nt⟩
theorem Wd.drop(w:Wd b H ((v,x)::L)):Wd b H L:=by
 obtain⟨A,h,nd,new⟩:=w.out
 have nt:=w.nt' h
 cases h with
 | @cons _ _ A _ _ B r t =>
  exact⟨⟨B,Ows.step (Kp.refl _ _) (fun c z=>.inl (z.imp (aab _) id)) nt (fun _ _=>rfl) t,(aaC.mp nd).2.1,fun a ha=>new a (aab _ ha)⟩,w.fr,w.s0,w.nt⟩
theorem Wd.drops(w:Wd b H (L1++L2)):Wd b H L2:=by
 induction L1 with
 | nil=>exact w
 | cons z L1 ih=>exact ih (Wd.drop w)
theorem Wd.puts(w:Wd b H (L1++L))(h:∀(S:Addr->Prop) (A:List Addr),OwL b S H L1 A->A.Nodup->(∀a∈A,S a)->(∀a,H a=none->¬ S a)->(∀a xs,H a=some (.tup xs)->¬ S a) ->
  ∃A',OwL b (fun a=>(S a/\a ∉ A)\/a∈A') H L2 A'/\A'.Nodup/\∀a∈A',a∈A):Wd b H (L2++L):=by
 obtain⟨A0,h0,nd,new⟩:=w.out
 have nt:=w.nt' h0
 have al:=fun {a}=>w.al h0 (a:=a)
 have ds:=w.dj new
 obtain⟨A,B,rfl,r,t⟩:=OwL.split' h0
 obtain⟨nA,nB,dj⟩:=aaC.mp nd
 obtain⟨A',h1,n',s'⟩:=h _ A r nA (fun a z=>.inl (aad _ z)) (fun a e=>al e) nt
 have sub:∀c,(c∈A'++B\/b.S0 c)->(c∈A++B\/b.S0 c):=fun c z=>z.imp (fun z=>(aai.mp z).elim (fun z=>aad _ (s' c z)) (aab _)) id
 refine⟨⟨A'++B,OwL.join' (Ows.step (Kp.refl _ _) (fun c z=>.inl ?_) (fun a xs e z=>?_) (fun _ _=>rfl) h1) (Ows.step (Kp.refl _ _) (fun c z=>.inl (sub c z)) nt (fun _ _=>rfl) t),aaC.mpr ⟨n',nB,fun a ha c hc=>dj a (s' a ha) c hc⟩,fun a ha=>?_⟩,w.fr,w.s0,w.nt⟩
 ·by_cases hc:c∈A'
  ·exact .inr hc
  ·refine .inl ⟨sub c z,fun hA=>?_⟩
   rcases z with z | z
   ·rcases aai.mp z with z | z
    ·exact hc z
    ·exact dj c hA c z rfl
   ·exact ds c (aad _ hA) z
 ·rcases z with z | z
  ·exact nt a xs e z.1
  ·exact nt a xs e (.inl (aad _ (s' a z)))
 ·rcases aai.mp ha with z | z
  ·exact new a (aad _ (s' a z))
  ·exact new a (aab _ z)
theorem OwL.one(h:OwL b S H [(v,x)] A):Ow b S H v x A:=by
 cases h with
 | cons r t=>cases t;rw[aaq];exact r
theorem OwL.of1(h:Ow b S H v x A):OwL b S H [(v,x)] A:=by
 have:=Ows.cons h (Ows.nil )
 rw[aaq]at this
 exact this
theorem Wd.frz(w:Wd b H ((v,x)::L))(e:x.dat=some d):Wd b H ((v,.fz d)::L):=by
 refine Wd.puts (L1:=[(v,x)]) w fun S A h nd hA al nt=>⟨[],OwL.of1 (.fz ?_),aa8,fun a z=>by cases z⟩
 exact Ow.frz (fun a z=>z.elim (·.1) (fun z=>by cases z)) nt (fun a ha z=>z.elim (fun z=>z.2 ha) (fun z=>by cases z)) h.one e
theorem Wd.dt(w:Wd b H ((v,x)::L))(e:x.dat=some d):Dt b.K H v d:=by
 obtain⟨A,h0,nd,new⟩:=w.out
 obtain⟨B,h⟩:=OwL.mem h0 (x:=(v,x)) (by simp)
 exact (Ow.frz (fun a z=>z.elim) (w.nt' h0) (fun a _ z=>z) h e).dt
theorem Wd.memDt(w:Wd b H L)(m:(v,x)∈L)(e:x.dat=some d):Dt b.K H v d:=by
 obtain⟨A,h0,nd,new⟩:=w.out
 obtain⟨B,h⟩:=OwL.mem h0 m
 exact (Ow.frz (fun a z=>z.elim) (w.nt' h0) (fun a _ z=>z) h e).dt
def FrzIn(b:Bs)(S:Addr->Prop)(H:Hp)(L:List (V × OD)):Prop:=∀u e,(u,OD.fz e)∈L->Fz b.K S H u e
theorem OwL.frzIn(h:OwL b S H L A):FrzIn b S H L:=fun u e m=>by
 obtain⟨B,q⟩:=OwL.mem h m
 cases q with | fz f=>exact f
theorem FrzIn.all(h:FrzIn b S H L):∀{vs:List V} {ds:List PyData},vs.length=ds.length->(∀z∈vs.zip (ds.map OD.fz),z∈L)->FzA b.K S H vs ds
 | [],[],_,_=>.nil
 | v::vs,d::ds,e,m=>.cons (h v d (m _ (by simp))) (FrzIn.all h (by simpa using e) fun z hz=>m z (by simp[hz]))
theorem Wd.add(w:Wd b H L)(h:∀S:Addr->Prop,(∀(x:V × OD),x∈L->∃A,Ow b S H x.1 x.2 A)->(∀a,H a=none->¬ S a)->(∀a xs,H a=some (.tup xs)->¬ S a)->Fz b.K S H v d):Wd b H ((v,.fz d)::L):=by
 obtain⟨A,h0,nd,new⟩:=w.out
 exact⟨⟨A,Ows.cons (.fz (h _ (fun x hx=>OwL.mem h0 hx) (fun a e=>w.al h0 e) (w.nt' h0))) h0,nd,new⟩,w.fr,w.s0,w.nt⟩
theorem Wd.adds(w:Wd b H L)(h:∀S:Addr->Prop,(∀(x:V × OD),x∈L->∃A,Ow b S H x.1 x.2 A)->FzA b.K S H vs ds):Wd b H (vs.zip (ds.map OD.fz)++L):=by
 obtain⟨A,h0,nd,new⟩:=w.out
 have q:∀{vs:List V} {ds:List PyData},FzA b.K (fun a=>a∈A\/b.S0 a) H vs ds->OwL b (fun a=>a∈A\/b.S0 a) H (vs.zip (ds.map OD.fz)) []:=by
  intro vs
  induction vs with
  | nil=>intro ds h;cases h;exact .nil
  | cons v vs ih=>intro ds h;cases h with | cons r t=>exact Ows.cons (.fz r) (ih t)
 exact⟨⟨A,OwL.join' (q (h _ fun x hx=>OwL.mem h0 hx)) h0,nd,new⟩,w.fr,w.s0,w.nt⟩
theorem Wd.dup(w:Wd b H ((v,.fz d)::L)):Wd b H ((v,.fz d)::(v,.fz d)::L):=w.add fun S h _ _=>by
 obtain⟨A,q⟩:=h (v,.fz d) (by simp)
 cases q with | fz f=>exact f
inductive Sc:V->PyData->Prop
 | non:Sc .non .none
 | bl (b:Bool):Sc (.bl b) (.bool b)
 | int (i:Int):Sc (.int i) (.int i)
 | str (x:Str):Sc (.str x) (.str x)
theorem Sc.fz{K:WF}(h:Sc v d):Fz K S H v d:=by cases h<;>constructor
theorem Wd.sc(w:Wd b H L)(h:Sc v d):Wd b H ((v,.fz d)::L):=w.add fun S _ _ _=>h.fz
theorem Wd.new(w:Wd b H L)(hp:H p=none):Wd b (upd H p o) L:=by
 obtain⟨A,h,nd,new⟩:=w.out
 have np:=w.al h hp
 refine⟨⟨A,Ows.step (Kp.put (.inr hp)) (fun c z=>.inl z) (w.nt' h) (fun a ha=>upd_ne fun e=>np (.inl (e ▸ ha))) h,nd,new⟩,w.fr.trans (Kp.put (.inr hp)),w.s0,fun a xs e z=>?_⟩
 by_cases q:a=p
 ·subst q;exact np (.inr z)
 ·rw[upd_ne q]at e;exact w.nt a xs e z
theorem Wd.newC(w:Wd b H L)(hp:H p=none):b.H0 p=none:=w.fr.n p hp
theorem jp:∀{vs:List V} {xs:List OD},vs.length=xs.length->(vs.zip xs).map (·.1)=vs
 | [],[],_=>rfl
 | _::_,_::_,e=>by rw[abx,aal,jp (by simpa using e)]
 | [],_::_,e=>by simp at e
 | _::_,[],e=>by simp at e
theorem jq:∀{vs:List V} {xs:List OD},vs.length=xs.length->(vs.zip xs).map (·.2)=xs
 | [],[],_=>rfl
 | _::_,_::_,e=>by rw[abx,aal,jq (by simpa using e)]
 | [],_::_,e=>by simp at e
 | _::_,[],e=>by simp at e
theorem OwL.zips(e:vs.length=xs.length)(h:OwL b S H (vs.zip xs) A):Ows b S H vs xs A:=by
 unfold OwL at h
 rw[jp e,jq e]at h
 exact h
theorem OwL.unzips(h:Ows b S H vs xs A):OwL b S H (vs.zip xs) A:=by
 unfold OwL
 rw[jp h.len,jq h.len]
 exact h
theorem Wd.newTup(w:Wd b H L)(h:∀S,FrzIn b S H L->FzA b.K S H vs ds)(hp:H p=none):Wd b (upd H p (.tup vs)) ((.ref p,.fz (.tuple ds))::L):=by
 obtain⟨A,h0,nd,new⟩:=w.out
 have np:=w.al h0 hp
 have hf:=h _ (OwL.frzIn h0)
 have w':=w.new hp (o:=.tup vs)
 refine⟨⟨A,Ows.cons (.fz (.tup (rk ar np) (hf.step (Kp.put (.inr hp)) fun c z=>.inl z))) (Ows.step (Kp.put (.inr hp)) (fun c z=>.inl z) (w.nt' h0) (fun a ha=>upd_ne fun e=>np (.inl (e ▸ ha))) h0),nd,new⟩,w'.fr,w'.s0,w'.nt⟩
theorem Wd.newTupC(w:Wd b H (vs.zip xs++L))(e:vs.length=xs.length)(hp:H p=none):Wd b (upd H p (.tup vs)) ((.ref p,.tup xs)::L):=by
 obtain⟨A,h0,nd,new⟩:=w.out
 have np:=w.al h0 hp
 have nt:=w.nt' h0
 have w':=w.new hp (o:=.tup vs)
 have up:∀a∈A,upd H p (.tup vs) a=H a:=fun a ha=>upd_ne fun e=>np (.inl (e ▸ ha))
 obtain⟨A1,A2,rfl,h1,h2⟩:=OwL.split' h0
 refine⟨⟨A1++A2,Ows.cons (.tup ar (Ows.step (Kp.put (.inr hp)) (fun c z=>.inl z) nt (fun a ha=>up a (aad _ ha)) (OwL.zips e h1))) (Ows.step (Kp.put (.inr hp)) (fun c z=>.inl z) nt (fun a ha=>up a (aab _ ha)) h2),nd,new⟩,w'.fr,w'.s0,w'.nt⟩
theorem Wd.newLst(w:Wd b H (vs.zip xs++L))(e:vs.length=xs.length)(hp:H p=none):Wd b (upd H p (.lst vs)) ((.ref p,.lst xs)::L):=by
 obtain⟨A,h0,nd,new⟩:=w.out
 have np:=w.al h0 hp
 have nt:=w.nt' h0
 have w':=w.new hp (o:=.lst vs)
 have up:∀a∈A,upd H p (.lst vs) a=H a:=fun a ha=>upd_ne fun e=>np (.inl (e ▸ ha))
 obtain⟨A1,A2,rfl,h1,h2⟩:=OwL.split' h0
 have n:∀c,(c∈p::(A1++A2)\/b.S0 c)->(c∈A1++A2\/b.S0 c)\/H c=none:=fun c z=>by
  rcases z with z | z
  ·rcases aac.mp z with rfl | z
   ·exact .inr hp
   ·exact .inl (.inl z)
  ·exact .inl (.inr z)
 refine⟨⟨p::(A1++A2),Ows.cons (.lst ar (Ows.step (Kp.put (.inr hp)) n nt (fun a ha=>up a (aad _ ha)) (OwL.zips e h1))) (Ows.step (Kp.put (.inr hp)) n nt (fun a ha=>up a (aab _ ha)) h2),aaz.mpr ⟨fun z=>np (.inl z),nd⟩,fun a ha=>?_⟩,w'.fr,w'.s0,w'.nt⟩
 rcases aac.mp ha with rfl | ha
 ·exact .inl (w.newC hp)
 ·exact new a ha
theorem Wd.newDic(w:Wd b H L)(hp:H p=none):Wd b (upd H p (.dK [])) ((.ref p,.dic [] [])::L):=by
 obtain⟨A,h0,nd,new⟩:=w.out
 have np:=w.al h0 hp
 have nt:=w.nt' h0
 have w':=w.new hp (o:=.dK [])
 have n:∀c,(c∈p::A\/b.S0 c)->(c∈A\/b.S0 c)\/H c=none:=fun c z=>by
  rcases z with z | z
  ·rcases aac.mp z with rfl | z
   ·exact .inr hp
   ·exact .inl (.inl z)
  ·exact .inl (.inr z)
 refine⟨⟨p::A,Ows.cons (A:=[p]) (.dic ar rfl rfl .nil) (Ows.step (Kp.put (.inr hp)) n nt (fun a ha=>upd_ne fun e=>np (.inl (e ▸ ha))) h0),aaz.mpr ⟨fun z=>np (.inl z),nd⟩,fun a ha=>?_⟩,w'.fr,w'.s0,w'.nt⟩
 rcases aac.mp ha with rfl | ha
 ·exact .inl (w.newC hp)
 ·exact new a ha
end
def OD.kids:OD->List OD
 | .lst xs=>xs | .tup xs=>xs | .dic _ xs=>xs | .obj _ _ xs=>xs
 | _=>[]
def OD.setKid(k:Nat)(y:OD):OD->OD
 | .lst xs=>.lst (xs.set k y) | .tup xs=>.tup (xs.set k y) | .dic ks xs=>.dic ks (xs.set k y) | .obj c ns xs=>.obj c ns (xs.set k y)
 | x=>x
def OD.at:List Nat->OD->Option OD
 | [],x=>some x
 | k::ks,x=>match x.kids[k]? with | some z=>OD.at ks z | none=>none
def OD.put(y:OD):List Nat->OD->OD
 | [],_=>y
 | k::ks,x=>match x.kids[k]? with | some z=>OD.setKid k (OD.put y ks z) x | none=>x
inductive Chd (b:Bs)(H:Hp):V->OD->Nat->V->OD->Prop
 | lst {a vs xs k w z}:H a=some (.lst vs)->vs.length=xs.length->vs[k]?=some w->xs[k]?=some z->Chd b H (.ref a) (.lst xs) k w z
 | tup {a vs xs k w z}:H a=some (.tup vs)->vs.length=xs.length->vs[k]?=some w->xs[k]?=some z->Chd b H (.ref a) (.tup xs) k w z
 | dic {a ws ks xs k w z}:H a=some (.dK ws)->ws.map (·.1)=ks->ws.length=xs.length->(ws[k]?).map (·.2)=some w->xs[k]?=some z->Chd b H (.ref a) (.dic ks xs) k w z
 | obj {a dx c fs ns xs k w z}:H a=some (.ins (am b.K c) dx fs)->fs.map (·.1)=ns->fs.length=xs.length->(fs[k]?).map (·.2)=some w->xs[k]?=some z->Chd b H (.ref a) (.obj c ns xs) k w z
inductive Chn (b:Bs)(H:Hp):V->OD->List Nat->V->OD->Prop
 | nil {v x}:Chn b H v x [] v x
 | cons {v x k w z ks u y}:Chd b H v x k w z->Chn b H w z ks u y->Chn b H v x (k::ks) u y
section
variable{b:Bs}{S S':Addr->Prop}{H H1 H':Hp}{L L':List (V × OD)}{v u:V}{x y:OD}{d:PyData}{ds:List PyData}{p a:Addr}
theorem bB{α:Type}(A1 B A2:List α):(A1++(B++A2)).Perm (B++(A1++A2)):=by
 rw[<- aah,<- aah]
 exact aaT.append_right _
theorem bC{α:Type}:∀{l:List α} {i:Nat} {x:α},l[i]?=some x->l.set i x=l
 | [],_,_,e=>by simp at e
 | _::_,0,_,e=>by simp at e;subst e;rfl
 | y::l,i + 1,x,e=>by rw[aaD,bC (by simpa using e)]
theorem Ow.kid(h:Ow b S H v x A)(e:x.kids[k]?=some z):∃w B A',Chd b H v x k w z/\Ow b S H w z B/\A.Perm (B++A') /\
  ∀{S':Addr->Prop} {H':Hp} {z':OD} {B':List Addr},Kp S H H'->(∀c,S' c->S c\/H c=none)->(∀a xs,H a=some (.tup xs)->¬ S a)->(∀a∈A',H' a=H a)->Ow b S' H' w z' B'->∃A'',Ow b S' H' v (OD.setKid k z' x) A''/\A''.Perm (B'++A'):=by
 cases h with
 | fz _=>cases k<;>cases e
 | pinL _ _=>cases k<;>cases e
 | pinT _ _=>cases k<;>cases e
 | hole _=>cases k<;>cases e
 | @lst a vs xs A e1 t =>
  obtain⟨w,A1,B,A2,h1,rfl,h3,h4⟩:=t.zip e
  refine⟨w,B,a::(A1++A2),.lst e1 t.len h1 e,h3,((bB A1 B A2).cons a).trans aav.symm,fun {S' H' z' B'} k n hs s h=>?_⟩
  have:=h4 h fun sb h=>Ow.step k n hs (fun a ha=>s a (aag _ (aai.mpr (sb a ha)))) h
  rw[bC h1]at this
  exact⟨_,.lst ((s a aaj).trans e1) this,((bB A1 B' A2).cons a).trans aav.symm⟩
 | @tup a vs xs A e1 t =>
  obtain⟨w,A1,B,A2,h1,rfl,h3,h4⟩:=t.zip e
  refine⟨w,B,A1++A2,.tup e1 t.len h1 e,h3,bB A1 B A2,fun {S' H' z' B'} k n hs s h=>?_⟩
  have:=h4 h fun sb h=>Ow.step k n hs (fun a ha=>s a (aai.mpr (sb a ha))) h
  rw[bC h1]at this
  exact⟨_,.tup (k.k _ _ e1 (hs _ _ e1)) this,bB A1 B' A2⟩
 | @dic a ws ks vs xs A e1 h5 h6 t =>
  obtain⟨w,A1,B,A2,h1,rfl,h3,h4⟩:=t.zip e
  refine⟨w,B,a::(A1++A2),.dic e1 h5 (by rw[<- t.len,<- h6,aaa]) (by rw[<- h6]at h1;simpa using h1) e,h3,((bB A1 B A2).cons a).trans aav.symm,fun {S' H' z' B'} k n hs s h=>?_⟩
  have:=h4 h fun sb h=>Ow.step k n hs (fun a ha=>s a (aag _ (aai.mpr (sb a ha)))) h
  rw[bC h1]at this
  exact⟨_,.dic ((s a aaj).trans e1) h5 h6 this,((bB A1 B' A2).cons a).trans aav.symm⟩
 | @obj a dx c fs ns vs xs A e1 e2 h5 h6 t =>
  obtain⟨w,A1,B,A2,h1,rfl,h3,h4⟩:=t.zip e
  have pm:∀B:List Addr,(a::dx::(A1++(B++A2))).Perm (B++(a::dx::(A1++A2))):=fun B=>by
   refine (((bB A1 B A2).cons dx).cons a).trans ?_
   exact ((aav ).symm.cons a).trans aav.symm
  refine⟨w,B,a::dx::(A1++A2),.obj e1 h5 (by rw[<- t.len,<- h6,aaa]) (by rw[<- h6]at h1;simpa using h1) e,h3,pm B,fun {S' H' z' B'} k n hs s h=>?_⟩
  have:=h4 h fun sb h=>Ow.step k n hs (fun a ha=>s a (aag _ (aag _ (aai.mpr (sb a ha))))) h
  rw[bC h1]at this
  exact⟨_,.obj ((s a aaj).trans e1) ((s dx (aag _ aaj)).trans e2) h5 h6 this,pm B'⟩
theorem Ow.path:∀{ks:List Nat} {v:V} {x:OD} {A:List Addr} {y:OD},Ow b S H v x A->x.at ks=some y->∃u B A',Chn b H v x ks u y/\Ow b S H u y B/\A.Perm (B++A') /\
  ∀{S':Addr->Prop} {H':Hp} {y':OD} {B':List Addr},Kp S H H'->(∀c,S' c->S c\/H c=none)->(∀a xs,H a=some (.tup xs)->¬ S a)->(∀a∈A',H' a=H a)->Ow b S' H' u y' B'->∃A'',Ow b S' H' v (OD.put y' ks x) A''/\A''.Perm (B'++A')
 | [],v,x,A,y,h,e=>by
  simp only[OD.at]at e
  cases e
  exact⟨v,A,[],.nil,h,by simp,fun {S' H' y' B'} _ _ _ _ h=>⟨B',h,by simp⟩⟩
 | k::ks,v,x,A,y,h,e=>by
  simp only[OD.at]at e
  cases ez:x.kids[k]? with
  | none=>rw[ez]at e;cases e
  | some z =>
   rw[ez]at e
   simp only at e
   obtain⟨w,B,A',c1,h1,p1,f1⟩:=h.kid ez
   obtain⟨u,B2,A2,c2,h2,p2,f2⟩:=Ow.path h1 e
   refine⟨u,B2,A2++A',.cons c1 c2,h2,p1.trans (by rw[<- aah];exact p2.append_right _),fun {S' H' y' B'} k' n hs s h=>?_⟩
   obtain⟨A3,h3,p3⟩:=f2 k' n hs (fun a ha=>s a (aad _ ha)) h
   obtain⟨A4,h4,p4⟩:=f1 k' n hs (fun a ha=>s a (aab _ ha)) h3
   refine⟨A4,?_,p4.trans (by rw[<- aah];exact p3.append_right _)⟩
   simp only[OD.put,ez]
   exact h4
end
end
section
section
variable{b:Bs}{S S':Addr->Prop}{H H1 H':Hp}{L L':List (V × OD)}{v u:V}{x y:OD}{d:PyData}{ds:List PyData}{p a:Addr}{us:List V}{zs:List OD}{ks:List Nat}
theorem Wd.mutC(w:Wd b H (us.zip zs++((v,x)::L)))(el:us.length=zs.length)(e:x.at ks=some y):∃(S:Addr->Prop) (u:V) (B C:List Addr),Chn b H v x ks u y/\Ow b S H u y B/\Ows b S H us zs C/\(B++C).Nodup/\(∀c∈B,S c)/\(∀c,H c=none->¬ S c)/\(∀c xs,H c=some (.tup xs)->¬ S c)/\FrzIn b S H L /\
  ∀{H':Hp} {y':OD} {D:List Addr},(∀c,c ∉ B->H' c=H c)->(∀c∈B,∃o,H' c=some o/\MutO o)->D.Nodup->(∀c∈D,c∈B\/c∈C)->(∀S':Addr->Prop,(∀c,S' c->S c)->(∀c∈B,S' c->c∈D)->Ow b S' H' u y' D)->Wd b H' ((v,OD.put y' ks x)::L):=by
 obtain⟨A0,h0,nd,new⟩:=w.out
 have nt:=w.nt' h0
 have al:=fun {a}=>w.al h0 (a:=a)
 obtain⟨C,A1,rfl,hz,h1⟩:=OwL.split' h0
 cases h1 with
 | @cons _ _ A _ _ E r t =>
  obtain⟨u,B,A',ch,hy,pB,go⟩:=Ow.path r e
  obtain⟨nC,nAE,dCA⟩:=aaC.mp nd
  obtain⟨nA,nE,dAE⟩:=aaC.mp nAE
  have nBA:=pB.nodup_iff.mp nA
  obtain⟨nB,nA',dBA⟩:=aaC.mp nBA
  have inA:∀c,c∈A ↔ c∈B\/c∈A':=fun c=>by rw[pB.mem_iff,aai]
  refine⟨_,u,B,C,ch,hy,OwL.zips el hz,aaC.mpr ⟨nB,nC,fun c hc c' hc' e=>dCA c' hc' c (aad _ ((inA c).mpr (.inl hc))) e.symm⟩,fun c hc=>.inl (aab _ (aad _ ((inA c).mpr (.inl hc)))),fun c e=>al e,nt,OwL.frzIn t,fun {H' y' D} hk hm nD sD hO=>?_⟩
  have kp:Kp (fun c=>c∈C++(A++E)\/b.S0 c) H H':=⟨fun c o e n=>by
    rw[hk c fun z=>n (.inl (aab _ (aad _ ((inA c).mpr (.inl z)))))];exact e,fun c e=>by
    by_cases z:c∈B
    ·obtain⟨o,q,_⟩:=hm c z
     rw[q]at e;cases e
    ·rw[hk c z]at e;exact e⟩
  have sub:∀c,(c∈(D++A')++E\/b.S0 c)->(c∈C++(A++E)\/b.S0 c):=fun c z=>z.imp (fun z=>by
   rcases aai.mp z with z | z
   ·rcases aai.mp z with z | z
    ·rcases sD c z with z | z
     ·exact aab _ (aad _ ((inA c).mpr (.inl z)))
     ·exact aad _ z
    ·exact aab _ (aad _ ((inA c).mpr (.inr z)))
   ·exact aab _ (aab _ z)) id
  obtain⟨A'',hx,pA⟩:=go kp (fun c z=>.inl (sub c z)) nt (fun c hc=>hk c fun z=>dBA c z c hc rfl) (hO _ sub fun c hc z=>by
   rcases z with z | z
   ·rcases aai.mp z with z | z
    ·rcases aai.mp z with z | z
     ·exact z
     ·exact absurd rfl (dBA c hc c z)
    ·exact absurd rfl (dAE c ((inA c).mpr (.inl hc)) c z)
   ·exact absurd z (w.dj new c (aab _ (aad _ ((inA c).mpr (.inl hc))))))
  have inA'':∀c,c∈A'' ↔ c∈D++A':=fun c=>pA.mem_iff
  have ntA:∀c xs,H' c=some (.tup xs)->¬ (c∈(D++A')++E\/b.S0 c):=fun c xs e z=>by
   by_cases q:c∈B
   ·obtain⟨o,q1,q2⟩:=hm c q
    rw[q1]at e;cases e;exact q2
   ·rw[hk c q]at e;exact nt c xs e (sub c z)
  have dDA:∀c∈D,∀c'∈A',c≠c':=fun c hc c' hc' e=>by
   subst e
   rcases sD c hc with z | z
   ·exact dBA c z c hc' rfl
   ·exact dCA c z c (aad _ ((inA c).mpr (.inr hc'))) rfl
  refine⟨⟨A''++E,Ows.cons (Ow.sub ntA (fun c z=>z.imp (fun z=>(aai.mp z).elim (fun z=>aad _ ((inA'' c).mp z)) (aab _)) id) hx) (Ows.step kp (fun c z=>.inl (sub c (z.imp (fun z=>(aai.mp z).elim (fun z=>aad _ ((inA'' c).mp z)) (aab _)) id))) nt (fun c hc=>hk c fun z=>dAE c ((inA c).mpr (.inl z)) c hc rfl) t),?_,fun c hc=>?_⟩,?_,w.s0,fun c xs e z=>?_⟩
  ·refine aaC.mpr ⟨pA.nodup_iff.mpr (aaC.mpr ⟨nD,nA',dDA⟩),nE,fun c hc c' hc' e=>?_⟩
   subst e
   rcases aai.mp ((inA'' c).mp hc) with z | z
   ·rcases sD c z with z | z
    ·exact dAE c ((inA c).mpr (.inl z)) c hc' rfl
    ·exact dCA c z c (aab _ hc') rfl
   ·exact dAE c ((inA c).mpr (.inr z)) c hc' rfl
  ·have:c∈C++(A++E)\/b.S0 c:=sub c (.inl ((aai.mp hc).elim (fun z=>aad _ ((inA'' c).mp z)) (aab _)))
   have hc2:c∈C++(A++E):=by
    rcases aai.mp hc with z | z
    ·rcases aai.mp ((inA'' c).mp z) with z | z
     ·rcases sD c z with z | z
      ·exact aab _ (aad _ ((inA c).mpr (.inl z)))
      ·exact aad _ z
     ·exact aab _ (aad _ ((inA c).mpr (.inr z)))
    ·exact aab _ (aab _ z)
   exact new c hc2
  ·refine⟨fun c o e n=>?_,fun c e=>w.fr.n c (kp.n c e)⟩
   rw[hk c fun z=>?_]
   ·exact w.fr.k c o e n
   ·rcases new c (aab _ (aad _ ((inA c).mpr (.inl z)))) with q | q
    ·rw[q]at e;cases e
    ·exact n q
  ·exact ntA c xs e (.inr z)
theorem Wd.mutL(w:Wd b H (us.zip zs++((v,x)::L)))(el:us.length=zs.length)(e:x.at ks=some (.lst xs)):∃a vs,Chn b H v x ks (.ref a) (.lst xs)/\H a=some (.lst vs)/\vs.length=xs.length /\
  ∀vs' xs',(∀(S:Addr->Prop) (H:Hp) (A C:List Addr),(∀c xs,H c=some (.tup xs)->¬ S c)->Ows b S H vs xs A->Ows b S H us zs C->(A++C).Nodup->∃D,Ows b S H vs' xs' D/\D.Nodup/\∀c∈D,c∈A\/c∈C)->Wd b (upd H a (.lst vs')) ((v,OD.put (.lst xs') ks x)::L):=by
 obtain⟨S,u,B,C,ch,hy,hz,nd,hS,al,nt,fi,go⟩:=w.mutC el e
 cases hy with
 | @lst a vs _ A e1 t =>
  refine⟨a,vs,ch,e1,t.len,fun vs' xs' hf=>?_⟩
  obtain⟨nA,nAC⟩:=aaz.mp (show (a::(A++C)).Nodup from nd)
  have hk:∀c,c≠a->upd H a (.lst vs') c=H c:=fun c n=>upd_ne n
  have kp:Kp S H (upd H a (.lst vs')):=Kp.put (.inl (hS a (by simp)))
  have key:∀S':Addr->Prop,(∀c,S' c->S c)->∃D,Ows b S' (upd H a (.lst vs')) vs' xs' D/\D.Nodup/\∀c∈D,c∈A\/c∈C:=fun S' hS'=>by
   refine hf S' _ A C (fun c xs e z=>?_) (Ows.step kp (fun c z=>.inl (hS' c z)) nt (fun c hc=>hk c fun e=>nA (e ▸ aad _ hc)) t) (Ows.step kp (fun c z=>.inl (hS' c z)) nt (fun c hc=>hk c fun e=>nA (e ▸ aab _ hc)) hz) nAC
   by_cases q:c=a
   ·subst q;rw[ar]at e;cases e
   ·rw[upd_ne q]at e;exact nt c xs e (hS' c z)
  obtain⟨D,hD,nD,sD⟩:=key S fun _ z=>z
  have ntn:∀c xs,upd H a (.lst vs') c=some (.tup xs)->¬ S c:=fun c xs e z=>by
   by_cases q:c=a
   ·subst q;rw[ar]at e;cases e
   ·rw[upd_ne q]at e;exact nt c xs e z
  refine go (fun c n=>hk c fun e=>n (by simp[e])) (fun c hc=>?_) (aaz.mpr ⟨fun z=>nA (by rcases sD a z with z | z<;>simp[z]),nD⟩) (fun c hc=>?_) fun S' hS' _=>.lst ar (Ows.sub ntn hS' hD)
  ·rcases aac.mp hc with rfl | hc
   ·exact⟨_,ar,trivial⟩
   ·obtain⟨o,q,m⟩:=t.mu c hc
    exact⟨o,by rw[hk c fun e=>nA (e ▸ aad _ hc)];exact q,m⟩
  ·rcases aac.mp hc with rfl | hc
   ·exact .inl (by simp)
   ·exact (sD c hc).imp (aag _) id
theorem Wd.mutD(w:Wd b H (us.zip zs++((v,x)::L)))(el:us.length=zs.length)(e:x.at ks=some (.dic kk xs)):∃a ws,Chn b H v x ks (.ref a) (.dic kk xs)/\H a=some (.dK ws)/\ws.map (·.1)=kk/\ws.length=xs.length /\
  ∀ws' kk' xs',ws'.map (·.1)=kk'->(∀(S:Addr->Prop) (H:Hp) (A C:List Addr),(∀c xs,H c=some (.tup xs)->¬ S c)->Ows b S H (ws.map (·.2)) xs A->Ows b S H us zs C->(A++C).Nodup->∃D,Ows b S H (ws'.map (·.2)) xs' D/\D.Nodup/\∀c∈D,c∈A\/c∈C)->Wd b (upd H a (.dK ws')) ((v,OD.put (.dic kk' xs') ks x)::L):=by
 obtain⟨S,u,B,C,ch,hy,hz,nd,hS,al,nt,fi,go⟩:=w.mutC el e
 cases hy with
 | @dic a ws _ vs _ A e1 h5 h6 t =>
  subst h6
  refine⟨a,ws,ch,e1,h5,by have:=t.len;rwa [aaa]at this,fun ws' kk' xs' hkk hf=>?_⟩
  obtain⟨nA,nAC⟩:=aaz.mp (show (a::(A++C)).Nodup from nd)
  have hk:∀c,c≠a->upd H a (.dK ws') c=H c:=fun c n=>upd_ne n
  have kp:Kp S H (upd H a (.dK ws')):=Kp.put (.inl (hS a (by simp)))
  have ntn:∀c xs,upd H a (.dK ws') c=some (.tup xs)->¬ S c:=fun c xs e z=>by
   by_cases q:c=a
   ·subst q;rw[ar]at e;cases e
   ·rw[upd_ne q]at e;exact nt c xs e z
  obtain⟨D,hD,nD,sD⟩:=hf S _ A C ntn (Ows.step kp (fun c z=>.inl z) nt (fun c hc=>hk c fun e=>nA (e ▸ aad _ hc)) t) (Ows.step kp (fun c z=>.inl z) nt (fun c hc=>hk c fun e=>nA (e ▸ aab _ hc)) hz) nAC
  refine go (fun c n=>hk c fun e=>n (by simp[e])) (fun c hc=>?_) (aaz.mpr ⟨fun z=>nA (by rcases sD a z with z | z<;>simp[z]),nD⟩) (fun c hc=>?_) fun S' hS' _=>.dic ar hkk rfl (Ows.sub ntn hS' hD)
  ·rcases aac.mp hc with rfl | hc
   ·exact⟨_,ar,trivial⟩
   ·obtain⟨o,q,m⟩:=t.mu c hc
    exact⟨o,by rw[hk c fun e=>nA (e ▸ aad _ hc)];exact q,m⟩
  ·rcases aac.mp hc with rfl | hc
   ·exact .inl (by simp)
   ·exact (sD c hc).imp (aag _) id
theorem Wd.mutO(w:Wd b H (us.zip zs++((v,x)::L)))(el:us.length=zs.length)(e:x.at ks=some (.obj c ns xs)):∃a dx fs,Chn b H v x ks (.ref a) (.obj c ns xs)/\H a=some (.ins (am b.K c) dx fs)/\fs.map (·.1)=ns/\fs.length=xs.length /\
  ∀fs' ns' xs',fs'.map (·.1)=ns'->(∀(S:Addr->Prop) (H:Hp) (A C:List Addr),(∀c xs,H c=some (.tup xs)->¬ S c)->Ows b S H (fs.map (·.2)) xs A->Ows b S H us zs C->(A++C).Nodup->∃D,Ows b S H (fs'.map (·.2)) xs' D/\D.Nodup/\∀c∈D,c∈A\/c∈C)->Wd b (upd H a (.ins (am b.K c) dx fs')) ((v,OD.put (.obj c ns' xs') ks x)::L):=by
 obtain⟨S,u,B,C,ch,hy,hz,nd,hS,al,nt,fi,go⟩:=w.mutC el e
 cases hy with
 | @obj a dx _ fs _ vs _ A e1 e2 h5 h6 t =>
  subst h6
  refine⟨a,dx,fs,ch,e1,h5,by have:=t.len;rwa [aaa]at this,fun fs' ns' xs' hkk hf=>?_⟩
  obtain⟨nA,nAC⟩:=aaz.mp (show (a::(dx::(A++C))).Nodup from nd)
  obtain⟨nX,nAC⟩:=aaz.mp nAC
  have hk:∀z,z≠a->upd H a (.ins (am b.K c) dx fs') z=H z:=fun z n=>upd_ne n
  have kp:Kp S H (upd H a (.ins (am b.K c) dx fs')):=Kp.put (.inl (hS a (by simp)))
  have ntn:∀z xs,upd H a (.ins (am b.K c) dx fs') z=some (.tup xs)->¬ S z:=fun z xs e s=>by
   by_cases q:z=a
   ·subst q;rw[ar]at e;cases e
   ·rw[upd_ne q]at e;exact nt z xs e s
  obtain⟨D,hD,nD,sD⟩:=hf S _ A C ntn (Ows.step kp (fun c z=>.inl z) nt (fun c hc=>hk c fun e=>nA (e ▸ aag _ (aad _ hc))) t) (Ows.step kp (fun c z=>.inl z) nt (fun c hc=>hk c fun e=>nA (e ▸ aag _ (aab _ hc))) hz) nAC
  have nax:dx≠a:=fun e=>nA (e ▸ aaj)
  refine go (fun z n=>hk z fun e=>n (by simp[e])) (fun z hc=>?_) (aaz.mpr ⟨fun z=>?_,aaz.mpr ⟨fun z=>?_,nD⟩⟩) (fun z hc=>?_) fun S' hS' _=>.obj ar (by rw[hk dx nax];exact e2) hkk rfl (Ows.sub ntn hS' hD)
  ·rcases aac.mp hc with rfl | hc
   ·exact⟨_,ar,trivial⟩
   ·rcases aac.mp hc with rfl | hc
    ·exact⟨.own a,by rw[hk _ nax];exact e2,trivial⟩
    ·obtain⟨o,q,m⟩:=t.mu z hc
     exact⟨o,by rw[hk z fun e=>nA (e ▸ aag _ (aad _ hc))];exact q,m⟩
  ·rcases aac.mp z with z | z
   ·exact nax z.symm
   ·exact nA (aag _ (aai.mpr (sD a z)))
  ·exact nX (aai.mpr (sD dx z))
  ·rcases aac.mp hc with rfl | hc
   ·exact .inl (by simp)
   ·rcases aac.mp hc with rfl | hc
    ·exact .inl (by simp)
    ·exact (sD z hc).imp (fun h=>aag _ (aag _ h)) id
theorem Chd.det(h:Chd b H v x k w z)(h':Chd b H v x k w' z'):w=w'/\z=z':=by
 cases h with
 | lst e1 e2 e3 e4=>cases h' with | lst f1 f2 f3 f4=>rw[e1]at f1;cases f1;rw[e3]at f3;cases f3;rw[e4]at f4;cases f4;exact⟨rfl,rfl⟩
 | tup e1 e2 e3 e4=>cases h' with | tup f1 f2 f3 f4=>rw[e1]at f1;cases f1;rw[e3]at f3;cases f3;rw[e4]at f4;cases f4;exact⟨rfl,rfl⟩
 | dic e1 e2 e5 e3 e4=>cases h' with | dic f1 f2 f5 f3 f4=>rw[e1]at f1;cases f1;rw[e3]at f3;cases f3;rw[e4]at f4;cases f4;exact⟨rfl,rfl⟩
 | obj e1 e2 e5 e3 e4=>cases h' with | obj f1 f2 f5 f3 f4=>rw[e1]at f1;cases f1;rw[e3]at f3;cases f3;rw[e4]at f4;cases f4;exact⟨rfl,rfl⟩
theorem Chd.same(h:Chd b H v x k w z)(h':Chd b H v (OD.setKid k y x) k w' y'):w=w':=by
 cases h with
 | lst e1 e2 e3 e4=>cases h' with | lst f1 f2 f3 f4=>rw[e1]at f1;cases f1;rw[e3]at f3;cases f3;rfl
 | tup e1 e2 e3 e4=>cases h' with | tup f1 f2 f3 f4=>rw[e1]at f1;cases f1;rw[e3]at f3;cases f3;rfl
 | dic e1 e2 e5 e3 e4=>cases h' with | dic f1 f2 f5 f3 f4=>rw[e1]at f1;cases f1;rw[e3]at f3;cases f3;rfl
 | obj e1 e2 e5 e3 e4=>cases h' with | obj f1 f2 f5 f3 f4=>rw[e1]at f1;cases f1;rw[e3]at f3;cases f3;rfl
theorem Chd.kid(h:Chd b H v x k w z):x.kids[k]?=some z:=by
 cases h with
 | lst _ _ _ e=>exact e
 | tup _ _ _ e=>exact e
 | dic _ _ _ _ e=>exact e
 | obj _ _ _ _ e=>exact e
theorem Chd.set(h:Chd b H v x k w z):(OD.setKid k y x).kids[k]?=some y:=by
 cases h with
 | lst _ _ _ e=>exact aaW (aas.mp e).1
 | tup _ _ _ e=>exact aaW (aas.mp e).1
 | dic _ _ _ _ e=>exact aaW (aas.mp e).1
 | obj _ _ _ _ e=>exact aaW (aas.mp e).1
theorem Wd.frzAt(w:Wd b H ((v,x)::L))(e:x.at ks=some y)(ed:y.dat=some d):∃u,Chn b H v x ks u y/\Wd b H ((u,.fz d)::(v,OD.put (.fz d) ks x)::L):=by
 obtain⟨S,u,B,C,ch,hy,hz,nd,hS,al,nt,fi,go⟩:=Wd.mutC (us:=[]) (zs:=[]) w rfl e
 have w2:Wd b H ((v,OD.put (.fz d) ks x)::L):=go (fun _ _=>rfl) (fun c hc=>hy.mu c hc) aa8 (fun c hc=>by cases hc) fun S' hS' hB=>.fz (Ow.frz hS' nt (fun a ha z=>by cases hB a ha z) hy ed)
 refine⟨u,ch,w2.add fun S1 h1 al1 nt1=>?_⟩
 obtain⟨A1,o1⟩:=h1 (v,OD.put (.fz d) ks x) (by simp)
 have q:∀{ks:List Nat} {v u:V} {x:OD} {A:List Addr},Chn b H v x ks u y->Ow b S1 H v (OD.put (.fz d) ks x) A->Fz b.K S1 H u d:=fun {ks}=>by
  induction ks with
  | nil=>intro v u x A c o;cases c;simp only[OD.put]at o;cases o with | fz f=>exact f
  | cons k ks ih =>
   intro v u x A c o
   cases c with
   | cons c1 c2 =>
    have eo:=c1.kid
    simp only[OD.put,eo]at o
    obtain⟨u',B',A',c',o',_⟩:=o.kid c1.set
    have e6:=c1.same c'
    subst e6
    exact ih c2 o'
 exact q ch o1
end
end
section
abbrev DSp:=List OD->(OD->List OD->Prop)->Prop
def Fm(K:WF)(S:Addr->Prop)(A:List Addr)(vs:List V)(H:Hp)(Q:VK)(x:OD)(ys:List OD):Prop:=∀v H' B,Kp (fun a=>a∈A) H H' ->
 Ows ⟨K,H,S,fun a=>a∈A⟩ (fun a=>a∈B\/S a) H' (v::vs) (x::ys) B->B.Nodup->(∀a∈B,H a=none\/a∈A)->Q v H'
def toSp(K:WF)(sp:DSp):Sp:=fun vs H Q _=>∃(S:Addr->Prop) (xs:List OD) (A:List Addr),(∀a,S a->H a≠none/\a ∉ A)/\(∀a xs,H a=some (.tup xs)->¬ S a) /\
 Ows ⟨K,H,S,fun a=>a∈A⟩ (fun a=>a∈A\/S a) H vs xs A/\A.Nodup/\sp xs (Fm K S A vs H Q)
def rl(sp:DSp):Prop:=∀xs (P R:OD->List OD->Prop),(∀x ys,P x ys->R x ys)->sp xs P->sp xs R
section
variable{b:Bs}{H H':Hp}{L:List (V × OD)}{v:V}{x:OD}
theorem Wd.call(w:Wd b H (us.zip xs++L))(el:us.length=xs.length)(mono:rl sp)
  (h:sp xs fun x ys=>us.length=ys.length->∀v H',Wd b H' ((v,x)::(us.zip ys++L))->Q v H'):toSp b.K sp us H Q E:=by
 obtain⟨A0,h0,nd,new⟩:=w.out
 have nt:=w.nt' h0
 have al:=fun {a}=>w.al h0 (a:=a)
 obtain⟨A,A2,rfl,h1,h2⟩:=OwL.split' h0
 obtain⟨nA,nA2,dj⟩:=aaC.mp nd
 have nS0:=w.dj new
 refine⟨fun a=>a∈A2\/b.S0 a,xs,A,fun a z=>⟨fun e=>al e (z.imp (aab _) id),fun hA=>?_⟩,fun a xs e z=>nt a xs e (z.imp (aab _) id),?_,nA,mono _ _ _ (fun x ys hQ v H' B kp hO nB hB=>?_) h⟩
 ·rcases z with z | z
  ·exact dj a hA a z rfl
  ·exact nS0 a (aad _ hA) z
 ·refine Ows.subB (b2:=⟨b.K,H,fun a=>a∈A2\/b.S0 a,fun a=>a∈A⟩) (b:=b) rfl nt (fun c z=>?_) (OwL.zips el h1)
  rcases z with z | z | z
  ·exact .inl (aad _ z)
  ·exact .inl (aab _ z)
  ·exact .inr z
 have eys:us.length=ys.length:=by have:=hO.len;simpa using this
 have same:∀a,a ∉ A->H a≠none->H' a=H a:=fun a hA ha=>by
  cases e:H a with
  | none=>exact absurd e ha
  | some o=>exact kp.k a o e hA
 have kp':Kp (fun a=>a∈A++A2\/b.S0 a) H H':=kp.weak fun c hc=>.inl (.inl (aad _ hc))
 have n':∀c,(c∈B++A2\/b.S0 c)->(c∈A++A2\/b.S0 c)\/H c=none:=fun c z=>by
  rcases z with z | z
  ·rcases aai.mp z with z | z
   ·exact (hB c z).elim .inr fun z=>.inl (.inl (aad _ z))
   ·exact .inl (.inl (aab _ z))
  ·exact .inl (.inr z)
 have ntB:∀a xs,H' a=some (.tup xs)->¬ (a∈B\/a∈A2\/b.S0 a):=fun a xs e z=>by
  rcases z with z | z
  ·exact hO.tl a z xs e
  ·have hA:a ∉ A:=fun hA=>by
    rcases z with z | z
    ·exact dj a hA a z rfl
    ·exact nS0 a (aad _ hA) z
   have hn:H a≠none:=fun e=>al e (z.imp (aab _) id)
   rw[same a hA hn]at e
   exact nt a xs e (z.imp (aab _) id)
 have e1:((v,x)::(us.zip ys++L))=((v::us).zip (x::ys))++L:=rfl
 refine hQ eys v H' ?_
 rw[e1]
 refine⟨⟨B++A2,OwL.join' (OwL.unzips (Ows.subB (b2:=b) (b:=⟨b.K,H,fun a=>a∈A2\/b.S0 a,fun a=>a∈A⟩) rfl ntB (fun c z=>?_) hO)) (Ows.step kp' n' nt (fun a ha=>same a (fun hA=>dj a hA a ha rfl) fun e=>al e (.inl (aab _ ha))) h2),aaC.mpr ⟨nB,nA2,fun a ha c hc e=>?_⟩,fun a ha=>?_⟩,?_,w.s0,fun a xs e z=>ntB a xs e (.inr (.inr z))⟩
 ·rcases z with z | z
  ·exact (aai.mp z).imp id .inl
  ·exact .inr (.inr z)
 ·subst e
  rcases hB a ha with z | z
  ·exact al z (.inl (aab _ hc))
  ·exact dj a z a hc rfl
 ·rcases aai.mp ha with z | z
  ·rcases hB a z with z | z
   ·exact .inl (w.newC z)
   ·exact new a (aad _ z)
  ·exact new a (aab _ z)
 ·refine⟨fun c o e nc=>kp.k c o (w.fr.k c o e nc) fun hA=>?_,fun c e=>w.fr.n c (kp.n c e)⟩
  rcases new c (aad _ hA) with z | z
  ·rw[z]at e;cases e
  ·exact nc z
theorem Wd.pin(w:Wd b H ((v,.fz d)::L))(e:d=if l then .list ds else .tuple ds):∃xs,Wd b H ((v,.pin l xs ds)::L):=by
 obtain⟨A0,h0,nd,new⟩:=w.out
 cases h0 with
 | cons r t =>
  cases r with
  | fz r =>
   cases l with
   | true =>
    subst e
    obtain⟨a,xs,rfl,h1,h2⟩:=r.list_inv
    exact⟨xs,⟨⟨_,Ows.cons (.pinL h1 h2) t,nd,new⟩,w.fr,w.s0,w.nt⟩⟩
   | false =>
    subst e
    obtain⟨a,xs,rfl,h1,h2⟩:=r.tup_inv
    exact⟨xs,⟨⟨_,Ows.cons (.pinT h1 h2) t,nd,new⟩,w.fr,w.s0,w.nt⟩⟩
theorem Wd.pinned(w:Wd b H L)(m:(v,OD.pin l xs ds)∈L):∃a,v=.ref a/\xs.length=ds.length/\(if l then SqL b.K H a xs else SqT b.K H a xs)/\Wd b H (xs.zip (ds.map OD.fz)++L):=by
 obtain⟨A,h0,nd,new⟩:=w.out
 obtain⟨B,h⟩:=OwL.mem h0 m
 have q:Wd b H (xs.zip (ds.map OD.fz)++L):=w.adds fun S hS=>by
  obtain⟨B,h⟩:=hS _ m
  cases h with
  | pinL _ t=>exact t
  | pinT _ t=>exact t
 cases h with
 | pinL h1 h2=>exact⟨_,rfl,h2.length,h1.now,q⟩
 | pinT h1 h2=>exact⟨_,rfl,h2.length,h1.now,q⟩
end
end
section
abbrev DEnv:=List (Option OD)
def flat:St->DEnv->List (V × OD)
 | some v::σ,some x::ρ=>(v,x)::flat σ ρ
 | _::σ,_::ρ=>flat σ ρ
 | _,_=>[]
def Wf:St->DEnv->Prop
 | [],[]=>True
 | _::σ,none::ρ=>Wf σ ρ
 | some _::σ,some _::ρ=>Wf σ ρ
 | _,_=>False
section
variable{σ:St}{ρ:DEnv}{i:Nat}{x y:OD}{v u:V}
theorem a9:flat (o::σ) (none::ρ)=flat σ ρ:=by cases o<;>rfl
theorem Wf.get:∀{σ:St} {ρ:DEnv} {i:Nat},Wf σ ρ->ρ[i]?=some (some x)->∃v,σ[i]?=some (some v)
 | [],[],_,_,e=>by simp at e
 | [],_::_,_,h,_=>by simp[Wf]at h
 | _::_,[],_,_,e=>by simp at e
 | some v::_,some _::_,0,_,_=>⟨v,rfl⟩
 | none::_,some _::_,_,h,_=>by simp[Wf]at h
 | o::_,none::_,0,_,e=>by simp at e
 | o::σ,none::ρ,i + 1,h,e=>by
  obtain⟨v,q⟩:=Wf.get (ρ:=ρ) h (by simpa using e)
  exact⟨v,by simpa using q⟩
 | some _::σ,some _::ρ,i + 1,h,e=>by
  obtain⟨v,q⟩:=Wf.get (ρ:=ρ) h (by simpa using e)
  exact⟨v,by simpa using q⟩
theorem Wf.len:∀{σ:St} {ρ:DEnv},Wf σ ρ->σ.length=ρ.length
 | [],[],_=>rfl
 | [],_::_,h=>by simp[Wf]at h
 | _::_,[],h=>by simp[Wf]at h
 | o::σ,none::ρ,h=>by simp[Wf.len (σ:=σ) h]
 | some _::σ,some _::ρ,h=>by simp[Wf.len (ρ:=ρ) h]
 | none::_,some _::_,h=>by simp[Wf]at h
theorem Wf.off:∀{σ:St} {ρ:DEnv} {i:Nat},Wf σ ρ->Wf σ (ρ.set i none)
 | [],[],_,_=>trivial
 | [],_::_,_,h=>by simp[Wf]at h
 | _::_,[],_,h=>by simp[Wf]at h
 | o::σ,none::ρ,0,h=>h
 | some _::σ,some _::ρ,0,h=>h
 | none::_,some _::_,_,h=>by simp[Wf]at h
 | o::σ,none::ρ,i + 1,h=>Wf.off (σ:=σ) h
 | some _::σ,some _::ρ,i + 1,h=>Wf.off (i:=i) h
theorem Wf.put:∀{σ:St} {ρ:DEnv} {i:Nat},Wf σ ρ->Wf (σ.set i (some v)) (ρ.set i (some x))
 | [],[],_,_=>trivial
 | [],_::_,_,h=>by simp[Wf]at h
 | _::_,[],_,h=>by simp[Wf]at h
 | o::σ,none::ρ,0,h=>h
 | some _::σ,some _::ρ,0,h=>h
 | none::_,some _::_,_,h=>by simp[Wf]at h
 | o::σ,none::ρ,i + 1,h=>Wf.put (σ:=σ) h
 | some _::σ,some _::ρ,i + 1,h=>Wf.put (i:=i) h
theorem bh:∀{σ:St} {ρ:DEnv} {i:Nat},ρ[i]?=some (some x)->σ[i]?=some (some v)->(flat σ ρ).Perm ((v,x)::flat σ (ρ.set i none))
 | [],_,_,_,e=>by simp at e
 | _::_,[],_,e,_=>by simp at e
 | some u::σ,some y::ρ,0,e,e'=>by
  simp at e e'
  subst e e'
  exact .refl _
 | none::_,_::_,0,_,e=>by simp at e
 | some _::_,none::_,0,e,_=>by simp at e
 | o::σ,none::ρ,i + 1,e,e'=>by
  rw[aaD,a9,a9]
  exact bh (by simpa using e) (by simpa using e')
 | some u::σ,some y::ρ,i + 1,e,e'=>by
  rw[aaD]
  exact ((bh (σ:=σ) (by simpa using e) (by simpa using e')).cons _).trans (List.Perm.swap _ _ _)
 | none::σ,some y::ρ,i + 1,e,e'=>by
  rw[aaD]
  exact bh (by simpa using e) (by simpa using e')
theorem cz:∀{σ:St} {ρ:DEnv} {i:Nat},i < ρ.length->σ.length=ρ.length->(flat (σ.set i (some v)) (ρ.set i (some x))).Perm ((v,x)::flat σ (ρ.set i none))
 | _,[],_,h,_=>by simp at h
 | [],_::_,_,_,h=>by simp at h
 | o::σ,y::ρ,0,_,_=>by
  rw[abO,abO,abO,a9]
  exact .refl _
 | o::σ,none::ρ,i + 1,h,h'=>by
  rw[aaD,aaD,aaD,a9,a9]
  exact cz (by simpa using h) (by simpa using h')
 | none::σ,some _::ρ,i + 1,h,h'=>by
  rw[aaD,aaD,aaD]
  exact cz (σ:=σ) (by simpa using h) (by simpa using h')
 | some u::σ,some y::ρ,i + 1,h,h'=>by
  rw[aaD,aaD,aaD]
  exact ((cz (by simpa using h) (by simpa using h')).cons _).trans (List.Perm.swap _ _ _)
theorem set_self{α:Type}:∀{l:List α} {i:Nat} {x:α},l[i]?=some x->l.set i x=l
 | [],_,_,e=>by simp at e
 | _::_,0,_,e=>by simp at e;subst e;rfl
 | y::l,i + 1,x,e=>by rw[aaD,set_self (by simpa using e)]
end
inductive OR where | val (x:OD) | rf (i:Nat)
def stk:List V->List OR->List (V × OD)
 | v::τ,.val x::θ=>(v,x)::stk τ θ
 | _::τ,.rf _::θ=>stk τ θ
 | _,_=>[]
def Al(σ:St):List V->List OR->Prop
 | [],[]=>True
 | _::τ,.val _::θ=>Al σ τ θ
 | v::τ,.rf i::θ=>σ[i]?=some (some v)/\Al σ τ θ
 | _,_=>False
structure Fr where
 σ:St
 ρ:DEnv
 τ:List V
 θ:List OR
def ff(F:List Fr):List (V × OD):=F.flatMap fun f=>stk f.τ f.θ++flat f.σ f.ρ
structure Rel (b:Bs)(F:List Fr)(σ:St)(H:Hp)(ρ:DEnv)(τ:List V)(θ:List OR):Prop where
 wf:Wf σ ρ
 al:Al σ τ θ
 wff:∀f∈F,Wf f.σ f.ρ/\Al f.σ f.τ f.θ
 wd:Wd b H (stk τ θ++(flat σ ρ++ff F))
def au(ρ:DEnv):OR->Option PyData
 | .val x=>x.dat
 | .rf i=>(ρ[i]?.join).bind OD.dat
section
variable{b:Bs}{F:List Fr}{σ:St}{H H':Hp}{ρ ρ':DEnv}{τ vs:List V}{θ rs:List OR}{v u:V}{r:OR}{x y:OD}{d:PyData}{i:Nat}
theorem join_some{α:Type}{o:Option (Option α)}{x:α}(h:o.join=some x):o=some (some x):=by
 cases o with
 | none=>cases h
 | some o=>exact congrArg some h
theorem aC:∀{vs τ:List V} {rs θ:List OR},vs.length=rs.length->stk (vs++τ) (rs++θ)=stk vs rs++stk τ θ
 | [],_,[],_,_=>rfl
 | _::vs,τ,.val _::rs,θ,e=>by
  simp only[aaI,stk]
  rw[aC (by simpa using e)]
 | _::vs,τ,.rf _::rs,θ,e=>by
  simp only[aaI,stk]
  exact aC (by simpa using e)
 | [],_,_::_,_,e=>by simp at e
 | _::_,_,[],_,e=>by simp at e
theorem aM:∀{vs τ:List V} {rs θ:List OR},vs.length=rs.length->(Al σ (vs++τ) (rs++θ) ↔ Al σ vs rs/\Al σ τ θ)
 | [],_,[],_,_=>by simp[Al]
 | _::vs,τ,.val _::rs,θ,e=>by
  simp only[aaI,Al]
  exact aM (by simpa using e)
 | _::vs,τ,.rf _::rs,θ,e=>by
  simp only[aaI,Al]
  rw[aM (by simpa using e),and_assoc]
 | [],_,_::_,_,e=>by simp at e
 | _::_,_,[],_,e=>by simp at e
theorem Rel.rot(R:Rel b F σ H ρ (vs++v::τ) (rs++r::θ))(e:vs.length=rs.length):Rel b F σ H ρ (v::vs++τ) (r::rs++θ):=by
 obtain⟨a1,a2⟩:=(aM e).mp R.al
 have a3:Al σ [v] [r]/\Al σ τ θ:=(aM rfl).mp a2
 refine⟨R.wf,(aM (vs:=[v]) (rs:=[r]) rfl).mpr ⟨a3.1,(aM e).mpr ⟨a1,a3.2⟩⟩,R.wff,R.wd.perm ?_⟩
 refine acb _ ?_
 have e1:stk (v::vs++τ) (r::rs++θ)=stk [v] [r]++(stk vs rs++stk τ θ):=by
  rw[<- aC e,<- aC rfl];rfl
 have e2:stk (vs++v::τ) (rs++r::θ)=stk vs rs++(stk [v] [r]++stk τ θ):=by
  rw[aC e,<- aC (rs:=[r]) rfl];rfl
 rw[e1,e2,<- aah,<- aah]
 exact aaT.append_right _
theorem Rel.tor(R:Rel b F σ H ρ (v::vs++τ) (r::rs++θ))(e:vs.length=rs.length):Rel b F σ H ρ (vs++v::τ) (rs++r::θ):=by
 obtain⟨a1,a2⟩:=(aM (vs:=[v]) (rs:=[r]) rfl).mp R.al
 obtain⟨a3,a4⟩:=(aM e).mp a2
 refine⟨R.wf,(aM e).mpr ⟨a3,(aM rfl).mpr ⟨a1,a4⟩⟩,R.wff,R.wd.perm ?_⟩
 refine acb _ ?_
 have e1:stk (v::vs++τ) (r::rs++θ)=stk [v] [r]++(stk vs rs++stk τ θ):=by
  rw[<- aC e,<- aC rfl];rfl
 have e2:stk (vs++v::τ) (rs++r::θ)=stk vs rs++(stk [v] [r]++stk τ θ):=by
  rw[aC e,<- aC (rs:=[r]) rfl];rfl
 rw[e1,e2,<- aah,<- aah]
 exact aaT.append_right _
theorem Rel.drop(R:Rel b F σ H ρ (v::τ) (r::θ)):Rel b F σ H ρ τ θ:=by
 cases r with
 | val x=>exact⟨R.wf,R.al,R.wff,R.wd.drop⟩
 | rf i=>exact⟨R.wf,R.al.2,R.wff,R.wd⟩
theorem Rel.drops(R:Rel b F σ H ρ (vs++τ) (rs++θ))(e:vs.length=rs.length):Rel b F σ H ρ τ θ:=by
 induction vs generalizing rs with
 | nil=>cases rs with
  | nil=>exact R
  | cons _ _=>simp at e
 | cons v vs ih=>cases rs with
  | nil=>simp at e
  | cons r rs=>exact ih (Rel.drop R) (by simpa using e)
theorem Rel.sc(R:Rel b F σ H ρ τ θ)(h:Sc v d):Rel b F σ H ρ (v::τ) (.val (.fz d)::θ):=⟨R.wf,R.al,R.wff,R.wd.sc h⟩
theorem Rel.slot(R:Rel b F σ H ρ τ θ)(e:ρ[i]?=some (some x)):∃v,σ[i]?=some (some v)/\Wd b H ((v,x)::(stk τ θ++(flat σ (ρ.set i none)++ff F))):=by
 obtain⟨v,ev⟩:=R.wf.get e
 refine⟨v,ev,R.wd.perm ?_⟩
 refine ((bh e ev).append_right _ |>.append_left _).trans ?_
 exact aav
theorem Rel.unslot(wf:Wf σ ρ)(al:Al (σ.set i (some v)) τ θ)(wff:∀f∈F,Wf f.σ f.ρ/\Al f.σ f.τ f.θ)(hi:i < ρ.length)(w:Wd b H ((v,x)::(stk τ θ++(flat σ (ρ.set i none)++ff F)))):Rel b F (σ.set i (some v)) H (ρ.set i (some x)) τ θ:=by
 refine⟨wf.put,al,wff,w.perm ?_⟩
 refine (aav.symm).trans ?_
 exact ((cz hi wf.len).symm.append_right _).append_left _
theorem Rel.back(wf:Wf σ ρ)(al:Al σ τ θ)(wff:∀f∈F,Wf f.σ f.ρ/\Al f.σ f.τ f.θ)(ev:σ[i]?=some (some v))(w:Wd b H ((v,x)::(stk τ θ++(flat σ (ρ.set i none)++ff F)))):Rel b F σ H (ρ.set i (some x)) τ θ:=by
 have hi:i < ρ.length:=by rw[<- wf.len];exact (aas.mp ev).1
 have e:σ.set i (some v)=σ:=set_self ev
 have:=Rel.unslot wf (by rw[e];exact al) wff hi w
 rw[e]at this
 exact this
theorem Rel.dt(R:Rel b F σ H ρ (v::τ) (r::θ))(e:au ρ r=some d):Dt b.K H v d:=by
 cases r with
 | val x=>exact R.wd.memDt (by simp[stk]) e
 | rf i =>
  simp only[au,aaJ]at e
  obtain⟨x,e1,e2⟩:=e
  obtain⟨u,eu,w⟩:=R.drop.slot (join_some e1)
  have:v=u:=by have:=R.al.1;rw[eu]at this;cases this;rfl
  subst this
  exact w.memDt (aaj) e2
theorem Rel.dt2(R:Rel b F σ H ρ (u::v::τ) (r'::r::θ))(e:au ρ r=some d):Dt b.K H v d:=(R.drop).dt e
theorem Rel.frzS(R:Rel b F σ H ρ τ θ)(e:ρ[i]?=some (some x))(ed:x.dat=some d):Rel b F σ H (ρ.set i (some (.fz d))) τ θ:=by
 obtain⟨v,ev,w⟩:=R.slot e
 exact Rel.back R.wf R.al R.wff ev (w.frz ed)
theorem Rel.dupS(R:Rel b F σ H ρ τ θ)(e:ρ[i]?=some (some (.fz d)))(ev:σ[i]?=some (some v)):Rel b F σ H ρ (v::τ) (.val (.fz d)::θ):=by
 obtain⟨u,eu,w⟩:=R.slot e
 rw[ev]at eu
 cases eu
 have w2:=w.dup
 have e1:ρ.set i (some (.fz d))=ρ:=set_self e
 have:=Rel.back (i:=i) (τ:=v::τ) (θ:=.val (.fz d)::θ) R.wf R.al R.wff ev (w2.perm (List.Perm.swap _ _ _))
 rw[e1]at this
 exact this
def frz1(ρ:DEnv):OR->Option (PyData × DEnv)
 | .val x=>x.dat.map (·,ρ)
 | .rf i=>(ρ[i]?.join).bind fun x=>x.dat.map fun d=>(d,ρ.set i (some (.fz d)))
theorem Rel.frz1(R:Rel b F σ H ρ (v::τ) (r::θ))(e:frz1 ρ r=some (d,ρ')):Rel b F σ H ρ' (v::τ) (.val (.fz d)::θ):=by
 cases r with
 | val x =>
  simp only[L2.frz1,aaH]at e
  obtain⟨d',e1,e2⟩:=e
  cases e2
  exact⟨R.wf,R.al,R.wff,R.wd.frz e1⟩
 | rf i =>
  simp only[L2.frz1,aaJ,aaH]at e
  obtain⟨x,e1,d',e2,e3⟩:=e
  cases e3
  have hi:i < ρ.length:=(aas.mp (join_some e1)).1
  exact (R.drop.frzS (join_some e1) e2).dupS (by rw[aaW hi]) R.al.1
def frzL(ρ:DEnv):List OR->Option (List PyData × DEnv)
 | []=>some ([],ρ)
 | r::rs=>(L2.frz1 ρ r).bind fun z=>(frzL z.2 rs).map fun y=>(z.1::y.1,y.2)
theorem jr:∀{vs:List V} {rs:List OR} {ρ ρ':DEnv} {ds:List PyData} {τ:List V} {θ:List OR},Rel b F σ H ρ (vs++τ) (rs++θ)->vs.length=rs.length->L2.frzL ρ rs=some (ds,ρ')->Rel b F σ H ρ' (vs++τ) (ds.map (fun d=>OR.val (.fz d))++θ)/\vs.length=ds.length
 | [],[],_,_,_,_,_,R,_,e=>by simp only[L2.frzL]at e;cases e;exact⟨R,rfl⟩
 | v::vs,r::rs,ρ,ρ',ds,τ,θ,R,e,h=>by
  simp only[L2.frzL,aaJ,aaH]at h
  obtain⟨⟨d,ρ1⟩,h1,⟨ds',ρ2⟩,h2,h3⟩:=h
  cases h3
  have R1:Rel b F σ H ρ1 (v::(vs++τ)) (.val (.fz d)::(rs++θ)):=Rel.frz1 R h1
  have e':vs.length=rs.length:=by simpa using e
  obtain⟨R2,e2⟩:=jr (Rel.tor R1 e') e' h2
  exact⟨Rel.rot R2 (by rw[e2,aaa]),by simp[e2]⟩
 | [],_::_,_,_,_,_,_,_,e,_=>by simp at e
 | _::_,[],_,_,_,_,_,_,e,_=>by simp at e
end
end
section
section
variable{X:Cx}
def Bc(K:WF):R2:=fun x y H Q=>∃l b xs zs,x=.ref l/\y=.ref b/\SqL K H l xs/\SqL K H b zs/\xs.length + zs.length≤sizeLine/\∀p,H p=none->Q (.ref p) (upd H p (.lst (xs++zs)))
theorem uW:OpR X (binaryOp .Add) (Bc X.K):=by
 intro pins s σ H x y v u Q I rx ry h
 obtain⟨l,b,xs,zs,rfl,rfl,hH,hB,hz,q⟩:=h
 cases rx
 cases ry
 obtain⟨its,r,⟨⟨c,dd,dt,sl⟩,n,e,hc,_,hd⟩,_⟩:=I.list hH
 obtain⟨its2,r2,⟨⟨c2,dd2,dt2,sl2⟩,n2,e2,hc2,_,hd2⟩,_⟩:=I.list hB
 have l1:=r.length
 have l2:=r2.length
 simp only at hc hd hc2 hd2
 subst hc hd hc2 hd2
 refine concat_meets ⟨_,e,rfl⟩ ⟨_,e2,rfl⟩ noFill_list_add seq_list_add PySem.F.slot_list_add PySem.F.entry_list_add (PySem.F.args_list_add_2 _ _) (list_addW l b its.toArray its2.toArray n n2 dd dd2 sl sl2 (by rw[aaw,aaw];omega)) ⟨e,e2,?_⟩
 have ea:its.toArray++its2.toArray=(its++its2).toArray:=by simp
 rw[ea]
 exact⟨.ref _,_,I.lnew (r.append r2) (by rw[aam];omega),rfl,q _ I.fresh⟩
end
abbrev DK:=OR->DEnv->Prop
abbrev DE:=DEnv->DK->Prop
abbrev DT:=DEnv->(Bool->DEnv->Prop)->Prop
abbrev DA:=DEnv->(List OR->DEnv->Prop)->Prop
abbrev DR2:=PyData->PyData->(PyData->Prop)->Prop
abbrev DR1:=PyData->(PyData->Prop)->Prop
abbrev DRn:=List PyData->(PyData->Prop)->Prop
def cm(K:WF)(te:TE)(de:DE):Prop:=∀(b:Bs) (F:List Fr) (σ:St) (H:Hp) (ρ:DEnv) (τ:List V) (θ:List OR) (Qd:DK) (Q:VK),b.K=K->Rel b F σ H ρ τ θ->de ρ Qd->(∀v H' r ρ',Rel b F σ H' ρ' (v::τ) (r::θ)->Qd r ρ'->Q v H')->te σ H Q
def SndT(K:WF)(te:TT)(de:DT):Prop:=∀(b:Bs) (F:List Fr) (σ:St) (H:Hp) (ρ:DEnv) (τ:List V) (θ:List OR) (Qd:Bool->DEnv->Prop) (Q:Bool->Hp->Prop),b.K=K->Rel b F σ H ρ τ θ->de ρ Qd->(∀k H' ρ',Rel b F σ H' ρ' τ θ->Qd k ρ'->Q k H')->te σ H Q
def rm(K:WF)(te:TA)(de:DA):Prop:=∀(b:Bs) (F:List Fr) (σ:St) (H:Hp) (ρ:DEnv) (τ:List V) (θ:List OR) (Qd:List OR->DEnv->Prop) (Q:List V->Hp->Prop),b.K=K->Rel b F σ H ρ τ θ->de ρ Qd->(∀vs H' rs ρ',vs.length=rs.length->Rel b F σ H' ρ' (vs++τ) (rs++θ)->Qd rs ρ'->Q vs H')->te σ H Q
inductive PDe (X:Cx)(e:Expr)(de:DE):Prop | mk (te:TE) (h:PE X e te) (s:cm X.K te de)
inductive PDt (X:Cx)(e:Expr)(de:DT):Prop | mk (te:TT) (h:PT X e te) (s:SndT X.K te de)
inductive PDw (X:Cx)(e:Expr)(de:DT):Prop | mk (te:TT) (h:PW X e te) (s:SndT X.K te de)
inductive PDa (X:Cx)(es:List Expr)(de:DA):Prop | mk (te:TA) (h:PA X es te) (s:rm X.K te de)
section
variable{X:Cx}{K:WF}{a b c e:Expr}{es:List Expr}{da db dc:DE}{pos:Pos}{x:Str}{i:Nat}
def dVar(i:Nat):DE:=fun ρ Q=>match ρ[i]?.join with
 | some (.fz d)=>Q (.val (.fz d)) ρ
 | some _=>Q (.rf i) ρ
 | none=>False
theorem uX:cm K (tVar i) (dVar i):=by
 intro b F σ H ρ τ θ Qd Q hK R h q
 unfold dVar at h
 cases e:ρ[i]?.join with
 | none=>rw[e]at h;exact h.elim
 | some x =>
  rw[e]at h
  have e':=join_some e
  obtain⟨v,ev⟩:=R.wf.get e'
  have base:Qd (.rf i) ρ->tVar i σ H Q:=fun h=>⟨v,ev,q v H (.rf i) ρ ⟨R.wf,show Al σ (v::τ) (.rf i::θ) from ⟨ev,R.al⟩,R.wff,R.wd⟩ h⟩
  cases x with
  | fz d=>exact⟨v,ev,q v H _ ρ (R.dupS e' ev) h⟩
  | _=>exact base h
theorem yO (hN:X.N[i]?=some x) (hv:Vis X.env.scope x) (hd:(x == ("__debug__":Str))=false:=by decide) (hcd:(x == ("__classdict__":Str))=false:=by decide):PDe X (.Name x pos) (dVar i):=⟨_,bG hN hv hd hcd,uX⟩
def dC(d:PyData):DE:=fun ρ Q=>Q (.val (.fz d)) ρ
theorem rn(h:Sc v d):cm K (tC v) (dC d):=fun b F σ H ρ τ θ Qd Q hK R hd q=>q v H _ ρ (R.sc h) hd
theorem pd_int{i j pos}:PDe X (.Constant (.int i) j pos) (dC (.int i)):=⟨_,jd,rn (.int i)⟩
theorem pd_bl{k j pos}:PDe X (.Constant (.bool k) j pos) (dC (.bool k)):=⟨_,Ay,rn (.bl k)⟩
theorem pd_str{x j pos}:PDe X (.Constant (.str x) j pos) (dC (.str x)):=⟨_,xS,rn (.str x)⟩
theorem Rel.addK{b:Bs}(R:Rel b F σ H ρ τ θ)(h:∀S H,Fz b.K S H v d):Rel b F σ H ρ (v::τ) (.val (.fz d)::θ):=⟨R.wf,R.al,R.wff,R.wd.add fun S _ _ _=>h S H⟩
theorem rp (hg:Gl X x) (hm:X.mg x=some u) (r:RelV v u) (s:∀S H,Fz X.K S H v d) (hd:(x == ("__debug__":Str))=false:=by decide):PDe X (.Name x pos) (dC d) :=
 ⟨_,ut hg hm r hd,fun b F σ H ρ τ θ Qd Q hK R hd q=>q v H _ ρ (R.addK (by rw[hK];exact s)) hd⟩
def SndR2(K:WF)(r2:R2)(r:DR2):Prop:=∀(H:Hp) (v u:V) (dx dy:PyData) (Qd:PyData->Prop) (Q:VK),Dt K H v dx->Dt K H u dy->r dx dy Qd->(∀w d,Sc w d->Qd d->Q w H)->r2 v u H Q
def uY(r:DR2)(a b:DE):DE:=fun ρ Q=>a ρ fun x ρ1=>b ρ1 fun y ρ2=>∃dx dy,au ρ2 x=some dx/\au ρ2 y=some dy/\r dx dy fun d=>Q (.val (.fz d)) ρ2
theorem lT(hr:SndR2 K r2 r)(ha:cm K ta da)(hb:cm K tb db):cm K (yj r2 ta tb) (uY r da db):=by
 intro b F σ H ρ τ θ Qd Q hK R h q
 refine ha b F σ H ρ τ θ _ _ hK R h fun v H1 x ρ1 R1 h1=>hb b F σ H1 ρ1 _ _ _ _ hK R1 h1 fun u H2 y ρ2 R2 h2=>?_
 obtain⟨dx,dy,e1,e2,h3⟩:=h2
 exact hr H2 v u dx dy _ _ (hK ▸ R2.dt2 e1) (hK ▸ R2.dt e2) h3 fun w d sc hd=>q w H2 _ _ (R2.drop.drop.sc sc) hd
theorem Bd(ho:OpR X (binaryOp op) r2)(hr:SndR2 X.K r2 r):PDe X a da->PDe X b db->PDe X (.BinOp a op b pos) (uY r da db)
 | ⟨_,h1,s1⟩,⟨_,h2,s2⟩=>⟨_,wV ho h1 h2,lT hr s1 s2⟩
def dI(C:Int->Int->Prop)(g:Int->Int->PyData):DR2:=fun x y Q=>∃i j,x=.int i/\y=.int j/\C i j/\Q (g i j)
def Fo(g:Int->Int->PyData):DR2:=fun x y Q=>∃i j,x=.int i/\y=.int j/\Q (g i j)
theorem uZ(h:∀i j,Sc (g i j) (g' i j)):SndR2 K (rI C g) (dI C g'):=by
 rintro H v u dx dy Qd Q hv hu ⟨i,j,rfl,rfl,c,hq⟩ q
 cases hv
 cases hu
 exact⟨i,j,rfl,rfl,c,q _ _ (h i j) hq⟩
theorem rq(h:∀i j,Sc (g i j) (g' i j)):SndR2 K (ul g) (Fo g'):=by
 rintro H v u dx dy Qd Q hv hu ⟨i,j,rfl,rfl,hq⟩ q
 cases hv
 cases hu
 exact⟨i,j,rfl,rfl,q _ _ (h i j) hq⟩
theorem yP(ho:OpR X (compareOp op) r2)(hr:SndR2 X.K r2 r)(hm:behindInMarks op b=false):PDe X a da->PDe X b db->PDe X (.Compare a [op] [b] pos) (uY r da db)
 | ⟨_,h1,s1⟩,⟨_,h2,s2⟩=>⟨_,mX ho h1 h2 hm,lT hr s1 s2⟩
theorem u0{g:Int->Int->Bool}:SndR2 K (ul fun i j=>.bl (g i j)) (Fo fun i j=>.bool (g i j)):=rq fun _ _=>.bl _
def pM:PyData->PyData->Option Bool
 | .int i,.int j=>some (decide (i=j))
 | .bool i,.bool j=>some (decide (i=j))
 | .str i,.str j=>some (decide (i=j))
 | .none,.none=>some true
 | .none,.int _=>some false | .int _,.none=>some false | .none,.str _=>some false | .str _,.none=>some false
 | .int _,.str _=>some false | .str _,.int _=>some false
 | _,_=>none
theorem m9(hv:Dt K H v dx)(hu:Dt K H u dy)(e:pM dx dy=some k):yq v u=true/\decide (v=u)=k:=by
 cases hv<;>cases hu<;>cases e<;>refine⟨rfl,?_⟩<;>simp
def dEqS:DR2:=fun x y Q=>∃k,pM x y=some k/\Q (.bool k)
def dNeS:DR2:=fun x y Q=>∃k,pM x y=some k/\Q (.bool (!k))
theorem sr_eq:SndR2 K rEq dEqS:=by
 rintro H v u dx dy Qd Q hv hu ⟨k,e,hq⟩ q
 obtain⟨h1,h2⟩:=m9 hv hu e
 exact⟨h1,by rw[h2];exact q _ _ (.bl k) hq⟩
theorem sr_ne:SndR2 K rNe dNeS:=by
 rintro H v u dx dy Qd Q hv hu ⟨k,e,hq⟩ q
 obtain⟨h1,h2⟩:=m9 hv hu e
 exact⟨h1,by rw[h2];exact q _ _ (.bl _) hq⟩
def dEqD:DR2:=fun x y Q=>SeqAt.shaped x=true/\SeqAt.shaped y=true/\Q (.bool (PyData.eqv x y))
def dNeD:DR2:=fun x y Q=>SeqAt.shaped x=true/\SeqAt.shaped y=true/\Q (.bool (!PyData.eqv x y))
theorem yQ:SndR2 K (AX K) dEqD:=fun H v u dx dy Qd Q hv hu ⟨s1,s2,hq⟩ q=>⟨dx,dy,hv,hu,s1,s2,q _ _ (.bl _) hq⟩
theorem yR:SndR2 K (AY K) dNeD:=fun H v u dx dy Qd Q hv hu ⟨s1,s2,hq⟩ q=>⟨dx,dy,hv,hu,s1,s2,q _ _ (.bl _) hq⟩
def Be:PyData->PyData->Option Bool
 | .int i,.int j=>some (decide (i=j))
 | .str i,.str j=>some (decide (i=j))
 | .none,.none=>some true
 | .int _,.str _=>some false | .str _,.int _=>some false | .none,.int _=>some false | .int _,.none=>some false | .none,.str _=>some false | .str _,.none=>some false
 | _,_=>none
def memD(x:PyData):List PyData->Option Bool
 | []=>some false
 | y::ys=>(Be y x).bind fun k=>(memD x ys).map (k || ·)
def As:PyData->Bool
 | .int _=>true
 | .str _=>true
 | .none=>true
 | _=>false
def FJ(neg:Bool):DR2:=fun x y Q=>∃ds k,(y=.list ds\/y=.tuple ds)/\As x=true/\memD x ds=some k/\Q (.bool (if neg then !k else k))
theorem u6{x y:PyData}(hv:Dt K H v x)(hw:Dt K H w y)(e:Be y x=some k):cf w=true/\eqV w v=k:=by
 cases hv<;>cases hw<;>cases e<;>exact⟨rfl,rfl⟩
theorem yS{x:PyData}(hv:Dt K H v x)(hx:As x=true):cf v=true:=by cases hv<;>first | rfl | cases hx
theorem nh{x:PyData}(hv:Dt K H v x)(hx:As x=true)(h:DtAll K H vs ds)(e:memD x ds=some k):cf v=true/\vs.all cf=true/\inV v vs=k:=by
 induction ds generalizing vs k with
 | nil=>cases h;cases e;exact⟨yS hv hx,rfl,rfl⟩
 | cons d ds ih =>
  cases h with
  | @cons w _ vs _ r t =>
   obtain⟨k1,e1,e⟩:=aaJ.mp e
   obtain⟨k2,e2,rfl⟩:=aaH.mp e
   obtain⟨h1,h2,h3⟩:=ih t e2
   obtain⟨a1,a2⟩:=u6 hv r e1
   refine⟨h1,?_,?_⟩
   ·show (cf w && vs.all cf)=true
    rw[a1,h2];rfl
   ·show (eqV w v || inV v vs)=_
    rw[a2,h3]
theorem w9:SndR2 K (D4 K neg) (FJ neg):=by
 rintro H v u dx dy Qd Q hv hu ⟨ds,k,hy,hx,hm,hq⟩ q
 rcases hy with rfl | rfl
 ·cases hu with
  | lst h t =>
   obtain⟨h1,h2,h3⟩:=nh hv hx t hm
   exact⟨_,_,rfl,.inl h,h1,h2,by rw[h3];exact q _ _ (.bl _) hq⟩
 ·cases hu with
  | tup h t =>
   obtain⟨h1,h2,h3⟩:=nh hv hx t hm
   exact⟨_,_,rfl,.inr h,h1,h2,by rw[h3];exact q _ _ (.bl _) hq⟩
def lU(r r':DR2)(da db dc:DE):DE:=fun ρ Q=>da ρ fun x ρ1=>db ρ1 fun y ρ2=>∃dx dy,au ρ2 x=some dx/\au ρ2 y=some dy/\r dx dy fun z=>∃k,z=.bool k /\
 if k=true then dc ρ2 fun w ρ3=>∃dy dw,au ρ3 y=some dy/\au ρ3 w=some dw/\r' dy dw fun d=>Q (.val (.fz d)) ρ3 else Q (.val (.fz (.bool false))) ρ2
theorem iS(hr:SndR2 K r2 r)(hr':SndR2 K r2' r')(ha:cm K ta da)(hb:cm K tb db)(hc:cm K tc dc):cm K (lF r2 r2' ta tb tc) (lU r r' da db dc):=by
 intro b F σ H ρ τ θ Qd Q hK R h q
 refine ha b F σ H ρ τ θ _ _ hK R h fun v H1 x ρ1 R1 h1=>hb b F σ H1 ρ1 _ _ _ _ hK R1 h1 fun u H2 y ρ2 R2 h2=>?_
 obtain⟨dx,dy,e1,e2,h3⟩:=h2
 refine hr H2 v u dx dy _ _ (hK ▸ R2.dt2 e1) (hK ▸ R2.dt e2) h3 fun w d sc hd=>?_
 obtain⟨k,rfl,hd⟩:=hd
 cases sc
 refine⟨k,rfl,?_⟩
 cases k with
 | false =>
  rw[if_neg aae]at hd ⊢
  exact q _ H2 _ _ (R2.drop.drop.sc (.bl _)) hd
 | true =>
  rw[if_pos rfl]at hd ⊢
  refine hc b F σ H2 ρ2 _ _ _ _ hK R2 hd fun w H3 z ρ3 R3 h4=>?_
  obtain⟨dy',dw,e3,e4,h5⟩:=h4
  exact hr' H3 u w dy' dw _ _ (hK ▸ R3.dt2 e3) (hK ▸ R3.dt e4) h5 fun w d sc hd=>q w H3 _ _ (R3.drop.drop.drop.sc sc) hd
theorem rA(ho:OpR X (compareOp op) r2)(hr:SndR2 X.K r2 r)(ho':OpR X (compareOp op') r2')(hr':SndR2 X.K r2' r')(hm:lastMarks [op,op'] [b,c]=false:=by with_unfolding_all rfl) :
  PDe X a da->PDe X b db->PDe X c dc->PDe X (.Compare a [op,op'] [b,c] pos) (lU r r' da db dc)
 | ⟨_,h1,s1⟩,⟨_,h2,s2⟩,⟨_,h3,s3⟩=>⟨_,qB ho ho' h1 h2 h3 hm,iS hr hr' s1 s2 s3⟩
def isNn:PyData->Bool | .none=>true | _=>false
def pN(neg:Bool)(a:DE):DE:=fun ρ Q=>a ρ fun x ρ1=>∃d,au ρ1 x=some d/\Q (.val (.fz (.bool (if neg then !isNn d else isNn d)))) ρ1
theorem gA(h:Dt K H v d):decide (v=.non)=isNn d:=by cases h<;>simp[isNn]
theorem yT{j pos'}:PDe X a da->PDe X (.Compare a [.Is] [.Constant .none j pos'] pos) (pN false da)
 | ⟨_,h1,s1⟩=>⟨_,jf (qp h1),fun b F σ H ρ τ θ Qd Q hK R h q=>s1 b F σ H ρ τ θ _ _ hK R h fun v H1 x ρ1 R1 ⟨d,e,h1⟩=>by
  rw[gA (R1.dt e)]
  exact q _ H1 _ _ (R1.drop.sc (.bl _)) h1⟩
theorem u7{j pos'}:PDe X a da->PDe X (.Compare a [.IsNot] [.Constant .none j pos'] pos) (pN true da)
 | ⟨_,h1,s1⟩=>⟨_,jf (mR h1),fun b F σ H ρ τ θ Qd Q hK R h q=>s1 b F σ H ρ τ θ _ _ hK R h fun v H1 x ρ1 R1 ⟨d,e,h1⟩=>by
  rw[gA (R1.dt e)]
  exact q _ H1 _ _ (R1.drop.sc (.bl _)) h1⟩
def FK(r:DR1)(a:DE):DE:=fun ρ Q=>a ρ fun x ρ1=>∃d,au ρ1 x=some d/\r d fun z=>Q (.val (.fz z)) ρ1
def Ea:DR1:=fun x Q=>∃i,x=.int i/\Q (.int (-i))
theorem yU:PDe X a da->PDe X (.UnaryOp .USub a pos) (FK Ea da)
 | ⟨_,h1,s1⟩=>⟨_,wW qy h1,fun b F σ H ρ τ θ Qd Q hK R h q=>s1 b F σ H ρ τ θ _ _ hK R h fun v H1 x ρ1 R1 ⟨d,e,i,e2,h1⟩=>by
  subst e2
  cases R1.dt e
  exact⟨i,rfl,q _ H1 _ _ (R1.drop.sc (.int _)) h1⟩⟩
def Bf(a b:DE):DE:=fun ρ Q=>a ρ fun x ρ1=>∃k,au ρ1 x=some (.bool k)/\if k=true then b ρ1 Q else Q (.val (.fz (.bool false))) ρ1
def Eb(a b:DE):DE:=fun ρ Q=>a ρ fun x ρ1=>∃k,au ρ1 x=some (.bool k)/\if k=true then Q (.val (.fz (.bool true))) ρ1 else b ρ1 Q
def Bg(a:DE):DE:=fun ρ Q=>a ρ fun x ρ1=>∃k,au ρ1 x=some (.bool k)/\Q (.val (.fz (.bool (!k)))) ρ1
theorem rB{op}:PDe X a da->PDe X (.BoolOp op [a] pos) da
 | ⟨_,h1,s1⟩=>⟨_,xW h1,s1⟩
theorem yV:PDe X a da->PDe X (.BoolOp .And (b::es) pos) db->PDe X (.BoolOp .And (a::b::es) pos) (Bf da db)
 | ⟨_,h1,s1⟩,⟨_,h2,s2⟩=>⟨_,xX h1 h2,fun b F σ H ρ τ θ Qd Q hK R h q=>s1 b F σ H ρ τ θ _ _ hK R h fun v H1 x ρ1 R1 ⟨k,e,h1⟩=>by
  cases R1.dt e
  refine⟨k,rfl,?_⟩
  cases k with
  | false=>rw[if_neg aae]at h1 ⊢;exact q _ H1 _ _ (R1.drop.sc (.bl _)) h1
  | true=>rw[if_pos rfl]at h1 ⊢;exact s2 b F σ H1 ρ1 τ θ _ _ hK R1.drop h1 q⟩
theorem Bh:PDe X a da->PDe X (.BoolOp .Or (b::es) pos) db->PDe X (.BoolOp .Or (a::b::es) pos) (Eb da db)
 | ⟨_,h1,s1⟩,⟨_,h2,s2⟩=>⟨_,AD h1 h2,fun b F σ H ρ τ θ Qd Q hK R h q=>s1 b F σ H ρ τ θ _ _ hK R h fun v H1 x ρ1 R1 ⟨k,e,h1⟩=>by
  cases R1.dt e
  refine⟨k,rfl,?_⟩
  cases k with
  | true=>rw[if_pos rfl]at h1 ⊢;exact q _ H1 _ _ (R1.drop.sc (.bl _)) h1
  | false=>rw[if_neg aae]at h1 ⊢;exact s2 b F σ H1 ρ1 τ θ _ _ hK R1.drop h1 q⟩
theorem yW:PDe X a da->PDe X (.UnaryOp .Not a pos) (Bg da)
 | ⟨_,h1,s1⟩=>⟨_,xY h1,fun b F σ H ρ τ θ Qd Q hK R h q=>s1 b F σ H ρ τ θ _ _ hK R h fun v H1 x ρ1 R1 ⟨k,e,h1⟩=>by
  cases R1.dt e
  exact⟨k,rfl,q _ H1 _ _ (R1.drop.sc (.bl _)) h1⟩⟩
def f9(a:DE):DT:=fun ρ Q=>a ρ fun x ρ1=>∃k,au ρ1 x=some (.bool k)/\Q k ρ1
theorem gS(s1:cm K ta da):SndT K (qA ta) (f9 da):=fun b F σ H ρ τ θ Qd Q hK R h q=>s1 b F σ H ρ τ θ _ _ hK R h fun v H1 x ρ1 R1 ⟨k,e,h1⟩=>by
 cases R1.dt e
 exact⟨k,rfl,q _ H1 _ R1.drop h1⟩
theorem lV(s1:cm K ta da):SndT K (tB ta) (f9 da):=fun b F σ H ρ τ θ Qd Q hK R h q=>s1 b F σ H ρ τ θ _ _ hK R h fun v H1 x ρ1 R1 ⟨k,e,h1⟩=>by
 cases R1.dt e
 exact⟨k,rfl,q _ H1 _ R1.drop h1⟩
theorem u9(ho:OpR X (compareOp op) r2)(hr:SndR2 X.K r2 r)(hm:behindInMarks op b=false):PDe X a da->PDe X b db->PDt X (.Compare a [op] [b] pos) (f9 (uY r da db))
 | ⟨_,h1,s1⟩,⟨_,h2,s2⟩=>⟨_,mY ho h1 h2 hm,gS (lT hr s1 s2)⟩
theorem pO(ho:OpR X (compareOp op) r2)(hr:SndR2 X.K r2 r)(ho':OpR X (compareOp op') r2')(hr':SndR2 X.K r2' r')(hm:lastMarks [op,op'] [b,c]=false:=by with_unfolding_all rfl) :
  PDe X a da->PDe X b db->PDe X c dc->PDt X (.Compare a [op,op'] [b,c] pos) (f9 (lU r r' da db dc))
 | ⟨_,h1,s1⟩,⟨_,h2,s2⟩,⟨_,h3,s3⟩=>⟨_,qC ho ho' h1 h2 h3 hm,gS (iS hr hr' s1 s2 s3)⟩
theorem vc{j pos'}:PDe X a da->PDt X (.Compare a [.Is] [.Constant .none j pos'] pos) (f9 (pN false da))
 | ⟨_,h1,s1⟩=>⟨_,jg (qp h1),lV (fun b F σ H ρ τ θ Qd Q hK R h q=>s1 b F σ H ρ τ θ _ _ hK R h fun v H1 x ρ1 R1 ⟨d,e,h1⟩=>by
  rw[gA (R1.dt e)]
  exact q _ H1 _ _ (R1.drop.sc (.bl _)) h1)⟩
theorem rC{j pos'}:PDe X a da->PDt X (.Compare a [.IsNot] [.Constant .none j pos'] pos) (f9 (pN true da))
 | ⟨_,h1,s1⟩=>⟨_,jg (mR h1),lV (fun b F σ H ρ τ θ Qd Q hK R h q=>s1 b F σ H ρ τ θ _ _ hK R h fun v H1 x ρ1 R1 ⟨d,e,h1⟩=>by
  rw[gA (R1.dt e)]
  exact q _ H1 _ _ (R1.drop.sc (.bl _)) h1)⟩
def Bi(t u:DT):DT:=fun ρ Q=>t ρ fun c ρ1=>if c=true then u ρ1 Q else Q false ρ1
def Ec(t u:DT):DT:=fun ρ Q=>t ρ fun c ρ1=>if c=true then Q true ρ1 else u ρ1 Q
def Bj(t:DT):DT:=fun ρ Q=>t ρ fun c ρ1=>Q (!c) ρ1
variable{dt du:DT}
theorem PDw.pt:PDw X e dt->PDt X e dt
 | ⟨_,h,s⟩=>⟨_,h.pt,s⟩
theorem rD:PDt X a dt->PDw X (.BoolOp .And [a] pos) dt
 | ⟨_,h,s⟩=>⟨_,uw h,s⟩
theorem vd:PDt X a dt->PDw X (.BoolOp .Or [a] pos) dt
 | ⟨_,h,s⟩=>⟨_,xT h,s⟩
theorem ve:PDt X a dt->PDw X (.BoolOp .And (b::es) pos) du->PDw X (.BoolOp .And (a::b::es) pos) (Bi dt du)
 | ⟨_,h1,s1⟩,⟨_,h2,s2⟩=>⟨_,xU h1 h2,fun b F σ H ρ τ θ Qd Q hK R h q=>s1 b F σ H ρ τ θ _ _ hK R h fun k H1 ρ1 R1 h1=>by
  cases k with
  | false=>rw[if_neg aae]at h1 ⊢;exact q _ H1 _ R1 h1
  | true=>rw[if_pos rfl]at h1 ⊢;exact s2 b F σ H1 ρ1 τ θ _ _ hK R1 h1 q⟩
theorem yX:PDt X a dt->PDw X (.BoolOp .Or (b::es) pos) du->PDw X (.BoolOp .Or (a::b::es) pos) (Ec dt du)
 | ⟨_,h1,s1⟩,⟨_,h2,s2⟩=>⟨_,AA h1 h2,fun b F σ H ρ τ θ Qd Q hK R h q=>s1 b F σ H ρ τ θ _ _ hK R h fun k H1 ρ1 R1 h1=>by
  cases k with
  | true=>rw[if_pos rfl]at h1 ⊢;exact q _ H1 _ R1 h1
  | false=>rw[if_neg aae]at h1 ⊢;exact s2 b F σ H1 ρ1 τ θ _ _ hK R1 h1 q⟩
theorem vf:PDt X a dt->PDt X (.UnaryOp .Not a pos) (Bj dt)
 | ⟨_,h,s⟩=>⟨_,xV h,fun b F σ H ρ τ θ Qd Q hK R h q=>s b F σ H ρ τ θ _ _ hK R h fun k H1 ρ1 R1 h1=>q _ H1 _ R1 h1⟩
def FL(t:DT)(a b:DE):DE:=fun ρ Q=>t ρ fun c ρ1=>if c=true then a ρ1 Q else b ρ1 Q
theorem Bk:PDt X c dt->PDe X a da->PDe X b db->PDe X (.IfExp c a b pos) (FL dt da db)
 | ⟨_,h,s⟩,⟨_,h1,s1⟩,⟨_,h2,s2⟩=>⟨_,qq h h1 h2,fun b F σ H ρ τ θ Qd Q hK R h q=>s b F σ H ρ τ θ _ _ hK R h fun k H1 ρ1 R1 h1=>by
  cases k with
  | true=>rw[if_pos rfl]at h1 ⊢;exact s1 b F σ H1 ρ1 τ θ _ _ hK R1 h1 q
  | false=>rw[if_neg aae]at h1 ⊢;exact s2 b F σ H1 ρ1 τ θ _ _ hK R1 h1 q⟩
theorem DtAll.emp(h:DtAll K H xs ds):xs.isEmpty=ds.isEmpty:=by cases h<;>rfl
end
end
section
section
variable{X:Cx}{K:WF}{a b c e:Expr}{es:List Expr}{da db dc:DE}{dt:DA}{pos:Pos}{x:Str}
def dNil:DA:=fun ρ Q=>Q [] ρ
def Bm(a:DE)(t:DA):DA:=fun ρ Q=>a ρ fun x ρ1=>t ρ1 fun xs ρ2=>Q (x::xs) ρ2
theorem pda_nil:PDa X [] dNil:=⟨_,cJ,fun b F σ H ρ τ θ Qd Q hK R h q=>q [] H [] ρ rfl R h⟩
theorem rE(hs:starEach (e::es) X.env=(false,eval e X.env)::starEach es X.env:=by rfl):PDe X e da->PDa X es dt->PDa X (e::es) (Bm da dt)
 | ⟨_,h1,s1⟩,⟨_,h2,s2⟩=>⟨_,be h1 h2 hs,fun b F σ H ρ τ θ Qd Q hK R h q=>s1 b F σ H ρ τ θ _ _ hK R h fun v H1 r ρ1 R1 h1=>s2 b F σ H1 ρ1 _ _ _ _ hK R1 h1 fun vs H2 rs ρ2 el R2 h2 =>
  q (v::vs) H2 (r::rs) ρ2 (by simp[el]) (Rel.rot R2 el) h2⟩
end
def own1(ρ:DEnv):OR->Option (OD × DEnv)
 | .val x=>some (x,ρ)
 | .rf i=>(frz1 ρ (.rf i)).map fun z=>(.fz z.1,z.2)
def mv1(ρ:DEnv):OR->Option (OD × DEnv)
 | .val x=>some (x,ρ)
 | .rf i=>(ρ[i]?.join).map fun x=>(x,ρ.set i none)
def mapR(f:DEnv->OR->Option (OD × DEnv))(ρ:DEnv):List OR->Option (List OD × DEnv)
 | []=>some ([],ρ)
 | r::rs=>(f ρ r).bind fun z=>(mapR f z.2 rs).map fun y=>(z.1::y.1,y.2)
def qk:List OD->Option (List PyData)
 | []=>some []
 | .fz d::xs=>match qk xs with | some ds=>some (d::ds) | none=>none
 | _::_=>none
def mkTup(xs:List OD):OD:=match qk xs with
 | some ds=>.fz (.tuple ds)
 | none=>.tup xs
section
variable{b:Bs}{F:List Fr}{σ:St}{H H':Hp}{ρ ρ':DEnv}{τ vs:List V}{θ rs:List OR}{v u:V}{r:OR}{x y:OD}{d:PyData}{ds:List PyData}{i:Nat}{L:List (V × OD)}{p:Addr}
theorem Rel.own1(R:Rel b F σ H ρ (v::τ) (r::θ))(e:own1 ρ r=some (x,ρ')):Rel b F σ H ρ' (v::τ) (.val x::θ):=by
 cases r with
 | val x=>simp only[L2.own1]at e;cases e;exact R
 | rf i =>
  simp only[L2.own1,aaH]at e
  obtain⟨⟨d,ρ1⟩,e1,e2⟩:=e
  cases e2
  exact R.frz1 e1
theorem Rel.mv1(R:Rel b F σ H ρ (v::τ) (r::θ))(e:mv1 ρ r=some (x,ρ')):Rel b F σ H ρ' (v::τ) (.val x::θ):=by
 cases r with
 | val x=>simp only[L2.mv1]at e;cases e;exact R
 | rf i =>
  simp only[L2.mv1,aaH]at e
  obtain⟨x,e1,e2⟩:=e
  cases e2
  obtain⟨u,eu,w⟩:=R.drop.slot (join_some e1)
  have:v=u:=by have:=R.al.1;rw[eu]at this;cases this;rfl
  subst this
  exact⟨R.wf.off,R.drop.al,R.wff,w⟩
theorem eT{f:DEnv->OR->Option (OD × DEnv)}(hf:∀{ρ ρ':DEnv} {τ:List V} {θ:List OR} {v:V} {r:OR} {x:OD},Rel b F σ H ρ (v::τ) (r::θ)->f ρ r=some (x,ρ')->Rel b F σ H ρ' (v::τ) (.val x::θ)) :
  ∀{vs:List V} {rs:List OR} {ρ ρ':DEnv} {xs:List OD} {τ:List V} {θ:List OR},Rel b F σ H ρ (vs++τ) (rs++θ)->vs.length=rs.length->mapR f ρ rs=some (xs,ρ')->Rel b F σ H ρ' (vs++τ) (xs.map OR.val++θ)/\vs.length=xs.length
 | [],[],_,_,_,_,_,R,_,e=>by simp only[mapR]at e;cases e;exact⟨R,rfl⟩
 | v::vs,r::rs,ρ,ρ',ds,τ,θ,R,e,h=>by
  simp only[mapR,aaJ,aaH]at h
  obtain⟨⟨d,ρ1⟩,h1,⟨ds',ρ2⟩,h2,h3⟩:=h
  cases h3
  have R1:Rel b F σ H ρ1 (v::(vs++τ)) (.val d::(rs++θ)):=hf R h1
  have e':vs.length=rs.length:=by simpa using e
  obtain⟨R2,e2⟩:=eT hf (Rel.tor (vs:=vs) (rs:=rs) R1 e') e' h2
  exact⟨Rel.rot R2 (by rw[e2,aaa]),by simp[e2]⟩
 | [],_::_,_,_,_,_,_,_,e,_=>by simp at e
 | _::_,[],_,_,_,_,_,_,e,_=>by simp at e
theorem bS:∀{vs:List V} {xs:List OD},vs.length=xs.length->stk vs (xs.map OR.val)=vs.zip xs
 | [],[],_=>rfl
 | _::_,_::_,e=>by simp only[aal,stk,abx];rw[bS (by simpa using e)]
 | [],_::_,e=>by simp at e
 | _::_,[],e=>by simp at e
theorem Rel.vals{xs:List OD}(R:Rel b F σ H ρ (vs++τ) (xs.map OR.val++θ))(e:vs.length=xs.length):Wd b H (vs.zip xs++(stk τ θ++(flat σ ρ++ff F))):=by
 have w:=R.wd
 rw[aC (by rw[aaa];exact e),bS e,aah]at w
 exact w
theorem Rel.push(R:Rel b F σ H ρ τ θ)(w:Wd b H' ((v,x)::(stk τ θ++(flat σ ρ++ff F)))):Rel b F σ H' ρ (v::τ) (.val x::θ):=⟨R.wf,R.al,R.wff,w⟩
theorem Wd.below{z:V × OD}{L1 L2:List (V × OD)}(w:Wd b H (z::(L1++L2))):Wd b H (z::L2):=Wd.drops (L1:=L1) (w.perm (aav.symm))
theorem fzL_map{xs:List OD}{ds:List PyData}(e:qk xs=some ds):xs=ds.map OD.fz:=by
 induction xs generalizing ds with
 | nil=>cases e;rfl
 | cons x xs ih =>
  cases x with
  | fz d =>
   rw[qk]at e
   cases h:qk xs with
   | none=>rw[h]at e;cases e
   | some ds=>rw[h]at e;cases e;rw[ih h];rfl
  | _=>cases e
theorem eI:∀(ds:List PyData),qk (ds.map OD.fz)=some ds
 | []=>rfl
 | d::ds=>by simp only[aal,qk,eI ds]
theorem dats_fz:∀(ds:List PyData),OD.dats (ds.map OD.fz)=some ds
 | []=>rfl
 | d::ds=>by simp only[aal,OD.dats,OD.dat,dats_fz ds]
theorem kA{xs:List OD}(w:Wd b H (vs.zip xs++L))(el:vs.length=xs.length)(hp:H p=none):Wd b (upd H p (.tup vs)) ((.ref p,mkTup xs)::L):=by
 unfold mkTup
 cases h:qk xs with
 | some ds =>
  have hx:=fzL_map h
  subst hx
  refine Wd.below (L1:=vs.zip (ds.map OD.fz)) (w.newTup (fun S hS=>hS.all (by simpa using el) fun z hz=>aad _ hz) hp)
 | none=>exact w.newTupC el hp
end
section
variable{X:Cx}{K:WF}{a b c e:Expr}{es:List Expr}{da db dc:DE}{dt:DA}{pos:Pos}{x:Str}
def Ed(f:DEnv->OR->Option (OD × DEnv))(t:DA):DE:=fun ρ Q=>t ρ fun rs ρ1=>∃xs ρ2,mapR f ρ1 rs=some (xs,ρ2)/\rs.length≤1000000/\Q (.val (mkTup xs)) ρ2
def Ee(f:DEnv->OR->Option (OD × DEnv))(t:DA):DE:=fun ρ Q=>t ρ fun rs ρ1=>∃xs ρ2,mapR f ρ1 rs=some (xs,ρ2)/\rs.length≤1000000/\Q (.val (.lst xs)) ρ2
structure Hand (f:DEnv->OR->Option (OD × DEnv)):Prop where
 ok:∀{b:Bs} {F:List Fr} {σ:St} {H:Hp} {ρ ρ':DEnv} {τ:List V} {θ:List OR} {v:V} {r:OR} {x:OD},Rel b F σ H ρ (v::τ) (r::θ)->f ρ r=some (x,ρ')->Rel b F σ H ρ' (v::τ) (.val x::θ)
theorem Bp:Hand own1:=⟨Rel.own1⟩
variable{f:DEnv->OR->Option (OD × DEnv)}
theorem yY{x1}(hf:Hand f):PDa X es dt->PDe X (.Tuple es x1 pos) (Ed f dt)
 | ⟨_,h1,s1⟩=>⟨_,lJ h1,fun b F σ H ρ τ θ Qd Q hK R h q=>s1 b F σ H ρ τ θ _ _ hK R h fun vs H1 rs ρ1 el R1 ⟨xs,ρ2,e1,e3,h1⟩=>⟨lQ (by rw[el];exact e3),fun p hp=>by
  obtain⟨R2,e4⟩:=eT hf.ok R1 el e1
  exact q _ _ _ _ ((R2.drops (by rw[aaa];exact e4)).push (kA (R2.vals e4) e4 hp)) h1⟩⟩
theorem yZ(hf:Hand f):PDa X es dt->PDe X (.List es pos) (Ee f dt)
 | ⟨_,h1,s1⟩=>⟨_,yz h1,fun b F σ H ρ τ θ Qd Q hK R h q=>s1 b F σ H ρ τ θ _ _ hK R h fun vs H1 rs ρ1 el R1 ⟨xs,ρ2,e1,e3,h1⟩=>⟨lQ (by rw[el];exact e3),fun p hp=>by
  obtain⟨R2,e4⟩:=eT hf.ok R1 el e1
  exact q _ _ _ _ ((R2.drops (by rw[aaa];exact e4)).push ((R2.vals e4).newLst e4 hp)) h1⟩⟩
end
def dn(ρ:DEnv):OR->Option OD
 | .val x=>some x
 | .rf i=>ρ[i]?.join
def listOf:OD->Option (List PyData)
 | .fz (.list ds)=>some ds
 | .lst xs=>qk xs
 | _=>none
def gb:OD->Option (List PyData)
 | .fz (.tuple ds)=>some ds
 | _=>none
def vg(ρ:DEnv)(r:OR):Option (List PyData):=(dn ρ r).bind listOf
def itemO:OD->Int->Option OD
 | .fz (.list ds),i=>match atI ds i with | some d=>some (.fz d) | none=>none
 | .fz (.tuple ds),i=>match atI ds i with | some d=>some (.fz d) | none=>none
 | .lst xs,i=>atI xs i
 | .tup xs,i=>atI xs i
 | _,_=>none
def itemS:OD->Int->Option (PyData × OD)
 | .lst xs,i=>match ixN xs.length i with
  | some k=>match xs[k]? with
   | some c=>match c.dat with | some d=>some (d,.lst (xs.set k (.fz d))) | none=>none
   | none=>none
  | none=>none
 | .tup xs,i=>match ixN xs.length i with
  | some k=>match xs[k]? with
   | some c=>match c.dat with | some d=>some (d,.tup (xs.set k (.fz d))) | none=>none
   | none=>none
  | none=>none
 | _,_=>none
def bD(ρ:DEnv)(r:OR)(i:Int):Option (OD × DEnv):=match r with
 | .val x=>match itemO x i with | some y=>some (y,ρ) | none=>none
 | .rf j=>match ρ[j]?.join with
  | some x=>match itemS x i with | some (d,y)=>some (.fz d,ρ.set j (some y)) | none=>none
  | none=>none
section
variable{b:Bs}{F:List Fr}{σ:St}{H H':Hp}{ρ ρ':DEnv}{τ vs:List V}{θ rs:List OR}{v u:V}{r r':OR}{x y:OD}{d:PyData}{ds:List PyData}{i:Nat}{L:List (V × OD)}{p:Addr}
theorem gT{α β:Type}{xs:List α}{ys:List β}{i:Int}{y:β}(el:xs.length=ys.length)(h:atI ys i=some y):∃k x,ixN xs.length i=some k/\ys[k]?=some y/\xs[k]?=some x/\atI xs i=some x:=by
 unfold atI at h ⊢
 rw[<- el]at h
 simp only[aaJ]at h
 obtain⟨k,e1,e2⟩:=h
 have hk:k < ys.length:=(aas.mp e2).1
 refine⟨k,xs[k]'(by omega),e1,e2,aar _,?_⟩
 rw[e1]
 exact aar _
theorem cg{α β:Type}{xs:List α}{ys:List β}{k:Nat}{x:α}{y:β}(e1:xs[k]?=some x)(e2:ys[k]?=some y):(x,y)∈xs.zip ys:=by
 rw[List.mem_iff_getElem?]
 exact⟨k,by rw[List.getElem?_zip_eq_some];exact⟨e1,e2⟩⟩
theorem Wd.pick{z:V × OD}{Z:List (V × OD)}(w:Wd b H (Z++L))(m:z∈Z):Wd b H (z::L):=by
 obtain⟨Z1,Z2,rfl⟩:=List.append_of_mem m
 refine Wd.below (L1:=Z1++Z2) (w.perm ?_)
 rw[aah,aah]
 exact aav
theorem y0{n k:Nat}{i:Int}(h:ixN n i=some k):k < n:=by
 unfold ixN at h
 split at h
 ·split at h
  ·cases h;omega
  ·cases h
 ·split at h
  ·cases h;omega
  ·cases h
theorem Wd.takeKid{k:Nat}{z:OD}(w:Wd b H ((v,x)::L))(e:x.kids[k]?=some z):∃u,Chd b H v x k u z/\Wd b H ((u,z)::L):=by
 obtain⟨A0,h0,_,_⟩:=w.out
 cases h0 with
 | cons r t =>
  obtain⟨u,B,A',c,_⟩:=r.kid e
  refine⟨u,c,Wd.puts (L1:=[(v,x)]) (L2:=[(u,z)]) w fun S A h nd hA al nt=>?_⟩
  obtain⟨u',B,A',c',hB,pB,_⟩:=(OwL.one h).kid e
  have eu:u'=u:=(Chd.det c' c).1
  subst eu
  have sb:∀c∈B,c∈A:=fun c hc=>pB.mem_iff.mpr (aad _ hc)
  exact⟨B,OwL.of1 (Ow.sub nt (fun c z=>z.elim (·.1) fun z=>hA c (sb c z)) hB),(aaC.mp (pB.nodup_iff.mp nd)).1,sb⟩
theorem Wd.itemF{i:Int}{l:Bool}(w:Wd b H ((v,.fz (if l then .list ds else .tuple ds))::L))(e:atI ds i=some d):∃p vs u,v=.ref p/\(SqL b.K H p vs\/SqT b.K H p vs)/\atI vs i=some u/\Wd b H ((u,.fz d)::L):=by
 obtain⟨xs,w2⟩:=Wd.pin w rfl
 obtain⟨a,rfl,el,h,w3⟩:=w2.pinned aaj
 obtain⟨k,u,_,e2,e3,e4⟩:=gT el e
 refine⟨a,xs,u,rfl,?_,e4,Wd.below (L1:=[(V.ref a,OD.pin l xs ds)]) (w3.pick (cg e3 (by rw[aau,e2];rfl)))⟩
 cases l with
 | true=>exact .inl h
 | false=>exact .inr h
theorem Wd.itemO{i:Int}(w:Wd b H ((v,x)::L))(e:itemO x i=some y):∃p vs u,v=.ref p/\(SqL b.K H p vs\/SqT b.K H p vs)/\atI vs i=some u/\Wd b H ((u,y)::L):=by
 cases x with
 | fz d =>
  cases d with
  | list ds =>
   simp only[L2.itemO]at e
   cases h:atI ds i with
   | none=>rw[h]at e;cases e
   | some d=>rw[h]at e;cases e;exact Wd.itemF (l:=true) w h
  | tuple ds =>
   simp only[L2.itemO]at e
   cases h:atI ds i with
   | none=>rw[h]at e;cases e
   | some d=>rw[h]at e;cases e;exact Wd.itemF (l:=false) w h
  | _=>simp[L2.itemO]at e
 | lst xs =>
  simp only[L2.itemO]at e
  obtain⟨k,_,e1,e2,_⟩:=gT (xs:=xs) rfl e
  obtain⟨u,c,w2⟩:=w.takeKid (k:=k) (z:=y) e2
  cases c with
  | lst f1 f2 f3 f4=>exact⟨_,_,u,rfl,.inl (SqL.of f1),by unfold atI;rw[f2,e1];exact f3,w2⟩
 | tup xs =>
  simp only[L2.itemO]at e
  obtain⟨k,_,e1,e2,_⟩:=gT (xs:=xs) rfl e
  obtain⟨u,c,w2⟩:=w.takeKid (k:=k) (z:=y) e2
  cases c with
  | tup f1 f2 f3 f4=>exact⟨_,_,u,rfl,.inr (SqT.of f1),by unfold atI;rw[f2,e1];exact f3,w2⟩
 | dic _ _=>simp[L2.itemO]at e
 | obj _ _ _=>simp[L2.itemO]at e
 | pin _ _ _=>simp[L2.itemO]at e
 | hole _=>simp[L2.itemO]at e
theorem Wd.itemS{i:Int}(w:Wd b H ((v,x)::L))(e:itemS x i=some (d,y)):∃p vs u,v=.ref p/\(SqL b.K H p vs\/SqT b.K H p vs)/\atI vs i=some u/\Wd b H ((u,.fz d)::(v,y)::L):=by
 cases x with
 | fz d=>simp[L2.itemS]at e
 | lst xs =>
  simp only[L2.itemS]at e
  split at e
  ·rename_i k e1
   split at e
   ·rename_i c e2
    split at e
    ·rename_i d' e3
     cases e
     obtain⟨u,ch,w2⟩:=w.frzAt (ks:=[k]) (y:=c) (d:=d) (by simp[OD.at,OD.kids,e2]) e3
     cases ch with
     | cons c1 c2 =>
      cases c2
      cases c1 with
      | lst f1 f2 f3 f4 =>
       simp only[OD.put,OD.kids,e2,OD.setKid]at w2
       exact⟨_,_,u,rfl,.inl (SqL.of f1),by unfold atI;rw[f2,e1];exact f3,w2⟩
    ·cases e
   ·cases e
  ·cases e
 | tup xs =>
  simp only[L2.itemS]at e
  split at e
  ·rename_i k e1
   split at e
   ·rename_i c e2
    split at e
    ·rename_i d' e3
     cases e
     obtain⟨u,ch,w2⟩:=w.frzAt (ks:=[k]) (y:=c) (d:=d) (by simp[OD.at,OD.kids,e2]) e3
     cases ch with
     | cons c1 c2 =>
      cases c2
      cases c1 with
      | tup f1 f2 f3 f4 =>
       simp only[OD.put,OD.kids,e2,OD.setKid]at w2
       exact⟨_,_,u,rfl,.inr (SqT.of f1),by unfold atI;rw[f2,e1];exact f3,w2⟩
    ·cases e
   ·cases e
  ·cases e
 | dic _ _=>simp[L2.itemS]at e
 | obj _ _ _=>simp[L2.itemS]at e
 | pin _ _ _=>simp[L2.itemS]at e
 | hole _=>simp[L2.itemS]at e
end
section
variable{X:Cx}{K:WF}{a b c e:Expr}{es:List Expr}{da db dc:DE}{dt:DA}{pos:Pos}{x:Str}
def FM(a b:DE):DE:=fun ρ Q=>a ρ fun x ρ1=>b ρ1 fun y ρ2=>∃i z ρ3,au ρ2 y=some (.int i)/\bD ρ2 x i=some (z,ρ3)/\Q (.val z) ρ3
theorem Bq(hs:PlainIx b):PDe X a da->PDe X b db->PDe X (.Subscript a b pos) (FM da db)
 | ⟨_,h1,s1⟩,⟨_,h2,s2⟩=>⟨_,qN lL h1 h2 hs,fun b F σ H ρ τ θ Qd Q hK R h q=>s1 b F σ H ρ τ θ _ _ hK R h fun v H1 x ρ1 R1 h1=>s2 b F σ H1 ρ1 _ _ _ _ hK R1 h1 fun u H2 y ρ2 R2 ⟨i,z,ρ3,e1,e2,h2⟩=>by
  have hu:=R2.dt e1
  cases hu
  have R3:=R2.drop
  cases x with
  | val x =>
   simp only[bD]at e2
   cases e3:itemO x i with
   | none=>rw[e3]at e2;cases e2
   | some z' =>
    rw[e3]at e2
    cases e2
    obtain⟨p,vs,u,rfl,hs,hi,w⟩:=Wd.itemO R3.wd e3
    have q':=q u H2 _ _ (R3.drop.push w) h2
    rw[hK]at hs
    exact hs.elim (fun hs=>.inl ⟨p,vs,i,u,rfl,rfl,hs,hi,q'⟩) fun hs=>.inr (.inl ⟨p,vs,i,u,rfl,rfl,hs,hi,q'⟩)
  | rf j =>
   simp only[bD]at e2
   cases e3:ρ2[j]?.join with
   | none=>rw[e3]at e2;cases e2
   | some x =>
    rw[e3]at e2
    simp only at e2
    cases e4:itemS x i with
    | none=>rw[e4]at e2;cases e2
    | some z' =>
     obtain⟨d,x'⟩:=z'
     rw[e4]at e2
     cases e2
     obtain⟨v',ev,w⟩:=R3.drop.slot (join_some e3)
     have:v=v':=by have:=R3.al.1;rw[ev]at this;cases this;rfl
     subst this
     obtain⟨p,vs,u,rfl,hs,hi,w2⟩:=Wd.itemS w e4
     have R4:Rel b F σ H2 (ρ2.set j (some x')) (u::τ) (.val (.fz d)::θ):=Rel.back (τ:=u::τ) (θ:=.val (.fz d)::θ) R3.wf R3.drop.al R3.wff ev (w2.perm (List.Perm.swap _ _ _))
     have q':=q u H2 _ _ R4 h2
     rw[hK]at hs
     exact hs.elim (fun hs=>.inl ⟨p,vs,i,u,rfl,rfl,hs,hi,q'⟩) fun hs=>.inr (.inl ⟨p,vs,i,u,rfl,rfl,hs,hi,q'⟩)⟩
variable{k:Nat}{f:Addr}{fd:FuncData}{ps:List Str}{sp:DSp}{p:Pos}
def cA(ρ:DEnv):List OR->Option (List PyData)
 | []=>some []
 | r::rs=>(au ρ r).bind fun d=>(cA ρ rs).map (d::·)
theorem Rel.dtL{b:Bs}{F:List Fr}{σ:St}{H:Hp}{ρ:DEnv}:∀{vs:List V} {rs:List OR} {τ:List V} {θ:List OR} {ds:List PyData},Rel b F σ H ρ (vs++τ) (rs++θ)->vs.length=rs.length->cA ρ rs=some ds->DtAll b.K H vs ds
 | [],[],_,_,_,_,_,e=>by simp only[cA]at e;cases e;exact .nil
 | v::vs,r::rs,τ,θ,ds,R,el,e=>by
  simp only[cA,aaJ,aaH]at e
  obtain⟨d,e1,ds',e2,rfl⟩:=e
  exact .cons (Rel.dt R e1) (Rel.dtL (Rel.drop R) (by simpa using el) e2)
 | [],_::_,_,_,_,_,e,_=>by simp at e
 | _::_,[],_,_,_,_,e,_=>by simp at e
def SndCB(K:WF)(r2:List V->Hp->VK->Prop)(r:DRn):Prop:=∀(H:Hp) (vs:List V) (ds:List PyData) (Qd:PyData->Prop) (Q:VK),DtAll K H vs ds->r ds Qd->(∀w d,Sc w d->Qd d->Q w H)->r2 vs H Q
def Dh(r:DRn)(t:DA):DE:=fun ρ Q=>t ρ fun rs ρ1=>∃ds,cA ρ1 rs=some ds/\r ds fun d=>Q (.val (.fz d)) ρ1
theorem rF{r2:List V->Hp->VK->Prop}{r:DRn}{ta:TA}(hr:SndCB K r2 r)(s1:rm K ta dt):cm K (D2 r2 ta) (Dh r dt):=fun b F σ H ρ τ θ Qd Q hK R h q=>s1 b F σ H ρ τ θ _ _ hK R h fun vs H1 rs ρ1 el R1 ⟨ds,e1,h1⟩ =>
 hr H1 vs ds _ _ (hK ▸ R1.dtL el e1) h1 fun w d sc hd=>q w H1 _ _ ((R1.drops el).sc sc) hd
theorem bT {r2:List V->Hp->VK->Prop} {r:DRn} {id:String} (hc:bN X (.builtin id) r2) (hr:SndCB X.K r2 r) (hg:Gl X x) (hm:X.mg x=none) (hv:bootBuiltins x=some (.builtin id)) (hn:x≠"__name__":=by decide) (hdb:(x == ("__debug__":Str))=false:=by decide)
  (he:starEach (e::es) X.env=(false,eval e X.env)::starEach es X.env:=by rfl) (hpl:(backTo pos (starEach es X.env)).any (·.1)=false:=by rfl):PDa X (e::es) dt->PDe X (.Call (.Name x p) (e::es) [] pos) (Dh r dt)
 | ⟨_,h1,s1⟩=>⟨_,eQ hc hg hm hv h1 hn hdb he hpl,rF hr s1⟩
theorem rG {r2:List V->Hp->VK->Prop} {r:DRn} {id:String} (hc:bN X (.type id) r2) (hr:SndCB X.K r2 r) (hg:Gl X x) (hm:X.mg x=none) (hv:bootBuiltins x=some (.type id)) (hn:x≠"__name__":=by decide) (hdb:(x == ("__debug__":Str))=false:=by decide)
  (he:starEach (e::es) X.env=(false,eval e X.env)::starEach es X.env:=by rfl) (hpl:(backTo pos (starEach es X.env)).any (·.1)=false:=by rfl):PDa X (e::es) dt->PDe X (.Call (.Name x p) (e::es) [] pos) (Dh r dt)
 | ⟨_,h1,s1⟩=>⟨_,fJ hc hg hm hv h1 hn hdb he hpl,rF hr s1⟩
def jt:PyData->Option Nat
 | .list ds=>some ds.length
 | .tuple ds=>some ds.length
 | _=>none
def dLen:DRn:=fun ds Q=>∃d n,ds=[d]/\jt d=some n/\Q (.int n)
theorem sc_len:SndCB K (fun xs H Q=>∃x n,xs=[x]/\AO K x H n/\Q (.int n) H) dLen:=by
 rintro H vs ds Qd Q hv ⟨d,n,rfl,e,hq⟩ q
 cases hv with
 | cons h t =>
  cases t
  refine⟨_,n,rfl,?_,q _ _ (.int _) hq⟩
  cases h with
  | lst s t=>simp only[jt]at e;cases e;exact .inl ⟨_,s,t.length.symm⟩
  | tup s t=>simp only[jt]at e;cases e;exact .inr ⟨_,s,t.length.symm⟩
  | _=>simp[jt]at e
def dAbs:DRn:=fun ds Q=>∃i,ds=[.int i]/\Q (.int (if i < 0 then -i else i))
theorem sc_abs:SndCB K (fun xs H Q=>∃i,xs=[.int i]/\Q (.int (if i < 0 then -i else i)) H) dAbs:=by
 rintro H vs ds Qd Q hv ⟨i,rfl,hq⟩ q
 cases hv with | cons h t=>cases t;cases h;exact⟨i,rfl,q _ _ (.int _) hq⟩
def dMax:DRn:=fun ds Q=>∃i j,ds=[.int i,.int j]/\Q (.int (if j > i then j else i))
theorem sc_max:SndCB K (fun xs H Q=>∃i j,xs=[.int i,.int j]/\Q (.int (if j > i then j else i)) H) dMax:=by
 rintro H vs ds Qd Q hv ⟨i,j,rfl,hq⟩ q
 cases hv with | cons h t=>cases t with | cons h' t=>cases t;cases h;cases h';exact⟨i,j,rfl,q _ _ (.int _) hq⟩
def dMin:DRn:=fun ds Q=>∃i j,ds=[.int i,.int j]/\Q (.int (if j < i then j else i))
theorem sc_min:SndCB K (fun xs H Q=>∃i j,xs=[.int i,.int j]/\Q (.int (if j < i then j else i)) H) dMin:=by
 rintro H vs ds Qd Q hv ⟨i,j,rfl,hq⟩ q
 cases hv with | cons h t=>cases t with | cons h' t=>cases t;cases h;cases h';exact⟨i,j,rfl,q _ _ (.int _) hq⟩
def toInt:PyData->Option Int
 | .int i=>some i
 | .bool k=>some (if k then 1 else 0)
 | _=>none
def dInt:DRn:=fun ds Q=>∃d i,ds=[d]/\toInt d=some i/\Q (.int i)
theorem sc_int:SndCB K (fun xs H Q=>(∃i,xs=[.int i]/\Q (.int i) H)\/∃k,xs=[.bl k]/\Q (.int (if k then 1 else 0)) H) dInt:=by
 rintro H vs ds Qd Q hv ⟨d,i,rfl,e,hq⟩ q
 cases hv with
 | cons h t =>
  cases t
  cases h with
  | int j=>simp only[toInt]at e;cases e;exact .inl ⟨_,rfl,q _ _ (.int _) hq⟩
  | bl k=>simp only[toInt]at e;cases e;exact .inr ⟨_,rfl,q _ _ (.int _) hq⟩
  | _=>simp[toInt]at e
def allB:List PyData->Option (List Bool)
 | []=>some []
 | .bool k::ds=>(allB ds).map (k::·)
 | _::_=>none
theorem kB:∀{ds:List PyData} {bs:List Bool},allB ds=some bs->ds=bs.map PyData.bool
 | [],_,e=>by simp only[allB]at e;cases e;rfl
 | .bool k::ds,_,e=>by
  simp only[allB,aaH]at e
  obtain⟨bs,e1,rfl⟩:=e
  rw[kB e1];rfl
 | .none::_,_,e=>by simp[allB]at e
 | .int _::_,_,e=>by simp[allB]at e
 | .str _::_,_,e=>by simp[allB]at e
 | .list _::_,_,e=>by simp[allB]at e
 | .tuple _::_,_,e=>by simp[allB]at e
 | .dict _::_,_,e=>by simp[allB]at e
theorem DtAll.bls{H:Hp}{vs:List V}{bs:List Bool}(h:DtAll K H vs (bs.map PyData.bool)):vs=bs.map V.bl:=by
 induction bs generalizing vs with
 | nil=>cases h;rfl
 | cons n ns ih=>cases h with | cons r t=>cases r;rw[aal,ih t]
def dAll:DRn:=fun ds Q=>∃es bs,ds=[.list es]/\allB es=some bs/\Q (.bool (bs.all id))
theorem sc_all:SndCB K (fun xs H Q=>∃(p:Addr) (bs:List Bool),xs=[.ref p]/\SqL K H p (bs.map V.bl)/\Q (.bl (bs.all id)) H) dAll:=by
 rintro H vs ds Qd Q hv ⟨es,bs,rfl,e,hq⟩ q
 have:=kB e
 subst this
 cases hv with
 | cons h t =>
  cases t
  cases h with
  | lst s t=>rw[t.bls]at s;exact⟨_,bs,rfl,s,q _ _ (.bl _) hq⟩
end
end
section
def seqOf(x:OD):Option (List PyData):=match listOf x with
 | some ds=>some ds
 | none=>gb x
section
variable{b:Bs}{F:List Fr}{σ:St}{H H':Hp}{ρ ρ':DEnv}{τ vs:List V}{θ rs:List OR}{v u:V}{r r':OR}{x y:OD}{d:PyData}{ds:List PyData}{i:Nat}{L:List (V × OD)}{p:Addr}
theorem Rel.mem(R:Rel b F σ H ρ (v::τ) (r::θ))(e:dn ρ r=some x):(v,x)∈stk (v::τ) (r::θ)++(flat σ ρ++ff F):=by
 cases r with
 | val y=>simp only[dn]at e;cases e;simp[stk]
 | rf i =>
  simp only[dn]at e
  refine aab _ (aad _ ?_)
  exact (bh (join_some e) R.al.1).mem_iff.mpr aaj
theorem Rel.mem1(R:Rel b F σ H ρ (u::v::τ) (r'::r::θ))(e:dn ρ r=some x):(v,x)∈stk (u::v::τ) (r'::r::θ)++(flat σ ρ++ff F):=by
 have h:=R.drop.mem e
 cases r' with
 | val y=>simp only[stk];exact aag _ h
 | rf i=>exact h
theorem Rel.drop2(R:Rel b F σ H ρ (u::v::τ) (r'::r::θ)):Rel b F σ H ρ (u::τ) (r'::θ):=(Rel.rot (vs:=[u]) (rs:=[r']) R rfl).drop
theorem Ows.fzs(h:Ows b S H vs (ds.map OD.fz) A):FzA b.K S H vs ds:=by
 induction ds generalizing vs A with
 | nil=>cases h;exact .nil
 | cons d ds ih=>cases h with | cons r t=>cases r with | fz f=>exact .cons f (ih t)
theorem Wd.exp(w:Wd b H L)(h0:OwL b (fun a=>a∈A\/b.S0 a) H L A)(nd:A.Nodup)(new:∀a∈A,b.H0 a=none\/b.C a)(h:FzA b.K (fun a=>a∈A\/b.S0 a) H vs ds):Wd b H (vs.zip (ds.map OD.fz)++L):=by
 have q:∀{vs:List V} {ds:List PyData},FzA b.K (fun a=>a∈A\/b.S0 a) H vs ds->OwL b (fun a=>a∈A\/b.S0 a) H (vs.zip (ds.map OD.fz)) []:=by
  intro vs
  induction vs with
  | nil=>intro ds h;cases h;exact .nil
  | cons v vs ih=>intro ds h;cases h with | cons r t=>exact Ows.cons (.fz r) (ih t)
 exact⟨⟨A,OwL.join' (q h) h0,nd,new⟩,w.fr,w.s0,w.nt⟩
theorem Wd.lsItems(w:Wd b H L)(m:(v,x)∈L)(e:listOf x=some ds):∃a vs,v=.ref a/\vs.length=ds.length/\SqL b.K H a vs/\Wd b H (vs.zip (ds.map OD.fz)++L):=by
 obtain⟨A,h0,nd,new⟩:=w.out
 obtain⟨B,h⟩:=OwL.mem h0 m
 cases h with
 | @fz _ d f =>
  cases d with
  | list es =>
   simp only[listOf]at e
   cases e
   obtain⟨a,vs,rfl,h1,h2⟩:=f.list_inv
   exact⟨a,vs,rfl,h2.length,h1.now,w.exp h0 nd new h2⟩
  | _=>simp[listOf]at e
 | @lst a vs xs A' e1 t =>
  simp only[listOf]at e
  have hx:=fzL_map e
  subst hx
  have h2:=Ows.fzs t
  exact⟨a,vs,rfl,h2.length,SqL.of e1,w.exp h0 nd new h2⟩
 | _=>simp[listOf]at e
theorem Wd.tpItems(w:Wd b H L)(m:(v,x)∈L)(e:gb x=some ds):∃a vs,v=.ref a/\vs.length=ds.length/\SqT b.K H a vs/\Wd b H (vs.zip (ds.map OD.fz)++L):=by
 obtain⟨A,h0,nd,new⟩:=w.out
 obtain⟨B,h⟩:=OwL.mem h0 m
 cases h with
 | @fz _ d f =>
  cases d with
  | tuple es =>
   simp only[gb]at e
   cases e
   obtain⟨a,vs,rfl,h1,h2⟩:=f.tup_inv
   exact⟨a,vs,rfl,h2.length,h1.now,w.exp h0 nd new h2⟩
  | _=>simp[gb]at e
 | _=>simp[gb]at e
theorem Wd.sqItems(w:Wd b H L)(m:(v,x)∈L)(e:seqOf x=some ds):∃a vs,v=.ref a/\vs.length=ds.length/\(SqL b.K H a vs\/SqT b.K H a vs)/\Wd b H (vs.zip (ds.map OD.fz)++L):=by
 unfold seqOf at e
 cases h:listOf x with
 | some z=>rw[h]at e;cases e;obtain⟨a,vs,h1,h2,h3,h4⟩:=w.lsItems m h;exact⟨a,vs,h1,h2,.inl h3,h4⟩
 | none=>rw[h]at e;obtain⟨a,vs,h1,h2,h3,h4⟩:=w.tpItems m e;exact⟨a,vs,h1,h2,.inr h3,h4⟩
theorem Rel.newLst(R:Rel b F σ H ρ τ θ){Z:List (V × OD)}(w:Wd b H (Z++(stk τ θ++(flat σ ρ++ff F))))(el:vs.length=ds.length)(m:∀z∈vs.zip (ds.map OD.fz),z∈Z++(stk τ θ++(flat σ ρ++ff F)))(hp:H p=none) :
  Rel b F σ (upd H p (.lst vs)) ρ (.ref p::τ) (.val (.lst (ds.map OD.fz))::θ):=by
 obtain⟨A,h0,nd,new⟩:=w.out
 have w2:=Wd.exp w h0 nd new ((OwL.frzIn h0).all el m)
 exact R.push (Wd.below (Wd.newLst w2 (by simpa using el) hp))
theorem Rel.newTup(R:Rel b F σ H ρ τ θ){Z:List (V × OD)}(w:Wd b H (Z++(stk τ θ++(flat σ ρ++ff F))))(el:vs.length=ds.length)(m:∀z∈vs.zip (ds.map OD.fz),z∈Z++(stk τ θ++(flat σ ρ++ff F)))(hp:H p=none) :
  Rel b F σ (upd H p (.tup vs)) ρ (.ref p::τ) (.val (.fz (.tuple ds))::θ):=R.push (Wd.below (w.newTup (fun S hS=>hS.all el m) hp))
end
section
variable{X:Cx}{K:WF}{a b c e:Expr}{es:List Expr}{da db dc:DE}{dt:DA}{pos p:Pos}{x:Str}
def vh(t:DA):DE:=fun ρ Q=>t ρ fun rs ρ1=>∃r ds,rs=[r]/\(dn ρ1 r).bind seqOf=some ds/\Q (.val (.lst (ds.map OD.fz))) ρ1
theorem pP (hg:Gl X x) (hm:X.mg x=none) (hv:bootBuiltins x=some (.type "list")) (hn:x≠"__name__":=by decide) (hdb:(x == ("__debug__":Str))=false:=by decide)
  (he:starEach (e::es) X.env=(false,eval e X.env)::starEach es X.env:=by rfl) (hpl:(backTo pos (starEach es X.env)).any (·.1)=false:=by rfl):PDa X (e::es) dt->PDe X (.Call (.Name x p) (e::es) [] pos) (vh dt)
 | ⟨_,h1,s1⟩=>⟨_,fJ jm hg hm hv h1 hn hdb he hpl,fun b F σ H ρ τ θ Qd Q hK R h q=>s1 b F σ H ρ τ θ _ _ hK R h fun vs H1 rs ρ1 el R1 ⟨r,ds,e1,e2,h1⟩=>by
  subst e1
  obtain⟨z,e3,e4⟩:=aaJ.mp e2
  match vs,el with
  | [v],_ =>
   obtain⟨a,us,rfl,el,hs,w⟩:=R1.wd.sqItems (R1.mem e3) e4
   rw[hK]at hs
   exact⟨a,us,rfl,hs,fun l hl=>q _ _ _ _ (Rel.drop2 (R1.newLst w el (fun z hz=>aad _ hz) hl)) h1⟩⟩
def y3(t:DA):DE:=fun ρ Q=>t ρ fun rs ρ1=>∃r ds,rs=[r]/\(dn ρ1 r).bind listOf=some ds/\Q (.val (.fz (.tuple ds))) ρ1
theorem rH (hg:Gl X x) (hm:X.mg x=none) (hv:bootBuiltins x=some (.type "tuple")) (hn:x≠"__name__":=by decide) (hdb:(x == ("__debug__":Str))=false:=by decide)
  (he:starEach (e::es) X.env=(false,eval e X.env)::starEach es X.env:=by rfl) (hpl:(backTo pos (starEach es X.env)).any (·.1)=false:=by rfl):PDa X (e::es) dt->PDe X (.Call (.Name x p) (e::es) [] pos) (y3 dt)
 | ⟨_,h1,s1⟩=>⟨_,fJ iK hg hm hv h1 hn hdb he hpl,fun b F σ H ρ τ θ Qd Q hK R h q=>s1 b F σ H ρ τ θ _ _ hK R h fun vs H1 rs ρ1 el R1 ⟨r,ds,e1,e2,h1⟩=>by
  subst e1
  obtain⟨z,e3,e4⟩:=aaJ.mp e2
  match vs,el with
  | [v],_ =>
   obtain⟨a,us,rfl,el,hs,w⟩:=R1.wd.lsItems (R1.mem e3) e4
   rw[hK]at hs
   exact⟨a,us,rfl,.inl ⟨hs,fun l hl=>q _ _ _ _ (Rel.drop2 (R1.newTup w el (fun z hz=>aad _ hz) hl)) h1⟩⟩⟩
def Ef(a b:DE):DE:=fun ρ Q=>a ρ fun x ρ1=>b ρ1 fun y ρ2=>∃ds es,vg ρ2 x=some ds/\vg ρ2 y=some es/\ds.length + es.length≤1000000/\Q (.val (.lst ((ds++es).map OD.fz))) ρ2
theorem vj{α β:Type}{xs xs':List α}{ys ys':List β}(h:xs.length=ys.length):(xs++xs').zip (ys++ys')=xs.zip ys++xs'.zip ys':=List.zip_append h
theorem y4:PDe X a da->PDe X b db->PDe X (.BinOp a .Add b pos) (Ef da db)
 | ⟨_,h1,s1⟩,⟨_,h2,s2⟩=>⟨_,wV uW h1 h2,fun b F σ H ρ τ θ Qd Q hK R h q=>s1 b F σ H ρ τ θ _ _ hK R h fun v H1 x ρ1 R1 h1=>s2 b F σ H1 ρ1 _ _ _ _ hK R1 h1 fun u H2 y ρ2 R2 ⟨ds,es,e1,e2,hz,h2⟩=>by
  obtain⟨x',e3,e4⟩:=aaJ.mp e1
  obtain⟨y',e5,e6⟩:=aaJ.mp e2
  obtain⟨a,us,rfl,el,hs,w⟩:=R2.wd.lsItems (R2.mem1 e3) e4
  obtain⟨c,ws,rfl,el',hs',w'⟩:=w.lsItems (aab _ (R2.mem e5)) e6
  rw[<- aah]at w'
  rw[hK]at hs hs'
  refine⟨a,c,us,ws,rfl,rfl,hs,hs',lQ (by omega),fun l hl=>q _ _ _ _ (Rel.drop2 (Rel.drop2 (R2.newLst w' (by simp[el,el']) (fun z hz=>?_) hl))) h2⟩
  rw[aax,vj (by simpa using el)]at hz
  refine aad _ ?_
  rcases aai.mp hz with hz | hz
  ·exact aab _ hz
  ·exact aad _ hz⟩
abbrev DO:=DEnv->(Option Int->DEnv->Prop)->Prop
def Eg(K:WF)(te:TO)(de:DO):Prop:=∀(b:Bs) (F:List Fr) (σ:St) (H:Hp) (ρ:DEnv) (τ:List V) (θ:List OR) (Qd:Option Int->DEnv->Prop) (Q:Option Int->Hp->Prop),b.K=K->Rel b F σ H ρ τ θ->de ρ Qd->(∀k H' ρ',Rel b F σ H' ρ' τ θ->Qd k ρ'->Q k H')->te σ H Q
inductive PDo (X:Cx)(e:Option Expr)(de:DO):Prop | mk (te:TO) (h:PO X e te) (s:Eg X.K te de)
def dNoPart:DO:=fun ρ Q=>Q none ρ
def Br(a:DE):DO:=fun ρ Q=>a ρ fun x ρ1=>∃i,au ρ1 x=some (.int i)/\Q (some i) ρ1
theorem pdo_none:PDo X none dNoPart:=⟨_,uI,fun b F σ H ρ τ θ Qd Q hK R h q=>q none H ρ R h⟩
theorem rJ:PDe X e da->PDo X (some e) (Br da)
 | ⟨_,h1,s1⟩=>⟨_,uJ h1,fun b F σ H ρ τ θ Qd Q hK R h q=>s1 b F σ H ρ τ θ _ _ hK R h fun v H1 x ρ1 R1 ⟨i,e,h1⟩=>by
  cases R1.dt e
  exact⟨i,rfl,q _ H1 _ R1.drop h1⟩⟩
def cutD{α:Type}(xs:List α)(lo hi:Option Int):List α:=(xs.drop (HT.sIx xs.length 0 lo)).take (HT.sIx xs.length xs.length hi - HT.sIx xs.length 0 lo)
theorem vk{vs:List V}{ds:List OD}(el:vs.length=ds.length)(lo hi:Option Int):∀z∈(cutD vs lo hi).zip (cutD ds lo hi),z∈vs.zip ds:=by
 intro z hz
 unfold cutD at hz
 rw[el,acd,<- List.take_zipWith,<- List.drop_zipWith,<- acd]at hz
 exact List.mem_of_mem_drop (List.mem_of_mem_take hz)
theorem rK{α β:Type}(f:α->β)(xs:List α)(lo hi:Option Int):cutD (xs.map f) lo hi=(cutD xs lo hi).map f:=by
 unfold cutD
 rw[aaa,List.map_take,List.map_drop]
theorem rL{α β:Type}{xs:List α}{ys:List β}(el:xs.length=ys.length)(lo hi:Option Int):(cutD xs lo hi).length=(cutD ys lo hi).length:=by
 unfold cutD
 rw[aa0,abr,aa0,abr,el]
variable{lo hi:Option Expr}{dl dh:DO}{p2:Pos}
def Eh(a:DE)(dl dh:DO):DE:=fun ρ Q=>a ρ fun x ρ1=>dl ρ1 fun l ρ2=>dh ρ2 fun u ρ3=>∃ds,vg ρ3 x=some ds/\Q (.val (.lst ((cutD ds l u).map OD.fz))) ρ3
theorem y6:PDe X e da->PDo X lo dl->PDo X hi dh->PDe X (.Subscript e (.Slice lo hi none p2) pos) (Eh da dl dh)
 | ⟨_,h1,s1⟩,⟨_,h2,s2⟩,⟨_,h3,s3⟩=>⟨_,qM uL h1 h2 h3,fun b F σ H ρ τ θ Qd Q hK R h q=>s1 b F σ H ρ τ θ _ _ hK R h fun v H1 x ρ1 R1 h1=>s2 b F σ H1 ρ1 _ _ _ _ hK R1 h1 fun l H2 ρ2 R2 h2=>s3 b F σ H2 ρ2 _ _ _ _ hK R2 h2 fun u H3 ρ3 R3 ⟨ds,e1,h3⟩=>by
  obtain⟨x',e3,e4⟩:=aaJ.mp e1
  obtain⟨a,us,rfl,el,hs,w⟩:=R3.wd.lsItems (R3.mem e3) e4
  rw[hK]at hs
  refine⟨a,us,rfl,hs,fun l' hl=>q _ _ _ _ (Rel.drop2 (R3.newLst w (rL el l u) (fun z hz=>aad _ ?_) hl)) h3⟩
  rw[<- rK]at hz
  exact vk (by simpa using el) l u z hz⟩
end
end
section
structure DEnds where
 nx:DEnv->Prop
 rt:OD->DEnv->Prop
 bk:DEnv->Prop:=fun _=>False
 ct:DEnv->Prop:=fun _=>False
abbrev DS:=DEnds->DEnv->Prop
def NoRf(W:Nat->Prop)(θ:List OR):Prop:=∀r∈θ,(∃x,r=.val x)\/∃j,W j/\r=.rf j
abbrev Ff:Nat->Prop:=fun _=>False
structure EndsOk (b:Bs)(F:List Fr)(τ:List V)(θ:List OR)(Dd:DEnds)(D:Ends):Prop where
 nx:∀σ H ρ,Rel b F σ H ρ τ θ->Dd.nx ρ->D.nx σ H
 bk:∀σ H ρ,Rel b F σ H ρ τ θ->Dd.bk ρ->D.bk σ H
 ct:∀σ H ρ,Rel b F σ H ρ τ θ->Dd.ct ρ->D.ct σ H
 rt:∀σ H ρ v x,Rel b F σ H ρ (v::τ) (.val x::θ)->Dd.rt x ρ->D.rt v H
def Bt(K:WF)(W:Nat->Prop)(ts:TS)(ds:DS):Prop:=∀(b:Bs) (F:List Fr) (σ:St) (H:Hp) (ρ:DEnv) (τ:List V) (θ:List OR) (Dd:DEnds) (D:Ends),b.K=K->NoRf W θ->Rel b F σ H ρ τ θ->ds Dd ρ->EndsOk b F τ θ Dd D->ts D σ H
inductive PDs (X:Cx)(W:Nat->Prop)(e:Stmt)(de:DS):Prop | mk (te:TS) (h:PS X e te) (s:Bt X.K W te de)
inductive PDss (X:Cx)(W:Nat->Prop)(e:List Stmt)(de:DS):Prop | mk (te:TS) (h:PSs X e te) (s:Bt X.K W te de)
section
variable{b:Bs}{F:List Fr}{σ σ':St}{H H':Hp}{ρ ρ':DEnv}{τ vs:List V}{θ rs:List OR}{v u:V}{r r':OR}{x y:OD}{d:PyData}{ds:List PyData}{i:Nat}{L:List (V × OD)}
variable{W:Nat->Prop}
theorem NoRf.al{o:Option V}(n:NoRf W θ)(hw:¬ W i):∀{τ:List V},Al σ τ θ->Al (σ.set i o) τ θ:=by
 induction θ with
 | nil=>intro τ h;cases τ with
  | nil=>trivial
  | cons _ _=>exact h
 | cons r θ ih =>
  intro τ h
  cases τ with
  | nil=>cases r<;>exact h
  | cons v τ =>
   rcases n r aaj with ⟨x,rfl⟩ | ⟨j,wj,rfl⟩
   ·exact ih (fun r hr=>n r (aag _ hr)) (τ:=τ) h
   ·refine⟨?_,ih (fun r hr=>n r (aag _ hr)) (τ:=τ) h.2⟩
    have ne:i≠j:=fun e=>hw (by rw[e];exact wj)
    rw[aaX ne]
    exact h.1
theorem NoRf.al0(n:NoRf Ff θ):∀{τ:List V},Al σ τ θ->Al σ' τ θ:=by
 induction θ with
 | nil=>intro τ h;cases τ with
  | nil=>trivial
  | cons _ _=>exact h
 | cons r θ ih =>
  intro τ h
  rcases n r aaj with ⟨x,rfl⟩ | ⟨j,wj,rfl⟩
  ·cases τ with
   | nil=>exact h
   | cons v τ=>exact ih (fun r hr=>n r (aag _ hr)) (τ:=τ) h
  ·exact wj.elim
theorem NoRf.weak(n:NoRf Ff θ):NoRf W θ:=fun r hr=>(n r hr).imp id fun ⟨j,wj,_⟩=>wj.elim
theorem NoRf.app(n1:NoRf W rs)(n:NoRf W θ):NoRf W (rs++θ):=fun r hr=>(aai.mp hr).elim (n1 r) (n r)
theorem Wd.offSlot{L1 L2:List (V × OD)}(w:Wd b H (L1++(flat σ ρ++L2)))(wf:Wf σ ρ)(i:Nat):Wd b H (L1++(flat σ (ρ.set i none)++L2)):=by
 cases e:ρ[i]?.join with
 | none =>
  have:ρ.set i none=ρ:=by
   cases h:ρ[i]? with
   | none=>exact List.set_eq_of_length_le (by simpa using h)
   | some o=>rw[h]at e;have:o=none:=e;subst this;exact set_self h
  rw[this];exact w
 | some x =>
  have e':=join_some e
  obtain⟨v,ev⟩:=wf.get e'
  exact Wd.drop (w.perm ((((bh e' ev).append_right _).append_left _).trans aav))
theorem Rel.store(R:Rel b F σ H ρ (v::τ) (.val x::θ))(n:NoRf W θ)(hi:i < ρ.length)(hw:¬ W i):Rel b F (σ.set i (some v)) H (ρ.set i (some x)) τ θ:=by
 refine Rel.unslot R.wf (n.al hw (Rel.drop R).al) R.wff hi ?_
 exact Wd.offSlot (L1:=(v,x)::stk τ θ) (ρ:=ρ) R.wd R.wf i
end
section
variable{X:Cx}{W:Nat->Prop}{K:WF}{a b c e:Expr}{es:List Expr}{sts:List Stmt}{st:Stmt}{da db dc:DE}{dt:DA}{d1 d2:DS}{dT:DT}{pos p:Pos}{x:Str}
def dNext:DS:=fun D ρ=>D.nx ρ
def Ei(t u:DS):DS:=fun D ρ=>∃M:DEnv->Prop,(∀ρ',M ρ'->u D ρ')/\t { D with nx:=M } ρ
theorem pdss_nil:PDss X W [] dNext:=⟨_,ux,fun b F σ H ρ τ θ Dd D hK n R h E=>E.nx σ H ρ R h⟩
theorem pQ:PDs X W st d1->PDss X W sts d2->PDss X W (st::sts) (Ei d1 d2)
 | ⟨_,h1,s1⟩,⟨_,h2,s2⟩=>⟨_,j9 h1 h2,fun b F σ H ρ τ θ Dd D hK n R ⟨M,hM,h⟩ E=>s1 b F σ H ρ τ θ _ _ hK n R h
  ⟨fun σ1 H1 ρ1 R1 h1=>s2 b F σ1 H1 ρ1 τ θ Dd D hK n R1 (hM ρ1 h1) E,E.bk,E.ct,E.rt⟩⟩
def dCont:DS:=fun D ρ=>D.ct ρ
theorem pds_cont:PDs X W (.Continue pos) dCont:=⟨_,ka,fun b F σ H ρ τ θ Dd D hK n R h E=>E.ct σ H ρ R h⟩
def Bu(a:DE):DS:=fun D ρ=>a ρ fun _ ρ1=>D.nx ρ1
theorem rM(hs:swapsWith e none pos.line X.env=pure false:=by rfl):PDe X e da->PDs X W (.Expr e pos) (Bu da)
 | ⟨_,h,s⟩=>⟨_,gz h hs,fun b F σ H ρ τ θ Dd D hK n R h E=>s b F σ H ρ τ θ _ _ hK R h fun v H1 r ρ1 R1 h1=>E.nx σ H1 ρ1 R1.drop h1⟩
def Ej(a:DE):DS:=fun D ρ=>a ρ fun r ρ1=>∃x ρ2,mv1 ρ1 r=some (x,ρ2)/\D.rt x ρ2
theorem vm:PDe X e da->PDs X W (.Return (some e) pos) (Ej da)
 | ⟨_,h,s⟩=>⟨_,xZ h,fun b F σ H ρ τ θ Dd D hK n R h E=>s b F σ H ρ τ θ _ _ hK R h fun v H1 r ρ1 R1 ⟨x,ρ2,e,h1⟩=>E.rt σ H1 ρ2 v x (R1.mv1 e) h1⟩
def Ek(c:DT)(t u:DS):DS:=fun D ρ=>c ρ fun k ρ1=>if k=true then t D ρ1 else u D ρ1
theorem y8{s1 s2:List Stmt}:PDt X c dT->PDss X W s1 d1->PDss X W s2 d2->PDs X W (.If c s1 s2 pos) (Ek dT d1 d2)
 | ⟨_,h,s⟩,⟨_,h1,s1⟩,⟨_,h2,s2⟩=>⟨_,AF h h1 h2,fun b F σ H ρ τ θ Dd D hK n R h E=>s b F σ H ρ τ θ _ _ hK R h fun k H1 ρ1 R1 h1=>by
  cases k with
  | true=>rw[if_pos rfl]at h1 ⊢;exact s1 b F σ H1 ρ1 τ θ _ _ hK n R1 h1 E
  | false=>rw[if_neg aae]at h1 ⊢;exact s2 b F σ H1 ρ1 τ θ _ _ hK n R1 h1 E⟩
def El(i:Nat)(a:DE):DS:=fun D ρ=>a ρ fun r ρ1=>∃x ρ2,own1 ρ1 r=some (x,ρ2)/\i < ρ2.length/\D.nx (ρ2.set i (some x))
theorem vn{i:Nat}{pos':Pos}(hw:¬ W i)(hN:X.N.Nodup)(hi:X.N[i]?=some x)(hx:Loc X.env.scope x)(hs:swapsWith e (some (.Name x pos')) pos.line X.env=pure false:=by rfl)(hf:X.fn x=true\/X.env.scope.names.lookup x=some .local:=by first | exact .inl rfl | exact .inr rfl | assumption) :
  PDe X e da->PDs X W (.Assign [.Name x pos'] e pos) (El i da)
 | ⟨_,h,s⟩=>⟨_,yc hN hi hx h hs hf,fun b F σ H ρ τ θ Dd D hK n R h E=>s b F σ H ρ τ θ _ _ hK R h fun v H1 r ρ1 R1 ⟨x,ρ2,e,hi,h1⟩=>E.nx _ H1 _ ((R1.own1 e).store n hi hw) h1⟩
def dq:List Nat->List OD->DEnv->DEnv
 | i::is,x::xs,ρ=>dq is xs (ρ.set i (some x))
 | _,_,ρ=>ρ
def y9(is:List Nat)(t:DA):DS:=fun D ρ=>t ρ fun rs ρ1=>∃xs ρ2,mapR own1 ρ1 rs=some (xs,ρ2)/\xs.length=is.length/\(∀i∈is,i < ρ2.length)/\D.nx (dq is xs ρ2)
def ju:List Nat->List V->St->St
 | i::is,v::vs,σ=>ju is vs (σ.set i (some v))
 | _,_,σ=>σ
theorem Rel.storeAll{W:Nat->Prop}{b:Bs}{F:List Fr}{H:Hp}{τ:List V}{θ:List OR}:∀{is:List Nat} {vs:List V} {xs:List OD} {σ:St} {ρ:DEnv},Rel b F σ H ρ (vs++τ) (xs.map OR.val++θ)->NoRf W θ->vs.length=xs.length->xs.length=is.length->(∀i∈is,i < ρ.length)->(∀i∈is,¬ W i)->Rel b F (ju is vs σ) H (dq is xs ρ) τ θ
 | [],[],[],_,_,R,_,_,_,_,_=>R
 | i::is,v::vs,x::xs,σ,ρ,R,n,e1,e2,h,hw=>by
  have nn:NoRf W (xs.map OR.val++θ):=NoRf.app (fun r hr=>by obtain⟨x,_,rfl⟩:=aaN.mp hr;exact .inl ⟨x,rfl⟩) n
  show Rel b F (ju is vs (σ.set i (some v))) H (dq is xs (ρ.set i (some x))) τ θ
  exact Rel.storeAll (Rel.store (τ:=vs++τ) (θ:=xs.map OR.val++θ) R nn (h i aaj) (hw i aaj)) n (by simpa using e1) (by simpa using e2) (fun j hj=>by rw[abK];exact h j (aag _ hj)) fun j hj=>hw j (aag _ hj)
 | [],_::_,[],_,_,_,_,e,_,_,_=>by simp at e
 | [],_,_::_,_,_,_,_,_,e,_,_=>by simp at e
 | _::_,[],_::_,_,_,_,_,e,_,_,_=>by simp at e
 | _::_,_,[],_,_,_,_,_,e,_,_=>by simp at e
theorem len2{α:Type}{l:List α}(h:l.length=2):∃a b,l=[a,b]:=by
 match l,h with
 | [a,b],_=>exact⟨a,b,rfl⟩
theorem Em{α:Type}{l:List α}(h:l.length=3):∃a b c,l=[a,b,c]:=by
 match l,h with
 | [a,b,c],_=>exact⟨a,b,c,rfl⟩
theorem vo{i j:Nat}(hW:∀k∈[i,j],¬ W k){x y:Str}{px py pt:Pos}{kt k2 pt2}(hc:X.calm=true)(hN:X.N.Nodup)(hi:X.N[i]?=some x)(hj:X.N[j]?=some y)(hij:i≠j)
  (hx:X.env.scope.names.lookup x=some .local) (hy:X.env.scope.names.lookup y=some .local)
  (hw:swappedStores [.Tuple [.Name x px,.Name y py] kt pt] (.Tuple [a,b] k2 pt2) X.env=pure (some [x,y]))
  (hs:swapsWithSole [.Tuple [.Name x px,.Name y py] kt pt] (.Tuple [a,b] k2 pt2) pos.line X.env=pure false:=by rfl):PDa X [a,b] dt->PDs X W (.Assign [.Tuple [.Name x px,.Name y py] kt pt] (.Tuple [a,b] k2 pt2) pos) (y9 [i,j] dt)
 | ⟨_,h,s⟩=>⟨_,yd hc hN hi hj hij hx hy h hw hs,fun b F σ H ρ τ θ Dd D hK n R h E=>s b F σ H ρ τ θ _ _ hK R h fun vs H1 rs ρ1 el R1 ⟨xs,ρ2,e,el2,hi,h1⟩=>by
  obtain⟨R2,e2⟩:=eT Rel.own1 R1 el e
  obtain⟨v,w,rfl⟩:=len2 (e2.trans el2)
  exact⟨v,w,rfl,E.nx _ H1 _ (Rel.storeAll (is:=[i,j]) R2 n e2 el2 hi hW) h1⟩⟩
theorem rN{i j k:Nat}(hW:∀z∈[i,j,k],¬ W z){x y z:Str}{px py pz pt:Pos}{kt k2 pt2}(hc:X.calm=true)(hN:X.N.Nodup)(hi:X.N[i]?=some x)(hj:X.N[j]?=some y)(hk:X.N[k]?=some z)(hij:i≠j)(hik:i≠k)(hjk:j≠k)
  (hx:X.env.scope.names.lookup x=some .local) (hy:X.env.scope.names.lookup y=some .local) (hz:X.env.scope.names.lookup z=some .local)
  (hw:swappedStores [.Tuple [.Name x px,.Name y py,.Name z pz] kt pt] (.Tuple [a,b,c] k2 pt2) X.env=pure (some [x,y,z]))
  (hs:swapsWithSole [.Tuple [.Name x px,.Name y py,.Name z pz] kt pt] (.Tuple [a,b,c] k2 pt2) pos.line X.env=pure false:=by rfl):PDa X [a,b,c] dt->PDs X W (.Assign [.Tuple [.Name x px,.Name y py,.Name z pz] kt pt] (.Tuple [a,b,c] k2 pt2) pos) (y9 [i,j,k] dt)
 | ⟨_,h,s⟩=>⟨_,uO hc hN hi hj hk hij hik hjk hx hy hz h hw hs,fun b F σ H ρ τ θ Dd D hK n R h E=>s b F σ H ρ τ θ _ _ hK R h fun vs H1 rs ρ1 el R1 ⟨xs,ρ2,e,el2,hi,h1⟩=>by
  obtain⟨R2,e2⟩:=eT Rel.own1 R1 el e
  obtain⟨v,w,u,rfl⟩:=Em (e2.trans el2)
  exact⟨v,w,u,rfl,E.nx _ H1 _ (Rel.storeAll (is:=[i,j,k]) R2 n e2 el2 hi hW) h1⟩⟩
abbrev DG:=OD->DEnv->(DEnv->Prop)->Prop
abbrev DGs:=List OD->DEnv->(DEnv->Prop)->Prop
def rO(K:WF)(W:Nat->Prop)(m:Nat)(g:TG)(dg:DG):Prop:=∀(b:Bs) (F:List Fr) (σ:St) (H:Hp) (ρ:DEnv) (τ:List V) (θ:List OR) (v:V) (x:OD) (Qd:DEnv->Prop) (Q:St->Hp->Prop),b.K=K->NoRf W θ->Rel b F σ H ρ (v::τ) (.val x::θ)->dg x ρ Qd->(∀σ' H' ρ',Rel b F σ' H' ρ' τ θ->(∀j,m≤j->σ'[j]?=σ[j]?/\ρ'[j]?=ρ[j]?)->Qd ρ'->Q σ' H')->g v σ H Q
def Bv(K:WF)(W:Nat->Prop)(m:Nat)(g:TGs)(dg:DGs):Prop:=∀(b:Bs) (F:List Fr) (σ:St) (H:Hp) (ρ:DEnv) (τ:List V) (θ:List OR) (vs:List V) (xs:List OD) (Qd:DEnv->Prop) (Q:St->Hp->Prop),b.K=K->NoRf W θ->vs.length=xs.length->Rel b F σ H ρ (vs++τ) (xs.map OR.val++θ)->dg xs ρ Qd->(∀σ' H' ρ',Rel b F σ' H' ρ' τ θ->(∀j,m≤j->σ'[j]?=σ[j]?/\ρ'[j]?=ρ[j]?)->Qd ρ'->Q σ' H')->g vs σ H Q
inductive PDg (X:Cx)(W:Nat->Prop)(m:Nat)(e:Expr)(dg:DG):Prop | mk (te:TG) (h:PG X e te) (s:rO X.K W m te dg)
inductive PDgs (X:Cx)(W:Nat->Prop)(m:Nat)(e:List Expr)(dg:DGs):Prop | mk (te:TGs) (h:Ar X e te) (s:Bv X.K W m te dg)
def zd(i:Nat):DG:=fun x ρ Q=>i < ρ.length/\Q (ρ.set i (some x))
def dgNil:DGs:=fun xs ρ Q=>xs=[]/\Q ρ
def lW(t:DG)(u:DGs):DGs:=fun xs ρ Q=>∃x r,xs=x::r/\t x ρ fun ρ'=>u r ρ' Q
def unpT:OD->Option (List OD)
 | .fz (.tuple ds)=>some (ds.map OD.fz)
 | .tup xs=>some xs
 | _=>none
def unpL:OD->Option (List OD)
 | .fz (.list ds)=>some (ds.map OD.fz)
 | .lst xs=>some xs
 | _=>none
def Bw(n:Nat)(t:DGs):DG:=fun x ρ Q=>∃xs,unpT x=some xs/\xs.length=n/\t xs ρ Q
def By(n:Nat)(t:DGs):DG:=fun x ρ Q=>∃xs,unpL x=some xs/\xs.length=n/\t xs ρ Q
variable{m:Nat}{dg:DG}{dgs:DGs}
theorem kC{i:Nat}(hw:¬ W i)(hN:X.N.Nodup)(hi:X.N[i]?=some x)(hx:Loc X.env.scope x)(him:i < m)(hf:X.fn x=true\/X.env.scope.names.lookup x=some .local:=by first | exact .inl rfl | exact .inr rfl | assumption):PDg X W m (.Name x pos) (zd i) :=
 ⟨_,uy hN hi hx hf,fun b F σ H ρ τ θ v x Qd Q hK n R ⟨hi,h⟩ q=>q _ _ _ (R.store n hi hw) (fun j hj=>⟨aaX (by omega),aaX (by omega)⟩) h⟩
theorem pdgs_nil:PDgs X W m [] dgNil:=⟨_,uz,fun b F σ H ρ τ θ vs xs Qd Q hK n el R ⟨e,h⟩ q=>by
 subst e
 cases vs with
 | nil=>exact⟨rfl,q _ _ _ R (fun j hj=>⟨rfl,rfl⟩) h⟩
 | cons _ _=>simp at el⟩
theorem fL(hs:(assignEach (e::es) X.env).map (·.2)=assign e X.env::(assignEach es X.env).map (·.2):=by rfl):PDg X W m e dg->PDgs X W m es dgs->PDgs X W m (e::es) (lW dg dgs)
 | ⟨_,h1,s1⟩,⟨_,h2,s2⟩=>⟨_,qr h1 h2 hs,fun b F σ H ρ τ θ vs xs Qd Q hK n el R ⟨x,r,e,h⟩ q=>by
  subst e
  cases vs with
  | nil=>simp at el
  | cons v vs =>
   have nn:NoRf W (r.map OR.val++θ):=NoRf.app (fun r hr=>by obtain⟨x,_,rfl⟩:=aaN.mp hr;exact .inl ⟨x,rfl⟩) n
   exact⟨v,vs,rfl,s1 b F σ H ρ (vs++τ) (r.map OR.val++θ) v x _ _ hK nn R h fun σ1 H1 ρ1 R1 k1 h1=>s2 b F σ1 H1 ρ1 τ θ vs r _ _ hK n (by simpa using el) R1 h1 fun σ2 H2 ρ2 R2 k2 h2 =>
    q _ _ _ R2 (fun j hj=>⟨(k2 j hj).1.trans (k1 j hj).1,(k2 j hj).2.trans (k1 j hj).2⟩) h2⟩⟩
theorem Wd.unpT{b:Bs}{H:Hp}{L:List (V × OD)}{v:V}{x:OD}{xs:List OD}(w:Wd b H ((v,x)::L))(e:unpT x=some xs):∃a vs,v=.ref a/\SqT b.K H a vs/\vs.length=xs.length/\Wd b H (vs.zip xs++L):=by
 cases x with
 | fz d =>
  cases d<;>simp only[L2.unpT]at e<;>cases e
  obtain⟨a,vs,rfl,el,hs,w2⟩:=w.tpItems aaj (rfl:gb (.fz (.tuple _))=some _)
  exact⟨a,vs,rfl,hs,by simpa using el,Wd.drop (w2.perm aav)⟩
 | tup cs =>
  simp only[L2.unpT]at e
  cases e
  obtain⟨A0,h0,nd,new⟩:=w.out
  cases h0 with
  | cons r t =>
   cases r with
   | @tup a vs _ A h1 h2=>exact⟨a,vs,rfl,SqT.of h1,h2.len,⟨⟨_,OwL.join' (OwL.unzips h2) t,nd,new⟩,w.fr,w.s0,w.nt⟩⟩
 | _=>simp[L2.unpT]at e
theorem Wd.unpL{b:Bs}{H:Hp}{L:List (V × OD)}{v:V}{x:OD}{xs:List OD}(w:Wd b H ((v,x)::L))(e:unpL x=some xs):∃a vs,v=.ref a/\SqL b.K H a vs/\vs.length=xs.length/\Wd b H (vs.zip xs++L):=by
 have key:∀{ds:List PyData},listOf x=some ds->xs=ds.map OD.fz->∃a vs,v=.ref a/\SqL b.K H a vs/\vs.length=xs.length/\Wd b H (vs.zip xs++L):=fun {ds} h1 h2=>by
  subst h2
  obtain⟨a,vs,rfl,el,hs,w2⟩:=w.lsItems aaj h1
  exact⟨a,vs,rfl,hs,by simpa using el,Wd.drop (w2.perm aav)⟩
 cases x with
 | fz d=>cases d<;>simp only[L2.unpL]at e<;>cases e;exact key rfl rfl
 | lst cs =>
  simp only[L2.unpL]at e
  cases e
  obtain⟨A0,h0,nd,new⟩:=w.out
  have nt:=w.nt' h0
  cases h0 with
  | @cons _ _ A _ _ B0 r t =>
   cases r with
   | @lst a vs _ B h1 h2 =>
    have sub:∀c,(c∈B++B0\/b.S0 c)->(c∈a::B++B0\/b.S0 c):=fun c z=>z.imp (fun z=>by simp at z ⊢;exact .inr z) id
    exact⟨a,vs,rfl,SqL.of h1,h2.len,⟨⟨_,Ows.step (Kp.refl _ _) (fun c z=>.inl (sub c z)) nt (fun _ _=>rfl) (OwL.join' (OwL.unzips h2) t),(aaz.mp nd).2,fun c hc=>new c (aag _ hc)⟩,w.fr,w.s0,w.nt⟩⟩
 | _=>simp[L2.unpL]at e
theorem eU{σ:St}:∀{vs:List V} {xs:List OD},vs.length=xs.length->Al σ vs (xs.map OR.val)
 | [],[],_=>trivial
 | _::vs,_::xs,e=>eU (vs:=vs) (xs:=xs) (by simpa using e)
 | [],_::_,e=>by simp at e
 | _::_,[],e=>by simp at e
theorem Rel.spread{b:Bs}{F:List Fr}{σ:St}{H:Hp}{ρ:DEnv}{τ vs:List V}{θ:List OR}{xs:List OD}(R:Rel b F σ H ρ τ θ)(el:vs.length=xs.length)(w:Wd b H (vs.zip xs++(stk τ θ++(flat σ ρ++ff F)))):Rel b F σ H ρ (vs++τ) (xs.map OR.val++θ) :=
 ⟨R.wf,(aM (by simpa using el)).mpr ⟨eU el,R.al⟩,R.wff,by rw[aC (by simpa using el),bS el,aah];exact w⟩
theorem ni{k:Nat}{n:Nat}(hc:X.calm=true)(hn:(assignEach es X.env).length=n:=by rfl)(hst:(assignEach es X.env).findIdx? (·.1)=none:=by rfl):PDgs X W m es dgs->PDg X W m (.Tuple es k pos) (Bw n dgs)
 | ⟨_,h,s⟩=>⟨_,ya hc h hn hst,fun b F σ H ρ τ θ v x Qd Q hK nr R ⟨xs,e,hl,h⟩ q=>by
  obtain⟨a,vs,rfl,hs,el,w⟩:=Wd.unpT R.wd e
  rw[hK]at hs
  exact⟨a,vs,rfl,hs,el.trans hl,s b F σ H ρ τ θ vs xs _ _ hK nr el (R.drop.spread el w) h q⟩⟩
theorem nj{k:Nat}{n:Nat}(hc:X.calm=true)(hn:(assignEach es X.env).length=n:=by rfl)(hst:(assignEach es X.env).findIdx? (·.1)=none:=by rfl):PDgs X W m es dgs->PDg X W m (.Tuple es k pos) (By n dgs)
 | ⟨_,h,s⟩=>⟨_,yM hc h hn hst,fun b F σ H ρ τ θ v x Qd Q hK nr R ⟨xs,e,hl,h⟩ q=>by
  obtain⟨a,vs,rfl,hs,el,w⟩:=Wd.unpL R.wd e
  rw[hK]at hs
  exact⟨a,vs,rfl,hs,el.trans hl,s b F σ H ρ τ θ vs xs _ _ hK nr el (R.drop.spread el w) h q⟩⟩
def En(a:DE)(g:DG):DS:=fun D ρ=>a ρ fun r ρ1=>∃x ρ2,own1 ρ1 r=some (x,ρ2)/\g x ρ2 D.nx
theorem vp{tg:Expr}(hs:swapsWithSole [tg] e pos.line X.env=pure false:=by rfl)(hw:swappedStores [tg] e X.env=pure none:=by rfl)(h0:(assignEach [tg] X.env).map (·.2)=[assign tg X.env]:=by rfl):PDe X e da->PDg X W m tg dg->PDs X W (.Assign [tg] e pos) (En da dg)
 | ⟨_,h1,s1⟩,⟨_,h2,s2⟩=>⟨_,qu h1 h2 hs hw h0,fun b F σ H ρ τ θ Dd D hK n R h E=>s1 b F σ H ρ τ θ _ _ hK R h fun v H1 r ρ1 R1 ⟨x,ρ2,e,h1⟩ =>
  s2 b F σ H1 ρ2 τ θ v x _ _ hK n (R1.own1 e) h1 fun σ' H' ρ' R' _ h'=>E.nx σ' H' ρ' R' h'⟩
abbrev DI:=DEnv->(List PyData->DEnv->Prop)->Prop
def kD(b:Bs)(J:It)(vs:List V)(rs:List OR)(ds:List PyData):Prop:=∀(F:List Fr) (σ:St) (H:Hp) (ρ:DEnv) (τ:List V) (θ:List OR),Rel b F σ H ρ (vs++τ) (rs++θ)->∀k,
 (k < ds.length->J.go k H/\∀x H2 d,J.yld k H x H2->ds[k]?=some d->Rel b F σ H2 ρ (x::(vs++τ)) (.val (.fz d)::(rs++θ)))/\(k=ds.length->J.stop k H)
def Bz(K:WF)(wi:TI)(di:DI):Prop:=∀(b:Bs) (F:List Fr) (σ:St) (H:Hp) (ρ:DEnv) (τ:List V) (θ:List OR) (Qd:List PyData->DEnv->Prop) (Q:It->Hp->Prop),b.K=K->Rel b F σ H ρ τ θ->di ρ Qd ->
 (∀J H' ds ρ' vs rs,vs.length=rs.length->NoRf Ff rs->Rel b F σ H' ρ' (vs++τ) (rs++θ)->kD b J vs rs ds->Qd ds ρ'->Q J H')->wi σ H Q
inductive PDi (X:Cx)(tg e:Expr)(di:DI):Prop | mk (te:TI) (h:PI X tg e te) (s:Bz X.K te di)
def bU(lo:Int)(n:Nat):List PyData:=(List.range n).map fun (i:Nat)=>PyData.int (lo + (i:Int))
theorem dr(lo:Int)(n:Nat):(bU lo n).length=n:=by simp[bU]
theorem rP{lo:Int}{n k:Nat}{d:PyData}(h:(bU lo n)[k]?=some d):k < n/\d=.int (lo + k):=by
 unfold bU at h
 rw[aau]at h
 obtain⟨j,h1,rfl⟩:=aaH.mp h
 obtain⟨h2,h3⟩:=aas.mp h1
 simp at h2 h3
 subst h3
 exact⟨h2,rfl⟩
theorem rQ(b:Bs)(lo:Int)(n:Nat):kD b (Dc lo n) [] [] (bU lo n):=fun F σ H ρ τ θ R k=>by
 rw[dr]
 refine⟨fun h=>⟨h,fun x H2 d ⟨e1,e2⟩ hd=>?_⟩,fun e=>by subst e;exact aaf _⟩
 subst e1 e2
 rw[(rP hd).2]
 exact Rel.sc R (.int _)
def BA(t:DA):DI:=fun ρ Q=>t ρ fun rs ρ1=>∃j,cA ρ1 rs=some [.int j]/\-(2 ^ 62)≤j/\j < 2 ^ 62/\Q (bU 0 j.toNat) ρ1
theorem lX {tg:Expr} (hg:Gl X "range") (hm:X.mg "range"=none) (hs:starEach [a] X.env=[(false,eval a X.env)]:=by rfl):PDa X [a] dt->PDi X tg (.Call (.Name "range" p) [a] [] pos) (BA dt)
 | ⟨_,h,s⟩=>⟨_,oV hg hm h hs,fun b F σ H ρ τ θ Qd Q hK R h q=>s b F σ H ρ τ θ _ _ hK R h fun vs H1 rs ρ1 el R1 ⟨j,e,j0,j1,h1⟩=>by
  have hd:=R1.dtL el e
  cases hd with
  | cons r t=>cases t;cases r;exact⟨j,rfl,j0,j1,q _ H1 _ ρ1 [] [] rfl (fun r hr=>by cases hr) (R1.drops el) (rQ b 0 _) h1⟩⟩
theorem Rel.itemAt{b:Bs}{F:List Fr}{σ:St}{H:Hp}{ρ:DEnv}{τ:List V}{θ:List OR}{v:V}{x:OD}{ds:List PyData}{d:PyData}{k:Nat}(R:Rel b F σ H ρ τ θ)(m:(v,x)∈stk τ θ++(flat σ ρ++ff F))(e:seqOf x=some ds)(hd:ds[k]?=some d) :
  ∃a vs u,v=.ref a/\(SqL b.K H a vs\/SqT b.K H a vs)/\vs.length=ds.length/\vs[k]?=some u/\Rel b F σ H ρ (u::τ) (.val (.fz d)::θ):=by
 obtain⟨a,vs,rfl,el,hs,w⟩:=R.wd.sqItems m e
 have hk:k < vs.length:=by rw[el];exact (aas.mp hd).1
 refine⟨a,vs,vs[k],rfl,hs,el,aar hk,R.push (w.pick (cg (aar hk) ?_))⟩
 rw[aau,hd];rfl
theorem cB{v:V}{x:OD}{τ:List V}{θ:List OR}{L:List (V × OD)}:(v,x)∈stk ([v]++τ) ([OR.val x]++θ)++L:=by simp[stk]
theorem pR(b:Bs)(a:Addr)(ds:List PyData):kD b (Da b.K a) [.ref a] [.val (.fz (.list ds))] ds:=fun F σ H ρ τ θ R k=>by
 obtain⟨a',us,e,el,hs,_⟩:=R.wd.lsItems cB (rfl:listOf (.fz (.list ds))=some ds)
 cases e
 refine⟨fun h=>⟨⟨us,us[k]'(by omega),hs,aar _⟩,fun x H2 d ⟨e1,e2⟩ hd=>?_⟩,fun e=>⟨us,hs,by omega⟩⟩
 subst e1
 obtain⟨a'',vs,u,ea,hs2,_,hu,R2⟩:=R.itemAt cB (rfl:seqOf (.fz (.list ds))=some ds) hd
 cases ea
 obtain⟨_,us',e',el',hs',w'⟩:=R.wd.lsItems cB (rfl:listOf (.fz (.list ds))=some ds)
 cases e'
 have hk:k < us'.length:=by rw[el'];exact (aas.mp hd).1
 have hx:=e2 us' hs'
 refine Rel.push R (w'.pick (cg hx ?_))
 rw[aau,hd];rfl
theorem rR(b:Bs)(a:Addr)(ds:List PyData):kD b (DP b.K a) [.ref a] [.val (.fz (.tuple ds))] ds:=fun F σ H ρ τ θ R k=>by
 obtain⟨a',us,e,el,hs,w⟩:=R.wd.tpItems cB (rfl:gb (.fz (.tuple ds))=some ds)
 cases e
 refine⟨fun h=>⟨⟨us,us[k]'(by omega),hs,aar _⟩,fun x H2 d ⟨e1,e2⟩ hd=>?_⟩,fun e=>⟨us,hs,by omega⟩⟩
 subst e1
 refine Rel.push R (w.pick (cg (e2 us hs) ?_))
 rw[aau,hd];rfl
def Ep(a:DE):DI:=fun ρ Q=>a ρ fun r ρ1=>∃ds ρ2,frz1 ρ1 r=some (.list ds,ρ2)/\Q ds ρ2
theorem rS{tg:Expr}:PDe X e da->PDi X tg e (Ep da)
 | ⟨_,h,s⟩=>⟨_,mS h,fun b F σ H ρ τ θ Qd Q hK R h q=>s b F σ H ρ τ θ _ _ hK R h fun v H1 r ρ1 R1 ⟨ds,ρ2,e,h1⟩=>by
  have R2:=R1.frz1 e
  obtain⟨a,us,rfl,el,hs,_⟩:=R2.wd.lsItems (R2.mem rfl) (rfl:listOf (.fz (.list ds))=some ds)
  rw[hK]at hs
  exact⟨a,rfl,⟨us,hs⟩,hK ▸ q _ H1 ds ρ2 [.ref a] [.val (.fz (.list ds))] rfl (fun r hr=>.inl ⟨_,aat.mp hr⟩) R2 (pR b a ds) h1⟩⟩
def Er(a:DE):DI:=fun ρ Q=>a ρ fun r ρ1=>∃ds ρ2,frz1 ρ1 r=some (.tuple ds,ρ2)/\Q ds ρ2
theorem vq{tg:Expr}:PDe X e da->PDi X tg e (Er da)
 | ⟨_,h,s⟩=>⟨_,yh h,fun b F σ H ρ τ θ Qd Q hK R h q=>s b F σ H ρ τ θ _ _ hK R h fun v H1 r ρ1 R1 ⟨ds,ρ2,e,h1⟩=>by
  have R2:=R1.frz1 e
  obtain⟨a,us,rfl,el,hs,_⟩:=R2.wd.tpItems (R2.mem rfl) (rfl:gb (.fz (.tuple ds))=some ds)
  rw[hK]at hs
  exact⟨a,rfl,⟨us,hs⟩,hK ▸ q _ H1 ds ρ2 [.ref a] [.val (.fz (.tuple ds))] rfl (fun r hr=>.inl ⟨_,aat.mp hr⟩) R2 (rR b a ds) h1⟩⟩
end
end
section
section
variable{X:Cx}{K:WF}{a b c e:Expr}{es:List Expr}{sts:List Stmt}{st:Stmt}{da db dc:DE}{dt:DA}{d1 d2:DS}{dT:DT}{pos p:Pos}{x:Str}
def cC(ds:List PyData):List PyData:=(List.range ds.length).map fun (i:Nat)=>PyData.tuple [.int (i:Int),ds.getD i .none]
theorem cD(ds:List PyData):(cC ds).length=ds.length:=by simp[cC]
theorem iT{k:Nat}(h:(cC ds)[k]?=some d):∃e,ds[k]?=some e/\d=.tuple [.int k,e]:=by
 unfold cC at h
 rw[aau]at h
 obtain⟨j,h1,rfl⟩:=aaH.mp h
 obtain⟨h2,h3⟩:=aas.mp h1
 simp at h2 h3
 subst h3
 exact⟨ds[k],aar h2,by rw[ace,aar h2];rfl⟩
theorem Rel.newTup2{b:Bs}{d e:PyData}{p:Addr}(R:Rel b F σ H ρ τ θ)(w:Wd b H (Z++(stk τ θ++(flat σ ρ++ff F))))(m1:(v,OD.fz d)∈Z)(m2:(u,OD.fz e)∈Z)(hp:H p=none) :
  Rel b F σ (upd H p (.tup [v,u])) ρ (.ref p::τ) (.val (.fz (.tuple [d,e]))::θ):=R.newTup w rfl (fun z hz=>by
   simp at hz
   rcases hz with rfl | rfl
   ·exact aad _ m1
   ·exact aad _ m2) hp
theorem pS(b:Bs)(a:Addr)(ds:List PyData):kD b (D8 b.K a) [.ref a] [.val (.fz (.list ds))] (cC ds):=fun F σ H ρ τ θ R k=>by
 obtain⟨a',us,e,el,hs,w⟩:=R.wd.lsItems cB (rfl:listOf (.fz (.list ds))=some ds)
 cases e
 rw[cD]
 refine⟨fun h=>⟨⟨us,us[k]'(by omega),hs,aar _⟩,fun x H2 d ⟨T,y,e1,hT,e2,e3⟩ hd=>?_⟩,fun e=>⟨us,hs,by omega⟩⟩
 subst e2 e3
 obtain⟨d',hd',rfl⟩:=iT hd
 refine Rel.newTup2 (Z:=(V.int k,OD.fz (.int k))::us.zip (ds.map OD.fz)) R (w.sc (.int _)) aaj (aag _ (cg (e1 us hs) ?_)) hT
 rw[aau,hd'];rfl
def BB(t:DA):DI:=fun ρ Q=>t ρ fun rs ρ1=>∃ds ρ2,frzL ρ1 rs=some ([.list ds],ρ2)/\Q (cC ds) ρ2
theorem rT {x1} {tpos:Pos} (hg:Gl X "enumerate") (hm:X.mg "enumerate"=none) (hs:starEach [a] X.env=[(false,eval a X.env)]:=by rfl):PDa X [a] dt->PDi X (.Tuple es x1 tpos) (.Call (.Name "enumerate" p) [a] [] pos) (BB dt)
 | ⟨_,h,s⟩=>⟨_,uT hg hm h hs,fun b F σ H ρ τ θ Qd Q hK R h q=>s b F σ H ρ τ θ _ _ hK R h fun vs H1 rs ρ1 el R1 ⟨ds,ρ2,e,h1⟩=>by
  obtain⟨R2,e2⟩:=jr R1 el e
  match vs,e2 with
  | [v],_ =>
   have R3:Rel b F σ H1 ρ2 (v::τ) (.val (.fz (.list ds))::θ):=R2
   obtain⟨a,us,rfl,el,hs,_⟩:=R3.wd.lsItems (R3.mem rfl) (rfl:listOf (.fz (.list ds))=some ds)
   rw[hK]at hs
   exact⟨a,us,rfl,hs,hK ▸ q _ H1 _ ρ2 [.ref a] [.val (.fz (.list ds))] rfl (fun r hr=>.inl ⟨_,aat.mp hr⟩) R3 (pS b a ds) h1⟩⟩
def eh(ds es:List PyData):List PyData:=List.zipWith (fun d e=>PyData.tuple [d,e]) ds es
theorem rV{ds es:List PyData}{k:Nat}(h:(eh ds es)[k]?=some d):∃x y,ds[k]?=some x/\es[k]?=some y/\d=.tuple [x,y]:=by
 unfold eh at h
 rw[List.getElem?_zipWith]at h
 cases h1:ds[k]? with
 | none=>rw[h1]at h;simp at h
 | some x =>
  cases h2:es[k]? with
  | none=>rw[h1,h2]at h;simp at h
  | some y=>rw[h1,h2]at h;exact⟨x,y,rfl,rfl,(aaA h).symm⟩
def BC:PyData->Option (Bool × List PyData)
 | .list ds=>some (true,ds)
 | .tuple ds=>some (false,ds)
 | _=>none
def lY(l:Bool)(a:Addr)(xs:List V):ZS:=if l then .lst a xs else .tup a xs
theorem dP{a:Addr}(h:if l then SqL K H a xs else SqT K H a xs):(lY l a xs).ok K H:=by cases l<;>exact h
theorem kE(l:Bool)(a:Addr)(xs:List V):(lY l a xs).val=.ref a:=by cases l<;>rfl
theorem bV(l:Bool)(a:Addr)(xs:List V):(lY l a xs).items=xs:=by cases l<;>rfl
theorem rW(h:BC d=some (l,ds)):d=if l then .list ds else .tuple ds:=by
 cases d<;>simp only[BC]at h<;>cases h<;>rfl
theorem rX(b:Bs)(a c:Addr)(l k':Bool)(xs ys:List V)(ds es:List PyData):kD b (D5 b.K (lY l a xs) (lY k' c ys)) [.ref a,.ref c] [.val (.pin l xs ds),.val (.pin k' ys es)] (eh ds es):=fun F σ H ρ τ θ R k=>by
 obtain⟨a',e,el,hs,w⟩:=R.wd.pinned (v:=.ref a) (l:=l) (xs:=xs) (ds:=ds) (by simp[stk])
 cases e
 obtain⟨c',e,el',hs',w'⟩:=w.pinned (v:=.ref c) (l:=k') (xs:=ys) (ds:=es) (by simp[stk])
 cases e
 have ez:(eh ds es).length=min ds.length es.length:=by simp[eh]
 rw[ez]
 refine⟨fun h=>⟨⟨dP hs,dP hs',by rw[bV];omega,by rw[bV];omega⟩,fun x H2 d ⟨T,y,z,e1,e2,hT,e3,e4⟩ hd=>?_⟩,fun e=>⟨dP hs,dP hs',by rw[bV,bV];omega⟩⟩
 subst e3 e4
 rw[bV]at e1 e2
 obtain⟨d1,d2,h1,h2,rfl⟩:=rV hd
 rw[<- aah]at w'
 refine Rel.newTup2 R w' (aab _ (cg e1 ?_)) (aad _ (cg e2 ?_)) hT
 ·rw[aau,h1];rfl
 ·rw[aau,h2];rfl
def Et(t:DA):DI:=fun ρ Q=>t ρ fun rs ρ1=>∃x y l k ds es ρ2,frzL ρ1 rs=some ([x,y],ρ2)/\BC x=some (l,ds)/\BC y=some (k,es)/\Q (eh ds es) ρ2
theorem vw {x1} {tpos:Pos} (hg:Gl X "zip") (hm:X.mg "zip"=none) (hs:starEach [a,b] X.env=[(false,eval a X.env),(false,eval b X.env)]:=by rfl) (hs2:starEach [b] X.env=[(false,eval b X.env)]:=by rfl):PDa X [a,b] dt->PDi X (.Tuple es x1 tpos) (.Call (.Name "zip" p) [a,b] [] pos) (Et dt)
 | ⟨_,h,s⟩=>⟨_,yE hg hm h hs hs2,fun b F σ H ρ τ θ Qd Q hK R h q=>s b F σ H ρ τ θ _ _ hK R h fun vs H1 rs ρ1 el R1 ⟨x,y,l,k,ds,es,ρ2,e,ex,ey,h1⟩=>by
  obtain⟨R2,e2⟩:=jr R1 el e
  obtain⟨v,u,rfl⟩:=len2 e2
  have w:Wd b H1 ((v,.fz x)::(u,.fz y)::(stk τ θ++(flat σ ρ2++ff F))):=R2.wd
  have R3:Rel b F σ H1 ρ2 τ θ:=Rel.drops R2 rfl
  obtain⟨xs,w1⟩:=w.pin (rW ex)
  obtain⟨ys,w2⟩:=(w1.perm (List.Perm.swap _ _ _)).pin (rW ey)
  have w3:=w2.perm (List.Perm.swap _ _ _)
  obtain⟨a,rfl,_,hs,_⟩:=w3.pinned (v:=v) (l:=l) (xs:=xs) (ds:=ds) (by simp)
  obtain⟨c,rfl,_,hs',_⟩:=w3.pinned (v:=u) (l:=k) (xs:=ys) (ds:=es) (by simp)
  rw[hK]at hs hs'
  refine⟨lY l a xs,lY k c ys,by rw[kE,kE],dP hs,dP hs',hK ▸ q _ H1 _ ρ2 [.ref a,.ref c] [.val (.pin l xs ds),.val (.pin k ys es)] rfl (fun r hr=>by simp at hr;rcases hr with rfl | rfl<;>exact .inl ⟨_,rfl⟩) ?_ (rX b a c l k xs ys ds es) h1⟩
  exact⟨R3.wf,R3.al,R3.wff,w3⟩⟩
end
end
section
def cK:DEnv->List Nat->Option (DEnv × DEnv)
 | ρ,[]=>some ([],ρ)
 | ρ,j::js=>match ρ[j]?.join with
  | some (.fz d)=>match cK ρ js with | some z=>some (some (.fz d)::z.1,z.2) | none=>none
  | some x=>match cK (ρ.set j none) js with | some z=>some (some x::z.1,z.2) | none=>none
  | none=>none
def gU:DEnv->List Nat->DEnv->DEnv
 | ρ,j::js,some x::os=>gU (ρ.set j (some x)) js os
 | ρ,_::js,none::os=>gU ρ js os
 | ρ,_,_=>ρ
def capV(σ:St)(js:List Nat):St:=js.map fun j=>(σ[j]?).join
section
variable{b:Bs}{F:List Fr}{σ σ':St}{H H':Hp}{τ vs:List V}{θ rs:List OR}{v u:V}{x y:OD}{d:PyData}{ds:List PyData}{i:Nat}{L:List (V × OD)}
theorem vy(h:o=some (some v)):o.join=some v:=by rw[h];rfl
theorem nk:∀{js:List Nat} {ρ inner ρ2:DEnv} {L1 L2:List (V × OD)},Wd b H (L1++(flat σ ρ++L2))->Wf σ ρ->cK ρ js=some (inner,ρ2)->Wd b H (flat (capV σ js) inner++(L1++(flat σ ρ2++L2)))/\Wf σ ρ2/\Wf (capV σ js) inner
 | [],ρ,inner,ρ2,L1,L2,w,wf,e=>by simp only[cK]at e;cases e;exact⟨w,wf,trivial⟩
 | j::js,ρ,inner,ρ2,L1,L2,w,wf,e=>by
  cases h:ρ[j]?.join with
  | none=>simp[cK,h]at e
  | some x =>
   have ex:=join_some h
   obtain⟨v,ev⟩:=wf.get ex
   have w1:Wd b H ((v,x)::(L1++(flat σ (ρ.set j none)++L2))):=w.perm ((((bh ex ev).append_right _).append_left _).trans aav)
   have fin:∀{y:OD} {ρ1:DEnv} {z:DEnv × DEnv},Wd b H ((v,y)::(L1++(flat σ ρ1++L2)))->Wf σ ρ1->cK ρ1 js=some z->(some y::z.1,z.2)=(inner,ρ2)->Wd b H (flat (capV σ (j::js)) inner++(L1++(flat σ ρ2++L2)))/\Wf σ ρ2/\Wf (capV σ (j::js)) inner:=fun {y ρ1 z} w2 wf1 ez e2=>by
    cases e2
    obtain⟨w3,wf2,wf3⟩:=nk (L1:=(v,y)::L1) w2 wf1 (show cK ρ1 js=some (z.1,z.2) from ez)
    have ec:capV σ (j::js)=some v::capV σ js:=by unfold capV;rw[aal,vy ev]
    rw[ec]
    exact⟨w3.perm aav,wf2,wf3⟩
   have mv:∀{z:DEnv × DEnv},cK (ρ.set j none) js=some z->(some x::z.1,z.2)=(inner,ρ2)->Wd b H (flat (capV σ (j::js)) inner++(L1++(flat σ ρ2++L2)))/\Wf σ ρ2/\Wf (capV σ (j::js)) inner:=fun {z} ez e2=>fin w1 wf.off ez e2
   have inv:∀{ρ1:DEnv} {y:OD},(match cK ρ1 js with | some z=>some (some y::z.1,z.2) | none=>none)=some (inner,ρ2)->∃z,cK ρ1 js=some z/\(some y::z.1,z.2)=(inner,ρ2):=fun {ρ1 y} q=>by
    cases hz:cK ρ1 js with
    | none=>rw[hz]at q;cases q
    | some z=>rw[hz]at q;exact⟨z,rfl,aaA q⟩
   cases x with
   | fz d =>
    simp only[cK,h]at e
    obtain⟨z,ez,e2⟩:=inv e
    have w2:=w1.dup
    have hj:j < ρ.length:=(aas.mp ex).1
    have es:σ.set j (some v)=σ:=set_self ev
    have pp:=cz (v:=v) (x:=.fz d) hj wf.len
    rw[es,set_self ex]at pp
    exact fin (w2.perm (List.Perm.cons _ (aav.symm.trans ((pp.symm.append_right _).append_left _)))) wf ez e2
   | _ =>
    simp only[cK,h]at e
    obtain⟨z,ez,e2⟩:=inv e
    exact mv ez e2
theorem jv:∀{js:List Nat} {ρ os:DEnv} {L1 L2:List (V × OD)},Wd b H (L1++(flat (capV σ js) os++(flat σ ρ++L2)))->Wf σ ρ->Wf (capV σ js) os->Wd b H (L1++(flat σ (gU ρ js os)++L2))/\Wf σ (gU ρ js os)
 | [],ρ,os,L1,L2,w,wf,wf2=>by
  cases os with
  | nil=>exact⟨w,wf⟩
  | cons _ _=>simp[capV,Wf]at wf2
 | j::js,ρ,[],L1,L2,w,wf,wf2=>by simp[capV,Wf]at wf2
 | j::js,ρ,o::os,L1,L2,w,wf,wf2=>by
  have ec:capV σ (j::js)=(σ[j]?).join::capV σ js:=rfl
  rw[ec]at w wf2
  cases o with
  | none =>
   rw[a9]at w
   exact jv (js:=js) w wf (by cases h:(σ[j]?).join<;>(rw[h]at wf2;exact wf2))
  | some x =>
   cases h:(σ[j]?).join with
   | none=>rw[h]at wf2;simp[Wf]at wf2
   | some v =>
    rw[h]at w wf2
    have w1:Wd b H ((v,x)::(L1++(flat (capV σ js) os++(flat σ ρ++L2)))):=w.perm (aav )
    ·have ev:=join_some h
     have hj:j < ρ.length:=by rw[<- wf.len];exact (aas.mp ev).1
     have es:σ.set j (some v)=σ:=set_self ev
     have pp:=cz (v:=v) (x:=x) hj wf.len
     rw[es]at pp
     have wf3:Wf σ (ρ.set j (some x)):=by have:=wf.put (i:=j) (v:=v) (x:=x);rw[es]at this;exact this
     refine jv (ρ:=ρ.set j (some x)) ?_ wf3 wf2
     have w2:Wd b H (((v,x)::L1++flat (capV σ js) os)++(flat σ (ρ.set j none)++L2)):=Wd.offSlot (by simpa using w1) wf j
     refine w2.perm ?_
     rw[<- aah L1]
     refine List.Perm.trans ?_ ((pp.symm.append_right _).append_left _)
     simp only[aaI]
     exact aav.symm
theorem Wf.drop:∀{n:Nat} {σ:St} {ρ:DEnv},Wf σ ρ->Wf (σ.drop n) (ρ.drop n)
 | 0,_,_,h=>h
 | _ + 1,[],[],_=>trivial
 | _ + 1,[],_::_,h=>by simp[Wf]at h
 | _ + 1,_::_,[],h=>by simp[Wf]at h
 | n + 1,o::σ,none::ρ,h=>Wf.drop (n:=n) h
 | n + 1,some _::σ,some _::ρ,h=>Wf.drop (ρ:=ρ) h
 | _ + 1,none::_,some _::_,h=>by simp[Wf]at h
theorem fM:∀{n:Nat} {σ:St} {ρ:DEnv},Wf σ ρ->∃L,flat σ ρ=L++flat (σ.drop n) (ρ.drop n)
 | 0,σ,ρ,_=>⟨[],rfl⟩
 | _ + 1,[],[],_=>⟨[],rfl⟩
 | _ + 1,[],_::_,h=>by simp[Wf]at h
 | _ + 1,_::_,[],h=>by simp[Wf]at h
 | n + 1,o::σ,none::ρ,h=>by
  obtain⟨L,e⟩:=fM (ρ:=ρ) h
  exact⟨L,by rw[a9];exact e⟩
 | n + 1,some v::σ,some x::ρ,h=>by
  obtain⟨L,e⟩:=fM (ρ:=ρ) h
  exact⟨(v,x)::L,by simp only[flat,aaI,List.drop_succ_cons];rw[e]⟩
 | _ + 1,none::_,some _::_,h=>by simp[Wf]at h
theorem rY:flat (List.replicate n none++σ) (List.replicate n none++ρ)=flat σ ρ:=by
 induction n with
 | zero=>rfl
 | succ n ih=>rw[aa9,aa9,aaI,aaI,a9,ih]
theorem ze(h:Wf σ ρ):Wf (List.replicate n none++σ) (List.replicate n none++ρ):=by
 induction n with
 | zero=>exact h
 | succ n ih=>rw[aa9,aa9];exact ih
theorem Rel.grow(R:Rel b F σ H ρ (v::(vs++[.ref D])) (.val (.fz d)::(rs++[.val (.lst (out.map OD.fz))])))(el:vs.length=rs.length) :
  ∃ys,H D=some (.lst ys)/\ys.length=out.length/\Rel b F σ (upd H D (.lst (ys++[v]))) ρ (vs++[.ref D]) (rs++[.val (.lst ((out++[d]).map OD.fz))]):=by
 have R1:=R.drop
 have e1:stk (vs++[.ref D]) (rs++[.val (.lst (out.map OD.fz))])=stk vs rs++[(.ref D,.lst (out.map OD.fz))]:=by rw[aC el];rfl
 have w:Wd b H ((v,.fz d)::((stk vs rs++[(.ref D,.lst (out.map OD.fz))])++(flat σ ρ++ff F))):=by
  have:=R.wd
  simp only[stk]at this
  rw[e1]at this
  exact this
 have w2:Wd b H ([v].zip [OD.fz d]++((.ref D,.lst (out.map OD.fz))::(stk vs rs++(flat σ ρ++ff F)))):=w.perm (by
  refine List.Perm.cons _ ?_
  rw[aah]
  exact aav)
 obtain⟨a,ys,ch,hD,hl,go⟩:=w2.mutL (ks:=[]) rfl rfl
 cases ch
 refine⟨ys,hD,by simpa using hl,R1.wf,?_,R1.wff,?_⟩
 ·obtain⟨a1,_⟩:=(aM el).mp R1.al
  exact (aM el).mpr ⟨a1,trivial⟩
 ·have w3:=go (ys++[v]) ((out++[d]).map OD.fz) fun S H A C nt h1 h2 nd=>⟨A++C,by rw[aax];exact Ows.append h1 h2,nd,fun c hc=>aai.mp hc⟩
  have e2:stk (vs++[.ref D]) (rs++[.val (.lst ((out++[d]).map OD.fz))])=stk vs rs++[(.ref D,.lst ((out++[d]).map OD.fz))]:=by rw[aC el];rfl
  rw[e2]
  refine w3.perm ?_
  rw[aah]
  exact aav.symm
end
theorem zf{α:Type}(A B C T F:List α):(A++(B++(C++(T++F)))).Perm (B++(A++((T++C)++F))):=by
 refine (abP A B _).trans (aa2 _ (aa2 _ ?_))
 rw[<- aah]
 exact aaT.append_right _
abbrev DC:=DEnv->(List PyData->DEnv->Prop)->Prop
def pT(K:WF)(tc:TC)(dc:DC):Prop:=∀(b:Bs) (F:List Fr) (σ:St) (H:Hp) (ρ:DEnv) (vs:List V) (rs:List OR) (D:Addr) (out:List PyData) (Qd:List PyData->DEnv->Prop) (Q:Hp->Prop),b.K=K->vs.length=rs.length->out.length < 1000000->Rel b F σ H ρ (vs++[.ref D]) (rs++[.val (.lst (out.map OD.fz))])->dc ρ Qd ->
 (∀H' ρ' o,Rel b F σ H' ρ' (vs++[.ref D]) (rs++[.val (.lst ((out++o).map OD.fz))])->o.length≤1->Qd o ρ'->Q H')->tc D σ H Q
inductive PDc (Y:Cx)(ifs:List Expr)(elt:Expr)(dc:DC):Prop | mk (tc:TC) (h:∀D,km Y D ifs elt tc) (s:pT Y.K tc dc)
section
variable{X Y:Cx}{K:WF}{a b c e elt iter tg:Expr}{es ifs:List Expr}{da db:DE}{dT:DT}{pos p:Pos}{x:Str}
def rZ(a:DE):DC:=fun ρ Q=>a ρ fun r ρ1=>∃d ρ2,frz1 ρ1 r=some (d,ρ2)/\Q [d] ρ2
theorem kF(s:cm K ta da):pT K (m3 ta) (rZ da):=fun b F σ H ρ vs rs D out Qd Q hK el hz R h q=>s b F σ H ρ _ _ _ _ hK R h fun v H1 r ρ1 R1 ⟨d,ρ2,e,h1⟩=>by
 obtain⟨ys,hD,hl,R3⟩:=(R1.frz1 e).grow el
 exact⟨ys,hD,aay (by omega) (by decide:1000001≤sizeLine),q _ _ _ R3 (aaf _) h1⟩
theorem pU:PDe Y elt da->PDc Y [] elt (rZ da)
 | ⟨_,h,s⟩=>⟨_,fun D=>pw h,kF s⟩
def vz(t:DT)(a:DE):DC:=fun ρ Q=>t ρ fun k ρ1=>if k=true then rZ a ρ1 Q else Q [] ρ1
theorem r9:PDt Y c dT->PDe Y elt da->PDc Y [c] elt (vz dT da)
 | ⟨_,h1,s1⟩,⟨_,h2,s2⟩=>⟨_,fun D=>qS h1 h2,fun b F σ H ρ vs rs D out Qd Q hK el hz R h q=>s1 b F σ H ρ _ _ _ _ hK R h fun k H1 ρ1 R1 h1=>by
  cases k with
  | true=>rw[if_pos rfl]at h1 ⊢;exact kF s2 b F σ H1 ρ1 vs rs D out _ _ hK el hz R1 h1 q
  | false=>rw[if_neg aae]at h1 ⊢;exact q H1 ρ1 [] (by rw[aaq];exact R1) (aaM _) h1⟩
def nq(di:DI)(nt:Nat)(fr:List Nat)(g:DG)(act:DC):DE:=fun ρ Q=>di ρ fun ds ρ1=>ds.length < 1000000/\∃inner ρ2,cK ρ1 fr=some (inner,ρ2)/\∃Iv:Nat->List PyData->DEnv->Prop,Iv 0 [] (List.replicate nt none++inner) /\
 (∀k d out ρ,ds[k]?=some d->Iv k out ρ->g (.fz d) ρ fun ρ'=>act ρ' fun o ρ''=>Iv (k + 1) (out++o) ρ'')/\∀out ρ,Iv ds.length out ρ->Q (.val (.lst (out.map OD.fz))) (gU ρ2 fr (ρ.drop nt))
theorem zg{α:Type}(x:α)(S L P T C F:List α):(x::(S++((L++P)++((T++C)++F)))).Perm (L++((x::(S++T))++(P++(C++F)))):=by
 have e:x::(S++((L++P)++((T++C)++F)))=x::(S++(L++(P++(T++(C++F))))):=by simp only[aah]
 rw[e]
 refine List.Perm.trans ?_ aav.symm
 refine List.Perm.cons _ ((abP S L _).trans (aa2 _ ?_))
 show (S++(P++(T++(C++F)))).Perm ((S++T)++(P++(C++F)))
 rw[aah]
 exact aa2 _ (abP P T _)
theorem iU(s2:∀c,rO K Ff nt (g c) dg)(s3:∀c,pT K (tc c) dc){b:Bs}{Iv:Nat->List PyData->DEnv->Prop}(hK:b.K=K)(el:vs.length=rs.length)(nr:NoRf Ff rs)
  (R1:Rel b F σ H1 ρ1 (vs++τ) (rs++θ)) (it:kD b J vs rs ds) (hds:ds.length < 1000000) (hc:cK ρ1 fr=some (inner,ρ2)) (i0:Iv 0 [] (List.replicate nt none++inner)) (step:∀k d out ρ,ds[k]?=some d->Iv k out ρ->dg (.fz d) ρ fun ρ'=>dc ρ' fun o ρ''=>Iv (k + 1) (out++o) ρ'')
  (q:∀H' D out ρ',Rel b F σ H' (gU ρ2 fr (ρ'.drop nt)) (.ref D::(vs++τ)) (.val (.lst (out.map OD.fz))::(rs++θ))->Iv ds.length out ρ'->Q (.ref D) H'):kl (fun _ _ k=>k J H1) nt fr g tc σ H1 Q:=by
 show ∀cc D,H1 D=none->_
 intro cc D hD
 have w1:Wd b H1 (stk vs rs++(flat σ ρ1++(stk τ θ++ff F))):=R1.wd.perm (by
  rw[aC el,aah]
  refine aa2 _ ?_
  rw[<- aah,<- aah]
  exact aaT.append_right _)
 obtain⟨w2,wf2,wf3⟩:=nk w1 R1.wf hc
 have al:=(aM el).mp R1.al
 have w3:=Wd.newLst (vs:=[]) (xs:=[]) w2 rfl hD
 have R2:Rel b (⟨σ,ρ2,τ,θ⟩::F) (bt nt fr σ) (upd H1 D (.lst [])) (List.replicate nt none++inner) (vs++[.ref D]) (rs++[.val (.lst [])]):=by
  refine⟨ze wf3,(aM el).mpr ⟨nr.al0 al.1,trivial⟩,fun f hf=>?_,?_⟩
  ·rcases aac.mp hf with rfl | hf
   ·exact⟨wf2,al.2⟩
   ·exact R1.wff f hf
  ·have ec:flat (bt nt fr σ) (List.replicate nt none++inner)=flat (capV σ fr) inner:=rY
   rw[ec,aC el]
   refine w3.perm ?_
   have ef:ff (⟨σ,ρ2,τ,θ⟩::F)=(stk τ θ++flat σ ρ2)++ff F:=rfl
   rw[ef]
   have e0:stk [V.ref D] [OR.val (.lst [])]=[(V.ref D,OD.lst [])]:=rfl
   rw[e0]
   refine List.Perm.trans (List.Perm.cons _ (zf (flat (capV σ fr) inner) (stk vs rs) (flat σ ρ2) (stk τ θ) (ff F))) ?_
   rw[aah (stk vs rs)]
   exact aav.symm
 refine⟨fun i m σ' H'=>m=ds.length - i/\i≤ds.length/\(∀j,nt≤j->σ'[j]?=(bt nt fr σ)[j]?)/\∃out ρ',out.length≤i/\Rel b (⟨σ,ρ2,τ,θ⟩::F) σ' H' ρ' (vs++[.ref D]) (rs++[.val (.lst (out.map OD.fz))])/\Iv i out ρ',⟨_,rfl,aaM _,fun _ _=>rfl,[],_,aaf _,R2,i0⟩,?_⟩
 rintro i m σ' H' ⟨rfl,hi,hσ,out,ρ',ho,R',iv⟩
 obtain⟨go,stop⟩:=it _ σ' H' ρ' [.ref D] [.val (.lst (out.map OD.fz))] R' i
 by_cases hlt:i < ds.length
 ·obtain⟨g1,g2⟩:=go hlt
  refine .inr ⟨g1,fun x H2 hy=>?_⟩
  have ed:ds[i]?=some ds[i]:=aar hlt
  have nn:NoRf Ff (rs++[.val (.lst (out.map OD.fz))]):=NoRf.app nr fun r hr=>.inl ⟨_,aat.mp hr⟩
  refine s2 cc b _ σ' H2 ρ' _ _ x _ _ _ hK nn (g2 x H2 _ hy ed) (step i _ out ρ' ed iv) fun σ3 H3 ρ3 R3 k3 h3=>?_
  exact s3 cc b _ σ3 H3 ρ3 vs rs D out _ _ hK el (by omega) R3 h3 fun H4 ρ4 o R4 lo h4=>⟨_,by omega,rfl,hlt,fun j hj=>(k3 j hj).1.trans (hσ j hj),out++o,ρ4,by rw[aam];omega,R4,h4⟩
 ·have e:i=ds.length:=by omega
  subst e
  refine .inl ⟨stop rfl,q H' D out ρ' ?_ iv⟩
  have ed:σ'.drop nt=capV σ fr:=by
   apply List.ext_getElem?
   intro j
   rw[List.getElem?_drop,hσ _ (by omega)]
   unfold bt capV
   rw[abo (by simp),abq,ab9]
  have w4:Wd b H' ((.ref D,.lst (out.map OD.fz))::(stk vs rs++(flat σ' ρ'++((stk τ θ++flat σ ρ2)++ff F)))):=R'.wd.perm (by
   rw[aC el]
   have e0:stk [V.ref D] [OR.val (.lst (out.map OD.fz))]=[(V.ref D,OD.lst (out.map OD.fz))]:=rfl
   rw[e0,aah]
   exact aav)
  obtain⟨L0,eL⟩:=fM R'.wf
  rw[eL,ed]at w4
  have w5:Wd b H' (((.ref D,.lst (out.map OD.fz))::stk (vs++τ) (rs++θ))++(flat (capV σ fr) (ρ'.drop nt)++(flat σ ρ2++ff F))):=by
   refine Wd.drops (L1:=L0) (w4.perm ?_)
   rw[aC el]
   exact zg (.ref D,.lst (out.map OD.fz)) (stk vs rs) L0 (flat (capV σ fr) (ρ'.drop nt)) (stk τ θ) (flat σ ρ2) (ff F)
  have wfd:Wf (capV σ fr) (ρ'.drop nt):=ed ▸ R'.wf.drop
  obtain⟨w6,wf6⟩:=jv w5 wf2 wfd
  exact⟨wf6,R1.al,R1.wff,w6⟩
theorem kG(s1:Bz K wi di)(s2:∀c,rO K Ff nt (g c) dg)(s3:∀c,pT K (tc c) dc):cm K (kl wi nt fr g tc) (nq di nt fr dg dc):=by
 intro b F σ H ρ τ θ Qd Q hK R h q
 refine s1 b F σ H ρ τ θ _ _ hK R h fun J H1 ds ρ1 vs rs el nr R1 it hZ=>?_
 obtain⟨hds,inner,ρ2,hc,Iv,i0,step,fin⟩:=hZ
 exact iU s2 s3 hK el nr R1 it hds hc i0 step fun H' D out ρ' R' iv=>q _ H' _ _ (Rel.drops (Rel.tor R' el) el) (fin out ρ' iv)
end
end
section
section
variable{X:Cx}{K:WF}{a b c e elt iter tg:Expr}{es ifs:List Expr}{da db dc':DE}{dt:DA}{dT:DT}{pos p:Pos}{x:Str}{N:List Str}{nt:Nat}{fr:List Nat}{scope:Scope}{di:DI}{dg:DG}{dc:DC}
theorem PDg.ex{Y:CC->Cx}{m:Nat}{tg:Expr}(hK:∀c,(Y c).K=K)(h:∀c,PDg (Y c) Ff m tg dg):∃g:CC->TG,∀c,PG (Y c) tg (g c)/\rO K Ff m (g c) dg :=
 acf (r:=fun c g=>PG (Y c) tg g/\rO K Ff m g dg) fun c=>(by obtain⟨te,h1,s1⟩:=h c;exact⟨te,h1,hK c ▸ s1⟩)
theorem PDc.ex{Y:CC->Cx}(hK:∀c,(Y c).K=K)(h:∀c,PDc (Y c) ifs elt dc):∃g:CC->TC,∀c,(∀D,km (Y c) D ifs elt (g c))/\pT K (g c) dc :=
 acf (r:=fun c g=>(∀D,km (Y c) D ifs elt g)/\pT K g dc) fun c=>(by obtain⟨te,h1,s1⟩:=h c;exact⟨te,h1,hK c ▸ s1⟩)
theorem vA(hc:X.calm=true)(S:CompScope N nt fr X.N scope X.env.scope)(hs:∀x,foldedSetIterable iter X.env x=pure x:=by intro _;rfl)(hi:PDi X tg iter di)(hg:∀c:CC,PDg (eG X N scope c) Ff nt tg dg)(ha:∀c:CC,PDc (eG X N scope c) ifs elt dc) :
  PDe X (.ListComp elt [⟨tg,iter,ifs,0⟩] scope pos) (nq di nt fr dg dc):=by
 obtain⟨wi,h1,s1⟩:=hi
 obtain⟨g,hg'⟩:=PDg.ex (K:=X.K) (Y:=fun c=>eG X N scope c) (fun _=>rfl) hg
 obtain⟨tc,hc'⟩:=PDc.ex (K:=X.K) (Y:=fun c=>eG X N scope c) (fun _=>rfl) ha
 exact⟨_,m5 hc S h1 (fun c=>(hg' c).1) (fun c D=>(hc' c).1 D) hs,kG s1 (fun c=>(hg' c).2) fun c=>(hc' c).2⟩
end
def bc:List Bool->DEnv->List OR->Option (List OD × DEnv)
 | [],ρ,[]=>some ([],ρ)
 | true::ios,ρ,r::rs=>match mv1 ρ r with
  | some (x,ρ1)=>match bc ios ρ1 rs with | some (xs,ρ2)=>some (x::xs,ρ2) | none=>none
  | none=>none
 | false::ios,ρ,r::rs=>match frz1 ρ r with
  | some (d,ρ1)=>match bc ios ρ1 rs with | some (xs,ρ2)=>some (.fz d::xs,ρ2) | none=>none
  | none=>none
 | _,_,_=>none
def dv:List Bool->List OR->List OD->DEnv->DEnv
 | true::ios,.rf j::rs,y::ys,ρ=>dv ios rs ys (ρ.set j (some y))
 | _::ios,_::rs,_::ys,ρ=>dv ios rs ys ρ
 | _,_,_,ρ=>ρ
section
variable{b:Bs}{F:List Fr}{σ:St}{H H':Hp}{ρ ρ':DEnv}{τ vs:List V}{θ rs:List OR}{v u:V}{r:OR}{x y:OD}{d:PyData}{i j:Nat}
theorem argsR_ok:∀{ios:List Bool} {vs:List V} {rs:List OR} {ρ ρ':DEnv} {xs:List OD} {τ:List V} {θ:List OR},Rel b F σ H ρ (vs++τ) (rs++θ)->vs.length=rs.length->bc ios ρ rs=some (xs,ρ')->Rel b F σ H ρ' (vs++τ) (xs.map OR.val++θ)/\vs.length=xs.length
 | [],[],[],_,_,_,_,_,R,_,e=>by simp only[bc]at e;cases e;exact⟨R,rfl⟩
 | true::ios,v::vs,r::rs,ρ,ρ',ds,τ,θ,R,e,h=>by
  simp only[bc]at h
  split at h
  ·rename_i x ρ1 h1
   split at h
   ·rename_i xs ρ2 h2
    cases h
    have R1:Rel b F σ H ρ1 (v::(vs++τ)) (.val x::(rs++θ)):=Rel.mv1 R h1
    have e':vs.length=rs.length:=by simpa using e
    obtain⟨R2,e2⟩:=argsR_ok (Rel.tor (vs:=vs) (rs:=rs) R1 e') e' h2
    exact⟨Rel.rot R2 (by rw[e2,aaa]),by simp[e2]⟩
   ·cases h
  ·cases h
 | false::ios,v::vs,r::rs,ρ,ρ',ds,τ,θ,R,e,h=>by
  simp only[bc]at h
  split at h
  ·rename_i x ρ1 h1
   split at h
   ·rename_i xs ρ2 h2
    cases h
    have R1:Rel b F σ H ρ1 (v::(vs++τ)) (.val (.fz x)::(rs++θ)):=Rel.frz1 R h1
    have e':vs.length=rs.length:=by simpa using e
    obtain⟨R2,e2⟩:=argsR_ok (Rel.tor (vs:=vs) (rs:=rs) R1 e') e' h2
    exact⟨Rel.rot R2 (by rw[e2,aaa]),by simp[e2]⟩
   ·cases h
  ·cases h
 | _,[],_::_,_,_,_,_,_,_,e,_=>by simp at e
 | _,_::_,[],_,_,_,_,_,_,e,_=>by simp at e
 | [],_::_,_::_,_,_,_,_,_,_,_,h=>by simp[bc]at h
 | true::_,[],[],_,_,_,_,_,_,_,h=>by simp[bc]at h
 | false::_,[],[],_,_,_,_,_,_,_,h=>by simp[bc]at h
theorem Rel.give(R:Rel b F σ H ρ (v::τ) (.val y::θ))(ev:σ[j]?=some (some v)):Rel b F σ H (ρ.set j (some y)) τ θ :=
 Rel.back R.wf (Rel.drop R).al R.wff ev (Wd.offSlot (L1:=(v,y)::stk τ θ) R.wd R.wf j)
theorem bE:∀{ios:List Bool} {vs:List V} {rs:List OR} {ys:List OD} {ρ:DEnv},Al σ vs rs->vs.length=ys.length->Rel b F σ H ρ (vs++τ) (ys.map OR.val++θ)->Rel b F σ H (dv ios rs ys ρ) τ θ
 | ios,[],[],[],ρ,_,_,R=>by cases ios with | nil=>exact R | cons i ios=>cases i<;>exact R
 | [],v::vs,r::rs,y::ys,ρ,al,e,R=>by
  have al':Al σ vs rs:=by cases r with | val _=>exact al | rf _=>exact al.2
  have:=bE (ios:=[]) (vs:=vs) (rs:=rs) (ys:=ys) al' (by simpa using e) (Rel.drop R)
  cases vs<;>cases rs<;>cases ys<;>exact this
 | true::ios,v::vs,.rf j::rs,y::ys,ρ,al,e,R=>bE (ios:=ios) (vs:=vs) (rs:=rs) (ys:=ys) al.2 (by simpa using e) (Rel.give (τ:=vs++τ) (θ:=ys.map OR.val++θ) R al.1)
 | true::ios,v::vs,.val x::rs,y::ys,ρ,al,e,R=>bE (ios:=ios) (vs:=vs) (rs:=rs) (ys:=ys) al (by simpa using e) (Rel.drop R)
 | false::ios,v::vs,.rf j::rs,y::ys,ρ,al,e,R=>bE (ios:=ios) (vs:=vs) (rs:=rs) (ys:=ys) al.2 (by simpa using e) (Rel.drop R)
 | false::ios,v::vs,.val x::rs,y::ys,ρ,al,e,R=>bE (ios:=ios) (vs:=vs) (rs:=rs) (ys:=ys) al (by simpa using e) (Rel.drop R)
 | _,[],_::_,_,_,al,_,_=>by simp[Al]at al
 | _,_::_,[],_,_,al,_,_=>by simp[Al]at al
 | _,[],_,_::_,_,_,e,_=>by simp at e
 | _,_::_,_,[],_,_,e,_=>by simp at e
end
structure FnD (P:Program)(w:World)(K:WF)(mg:Str->Option Value)(base:Heap)(k:Nat)(f:Addr)(fd:FuncData)(ps:List Str)(sp:DSp):Prop where
 ok:FnOk P w K mg base CX0 k f fd ps (toSp K sp)
 mono:rl sp
section
variable{X:Cx}{K:WF}{a b c e:Expr}{es:List Expr}{da db dc:DE}{dt:DA}{pos p:Pos}{x:Str}{k:Nat}{f:Addr}{fd:FuncData}{ps:List Str}{sp:DSp}
def xf(sp:DSp)(ios:List Bool)(t:DA):DE:=fun ρ Q=>t ρ fun rs ρ1=>∃xs ρ2,bc ios ρ1 rs=some (xs,ρ2)/\sp xs fun x ys=>Q (.val x) (dv ios rs ys ρ2)
theorem sd{ios:List Bool}{ta:TA}(G:FnD X.prog X.w X.K X.mg X.base k f fd ps sp)(s1:rm X.K ta dt):cm X.K (wX (toSp X.K sp) [] E0 ta) (xf sp ios dt):=fun b F σ H ρ τ θ Qd Q hK R h q=>s1 b F σ H ρ τ θ _ _ hK R h fun vs H1 rs ρ1 el R1 ⟨xs,ρ2,e1,h1⟩=>by
  obtain⟨R2,e2⟩:=argsR_ok R1 el e1
  have al:=((aM el).mp R1.al).1
  have w:=R2.vals e2
  rw[aaq,<- hK]
  refine w.call e2 G.mono (G.mono _ _ _ (fun x ys hx eys v H' w'=>q v H' _ _ ?_ hx) h1)
  have R3:Rel b F σ H' ρ2 (v::(vs++τ)) (.val x::(ys.map OR.val++θ)):=by
   have R0:=R2.drops (by simpa using e2)
   refine⟨R0.wf,(aM (σ:=σ) (vs:=vs) (rs:=ys.map OR.val) (by simpa using eys)).mpr ⟨eU eys,R0.al⟩,R0.wff,?_⟩
   show Wd b H' ((v,x)::(stk (vs++τ) (ys.map OR.val++θ)++_))
   rw[aC (by simpa using eys),bS eys,aah]
   exact w'
  exact bE (τ:=v::τ) (θ:=.val x::θ) al eys (Rel.tor (vs:=vs) (rs:=ys.map OR.val) R3 (by simpa using eys))
theorem vB {ios:List Bool} (G:FnD X.prog X.w X.K X.mg X.base k f fd ps sp) (hr:Room k X.A) (hg:Gl X x) (hm:X.mg x=some (.ref f)) (hk:PySem.W.keepIn X.K (.ref f)=true) (hb:Binds X.K fd ps []) (hdb:(x == ("__debug__":Str))=false:=by decide)
  (he:starEach (e::es) X.env=(false,eval e X.env)::starEach es X.env:=by rfl) (hpl:(backTo pos (starEach es X.env)).any (·.1)=false:=by rfl):PDa X (e::es) dt->PDe X (.Call (.Name x p) (e::es) [] pos) (xf sp ios dt)
 | ⟨_,h1,s1⟩=>⟨_,mZ (E:=E0) G.ok hr hg hm hk hb .nil kj h1 hdb he hpl,sd G s1⟩
end
def Di:PyData->Bool
 | .int _=>true
 | .bool _=>true
 | .str _=>true
 | .none=>true
 | _=>false
theorem Fz.sc{K:WF}{S:Addr->Prop}{H:Hp}{v:V}{d:PyData}(h:Fz K S H v d)(e:Di d=true):Sc v d:=by
 cases h<;>first | constructor | cases e
theorem Wd.kept0{b:Bs}{H H':Hp}{L:List (V × OD)}(w:Wd b H L)(k:Kp (fun a=>a∈([]:List Addr)) H H'):Wd b H' L:=by
 obtain⟨A,h0,nd,new⟩:=w.out
 have nt:=w.nt' h0
 have hs:∀a o,H a=some o->H' a=some o:=fun a o e=>k.k a o e aak
 have hne:∀a,a∈A->H' a=H a:=fun a ha=>by
  cases e:H a with
  | none=>exact absurd e (Ows.ne h0 a ha)
  | some o=>exact hs a o e
 refine⟨⟨A,Ows.step (S:=fun a=>a∈A\/b.S0 a) (k.weak fun c hc=>absurd hc aak) (fun c z=>.inl z) nt hne h0,nd,new⟩,w.fr.trans (k.weak fun c hc=>absurd hc aak),w.s0,fun a xs e z=>?_⟩
 have h1:=(w.s0 a z).1
 cases e2:H a with
 | none=>exact h1 (w.fr.n a e2)
 | some o =>
  have:=hs a o e2
  rw[e]at this
  cases this
  exact w.nt a xs e2 z
section
variable{X:Cx}{K:WF}{a b c e:Expr}{es:List Expr}{da db dc:DE}{dt:DA}{pos p:Pos}{x:Str}{k:Nat}{f:Addr}{fd:FuncData}{ps:List Str}{sp:DSp}
def zh(sp:DSp)(t:DA):DE:=fun ρ Q=>t ρ fun rs ρ1=>∃ds,cA ρ1 rs=some ds/\sp (ds.map OD.fz) fun x _=>∃d,x=.fz d/\Di d=true/\Q (.val (.fz d)) ρ1
theorem zi{b:Bs}{S:Addr->Prop}{H:Hp}:∀{vs:List V} {ds:List PyData},FzA b.K S H vs ds->Ows b S H vs (ds.map OD.fz) []:=by
 intro vs
 induction vs with
 | nil=>intro ds h;cases h;exact .nil
 | cons v vs ih=>intro ds h;cases h with | cons r t=>exact Ows.cons (A:=[]) (.fz r) (ih t)
theorem se (G:FnD X.prog X.w X.K X.mg X.base k f fd ps sp) (hr:Room k X.A) (hg:Gl X x) (hm:X.mg x=some (.ref f)) (hk:PySem.W.keepIn X.K (.ref f)=true) (hb:Binds X.K fd ps []) (hdb:(x == ("__debug__":Str))=false:=by decide)
  (he:starEach (e::es) X.env=(false,eval e X.env)::starEach es X.env:=by rfl) (hpl:(backTo pos (starEach es X.env)).any (·.1)=false:=by rfl):PDa X (e::es) dt->PDe X (.Call (.Name x p) (e::es) [] pos) (zh sp dt)
 | ⟨_,h1,s1⟩=>⟨_,mZ (E:=E0) G.ok hr hg hm hk hb .nil kj h1 hdb he hpl,fun b F σ H ρ τ θ Qd Q hK R h q=>s1 b F σ H ρ τ θ _ _ hK R h fun vs H1 rs ρ1 el R1 ⟨ds,e1,h1⟩=>by
  have dt:=R1.dtL el e1
  rw[aaq,<- hK]
  have es:(fun a=>a∈([]:List Addr)\/False)=fun _=>False:=funext fun a=>by simp
  refine⟨fun _=>False,ds.map OD.fz,[],fun a z=>z.elim,fun _ _ _ z=>z,?_,aa8,G.mono _ _ _ (fun x ys hx v H' B kp hO nB hB=>?_) h1⟩
  ·rw[es]
   exact zi (b:=⟨b.K,H1,fun _=>False,fun a=>a∈[]⟩) (FzA.of0 dt)
  ·obtain⟨d,hx,hs,hq⟩:=hx
   subst hx
   cases hO with
   | cons r t =>
    cases r with
    | fz r =>
     have R2:=R1.drops el
     exact q v H' _ _ (Rel.sc ⟨R2.wf,R2.al,R2.wff,R2.wd.kept0 kp⟩ (r.sc hs)) hq⟩
end
section
variable{P:Program}{w:World}{K:WF}{mg:Str->Option Value}{base:Heap}
theorem bv:∀{vs:List V} {n:Nat} {ρ:DEnv},flat (vs.map some++List.replicate n none) ρ=flat (vs.map some) ρ
 | [],0,_=>rfl
 | [],n + 1,[]=>rfl
 | [],n + 1,o::ρ=>by
  rw[aaG,aaP,aa9]
  have:flat (none::List.replicate n none) (o::ρ)=flat (List.replicate n none) ρ:=by cases o<;>rfl
  rw[this]
  have:=bv (vs:=[]) (n:=n) (ρ:=ρ)
  simpa [flat] using this
 | v::vs,n,[]=>by simp[flat]
 | v::vs,n,none::ρ=>by
  simp only[aal,aaI,a9]
  exact bv
 | v::vs,n,some x::ρ=>by
  simp only[aal,aaI,flat]
  rw[bv]
theorem gV:∀{vs:List V} {xs:List OD} {k:Nat},vs.length=xs.length->flat (vs.map some) (xs.map some++List.replicate k none)=vs.zip xs
 | [],[],0,_=>rfl
 | [],[],_ + 1,_=>rfl
 | v::vs,x::xs,k,e=>by
  simp only[aal,aaI,flat,abx]
  rw[gV (by simpa using e)]
 | [],_::_,_,e=>by simp at e
 | _::_,[],_,e=>by simp at e
theorem gW:∀{vs:List V} {xs:List OD} {k:Nat},vs.length=xs.length->Wf (vs.map some++List.replicate k none) (xs.map some++List.replicate k none)
 | [],[],0,_=>trivial
 | [],[],k + 1,_=>by
  have:=gW (vs:=[]) (xs:=[]) (k:=k) rfl
  exact this
 | v::vs,x::xs,k,e=>gW (vs:=vs) (xs:=xs) (k:=k) (by simpa using e)
 | [],_::_,_,e=>by simp at e
 | _::_,[],_,e=>by simp at e
def fN(N:Nat)(xs:List OD):DEnv:=xs.map some++List.replicate (N - xs.length) none
def aQ:Nat->List Bool->List OD->DEnv->Option (List OD)
 | _,[],[],_=>some []
 | i,true::ios,_::xs,ρ=>match ρ[i]?.join with
  | some y=>match aQ (i + 1) ios xs ρ with | some ys=>some (y::ys) | none=>none
  | none=>none
 | i,false::ios,.fz d::xs,ρ=>match aQ (i + 1) ios xs ρ with | some ys=>some (.fz d::ys) | none=>none
 | _,_,_,_=>none
def WS(ios:List Bool):Nat->Prop:=fun j=>ios[j]?=some true
def eV:Nat->List Bool->List V->List V
 | i,true::ios,v::vs=>v::eV (i + 1) ios vs
 | i,false::ios,_::vs=>eV (i + 1) ios vs
 | _,_,_=>[]
def cV:Nat->List Bool->List OR
 | i,true::ios=>.rf i::cV (i + 1) ios
 | i,false::ios=>cV (i + 1) ios
 | _,[]=>[]
theorem jw{σ:St}:∀{ios:List Bool} {vs:List V} {i:Nat},ios.length=vs.length->(∀k v,vs[k]?=some v->σ[i + k]?=some (some v))->Al σ (eV i ios vs) (cV i ios)
 | [],[],_,_,_=>trivial
 | true::ios,v::vs,i,e,h=>⟨h 0 v rfl,jw (ios:=ios) (vs:=vs) (i:=i + 1) (by simpa using e) fun k u hk=>by have:=h (k + 1) u (by simpa using hk);rwa [show i + 1 + k=i + (k + 1) by omega]⟩
 | false::ios,v::vs,i,e,h=>jw (ios:=ios) (vs:=vs) (i:=i + 1) (by simpa using e) fun k u hk=>by have:=h (k + 1) u (by simpa using hk);rwa [show i + 1 + k=i + (k + 1) by omega]
 | [],_::_,_,e,_=>by simp at e
 | true::_,[],_,e,_=>by simp at e
 | false::_,[],_,e,_=>by simp at e
theorem jx:∀{ios:List Bool} {i:Nat} {W:Nat->Prop},(∀k,ios[k]?=some true->W (i + k))->NoRf W (cV i ios)
 | [],_,_,_=>fun r hr=>by simp[cV]at hr
 | true::ios,i,W,h=>fun r hr=>by
  simp only[cV]at hr
  rcases aac.mp hr with rfl | hr
  ·exact .inr ⟨i,h 0 rfl,rfl⟩
  ·exact jx (ios:=ios) (i:=i + 1) (W:=W) (fun k hk=>by have:=h (k + 1) (by simpa using hk);rwa [show i + 1 + k=i + (k + 1) by omega]) r hr
 | false::ios,i,W,h=>fun r hr=>jx (ios:=ios) (i:=i + 1) (W:=W) (fun k hk=>by have:=h (k + 1) (by simpa using hk);rwa [show i + 1 + k=i + (k + 1) by omega]) r hr
theorem eW:∀{ios:List Bool} {vs:List V} {i:Nat},stk (eV i ios vs) (cV i ios)=[]
 | [],[],_=>rfl
 | [],_::_,_=>rfl
 | true::ios,[],i=>by simp[eV,cV,stk]
 | false::ios,[],i=>by
  have:eV i (false::ios) ([]:List V)=[]:=rfl
  rw[this]
  cases h:cV i (false::ios)<;>rfl
 | true::ios,v::vs,i=>eW (ios:=ios) (vs:=vs) (i:=i + 1)
 | false::ios,v::vs,i=>eW (ios:=ios) (vs:=vs) (i:=i + 1)
end
end
section
section
variable{P:Program}{w:World}{K:WF}{mg:Str->Option Value}{base:Heap}{b:Bs}{σ:St}{H:Hp}
theorem Wd.addF(w:Wd b H L)(f:Fz b.K (fun a=>b.C a\/b.S0 a) b.H0 v d):Wd b H ((v,.fz d)::L):=by
 obtain⟨A,h0,nd,new⟩:=w.out
 refine⟨⟨A,Ows.cons (.fz (f.step (w.fr.weak fun c z=>.inl (.inl z)) fun c z=>?_)) h0,nd,new⟩,w.fr,w.s0,w.nt⟩
 rcases z with z | z
 ·exact (new c z).elim .inr fun z=>.inl (.inl z)
 ·exact .inl (.inr z)
theorem fO:∀{ios:List Bool} {xs:List OD} {i j:Nat} {ρ:DEnv},j < i->aQ i ios xs (ρ.set j none)=aQ i ios xs ρ
 | [],[],_,_,_,_=>rfl
 | true::ios,_::xs,i,j,ρ,h=>by
  simp only[aQ]
  rw[aaX (by omega),fO (by omega)]
 | false::ios,.fz d::xs,i,j,ρ,h=>by
  simp only[aQ]
  rw[fO (by omega)]
 | [],_::_,_,_,_,_=>rfl
 | true::_,[],_,_,_,_=>rfl
 | false::_,[],_,_,_,_=>rfl
 | false::_,.lst _::_,_,_,_,_=>rfl
 | false::_,.tup _::_,_,_,_,_=>rfl
 | false::_,.dic _ _::_,_,_,_,_=>rfl
 | false::_,.obj _ _ _::_,_,_,_,_=>rfl
 | false::_,.pin _ _ _::_,_,_,_,_=>rfl
 | false::_,.hole _::_,_,_,_,_=>rfl
theorem jy:∀{ios:List Bool} {vs:List V} {xs ys:List OD} {i:Nat} {ρ:DEnv} {L1:List (V × OD)},vs.length=xs.length->(∀(k:Nat) v d,vs[k]?=some v->xs[k]?=some (.fz d)->Fz b.K (fun a=>b.C a\/b.S0 a) b.H0 v d)->aQ i ios xs ρ=some ys ->
  Al σ (eV i ios vs) (cV i ios)->Wf σ ρ->Wd b H (L1++flat σ ρ)->vs.length=ys.length/\∃R,Wd b H (L1++(vs.zip ys++R))
 | [],[],[],ys,i,ρ,L1,_,_,e,_,_,w=>by simp only[aQ]at e;cases e;exact⟨rfl,_,w⟩
 | true::ios,v::vs,x::xs,ys,i,ρ,L1,el,hf,e,al,wf,w=>by
  simp only[aQ]at e
  split at e
  ·rename_i y ey
   split at e
   ·rename_i ys' e2
    cases e
    have ev:σ[i]?=some (some v):=al.1
    have w1:Wd b H ((L1++[(v,y)])++flat σ (ρ.set i none)):=w.perm (by
     rw[aah]
     exact (bh (join_some ey) ev).append_left _)
    obtain⟨e3,R,w2⟩:=jy (by simpa using el) (fun k u d h1 h2=>hf (k + 1) u d (by simpa using h1) (by simpa using h2)) (by rw[fO (by omega)];exact e2) al.2 wf.off w1
    exact⟨by simp[e3],R,by rw[aah]at w2;exact w2⟩
   ·cases e
  ·cases e
 | false::ios,v::vs,.fz d::xs,ys,i,ρ,L1,el,hf,e,al,wf,w=>by
  simp only[aQ]at e
  split at e
  ·rename_i ys' e2
   cases e
   have w1:Wd b H ((L1++[(v,.fz d)])++flat σ ρ):=(w.addF (hf 0 v d rfl rfl)).perm (by
    rw[aah]
    exact aav.symm)
   obtain⟨e3,R,w2⟩:=jy (by simpa using el) (fun k u d h1 h2=>hf (k + 1) u d (by simpa using h1) (by simpa using h2)) e2 al wf w1
   exact⟨by simp[e3],R,by rw[aah]at w2;exact w2⟩
  ·cases e
 | [],_::_,_::_,_,_,_,_,_,_,e,_,_,_=>by simp[aQ]at e
 | true::_,[],[],_,_,_,_,_,_,e,_,_,_=>by simp[aQ]at e
 | false::_,[],[],_,_,_,_,_,_,e,_,_,_=>by simp[aQ]at e
 | false::_,_::_,.lst _::_,_,_,_,_,_,_,e,_,_,_=>by simp[aQ]at e
 | false::_,_::_,.tup _::_,_,_,_,_,_,_,e,_,_,_=>by simp[aQ]at e
 | false::_,_::_,.dic _ _::_,_,_,_,_,_,_,e,_,_,_=>by simp[aQ]at e
 | false::_,_::_,.obj _ _ _::_,_,_,_,_,_,_,e,_,_,_=>by simp[aQ]at e
 | false::_,_::_,.pin _ _ _::_,_,_,_,_,_,_,e,_,_,_=>by simp[aQ]at e
 | false::_,_::_,.hole _::_,_,_,_,_,_,_,e,_,_,_=>by simp[aQ]at e
 | _,[],_::_,_,_,_,_,e,_,_,_,_,_=>by simp at e
 | _,_::_,[],_,_,_,_,e,_,_,_,_,_=>by simp at e
theorem Ows.fzAt:∀{vs:List V} {xs:List OD} {A:List Addr} {k:Nat} {v:V} {d:PyData},Ows b S H vs xs A->vs[k]?=some v->xs[k]?=some (.fz d)->Fz b.K S H v d
 | _,_,_,0,_,_,.cons r _,e,e'=>by simp at e e';subst e e';cases r with | fz f=>exact f
 | _,_,_,k + 1,_,_,.cons _ t,e,e'=>Ows.fzAt (k:=k) t (by simpa using e) (by simpa using e')
 | _,_,_,_,_,_,.nil,e,_=>by simp at e
theorem Fun.okD{st:Stmt}(F:Fun K x qual st f fd)(S:FnScope N ps (aH st))(mono:rl sp)(hio:ios.length=ps.length)(len:∀xs Q,sp xs Q->xs.length=ps.length)
  (hbody:∀(cdv:Value) (A:Around) (outer:List Env) (s:Shared) (H:Hp) (E:XK),Room k (A.deeper (envOfC qual (aH st) s.heap.objs.size f cdv))->∀(xs:List OD) (Q:OD->List OD->Prop),sp xs Q ->
   ∃db,PDss (ji CX0 P w K mg base N qual (aH st) f cdv A outer s H E).nox (WS ios) (bO st) db/\db { nx:=fun ρ=>∃ys,aQ 0 ios xs ρ=some ys/\Q (.fz .none) ys,rt:=fun x ρ=>∃ys,aQ 0 ios xs ρ=some ys/\Q x ys } (fN N.length xs)):FnD P w K mg base (k + 1) f fd ps sp:=by
 refine⟨F.ok S (fun vs H Q E h=>?_) (fun cdv A outer s H vs Q E hr h=>?_),mono⟩
 ·obtain⟨S,xs,A,_,_,hO,_,h⟩:=h
  rw[hO.len]
  exact len _ _ h
 ·obtain⟨S',xs,A',al,nt,hO,nA,h⟩:=h
  obtain⟨db,⟨ts,h1,s1⟩,hd⟩:=hbody cdv A outer s H E hr xs _ h
  refine⟨ts,h1,?_⟩
  let b:Bs:=⟨K,H,S',fun a=>a∈A'⟩
  have el:=hO.len
  have exl:=len _ _ h
  have w0:Wd b H (vs.zip xs):=⟨⟨A',OwL.unzips hO,nA,fun a ha=>.inr ha⟩,Kp.refl _ _,fun a z=>⟨(al a z).1,(al a z).2⟩,nt⟩
  have sg:∀(k:Nat) v,vs[k]?=some v->(start N vs)[0 + k]?=some (some v):=fun k v e=>by
   have hk:=(aas.mp e).1
   unfold start
   rw[aaK,abc (by simpa using hk),aau,e];rfl
  have R:Rel b [] (start N vs) H (fN N.length xs) (eV 0 ios vs) (cV 0 ios):=by
   unfold start fN
   refine⟨by rw[el];exact gW el,jw (by omega) sg,fun f hf=>(by cases hf),?_⟩
   rw[eW]
   show Wd b H ([]++(flat _ _++[]))
   rw[aaP,aaq,bv,gV el]
   exact w0
  have fin:∀(σ':St) (H':Hp) (ρ':DEnv) (v:V) (x:OD),Rel b [] σ' H' ρ' (v::eV 0 ios vs) (.val x::cV 0 ios)->(∃ys,aQ 0 ios xs ρ'=some ys/\Fm K S' A' vs H Q x ys)->Q v H':=fun σ' H' ρ' v x R' ⟨ys,ey,ha⟩=>by
   have w':Wd b H' ([(v,x)]++flat σ' ρ'):=by
    have:=R'.wd
    simp only[stk]at this
    rw[eW]at this
    simpa [ff] using this
   obtain⟨eys,Z,w2⟩:=jy el (fun k v d h1 h2=>(Ows.fzAt hO h1 h2).sub fun a z=>z) ey R'.al R'.wf w'
   have e1:[(v,x)]++(vs.zip ys++Z)=(v::vs).zip (x::ys)++Z:=rfl
   rw[e1]at w2
   obtain⟨B0,h0,nd,new⟩:=w2.out
   have nt':=w2.nt' h0
   obtain⟨B,B2,rfl,r,t⟩:=OwL.split' h0
   refine ha v H' B w2.fr (Ows.sub nt' (fun c z=>z.imp (aad _) id) (OwL.zips (by simp[eys]) r)) (aaC.mp nd).1 fun a haB=>new a (aad _ haB)
  refine s1 b [] (start N vs) H _ _ _ _ _ rfl (jx fun k hk=>?_) R hd ⟨fun σ' H' ρ' R' h'=>?_,fun _ _ _ _ h'=>h'.elim,fun _ _ _ _ h'=>h'.elim,fin⟩
  ·rw[aaK];exact hk
  ·exact fin σ' H' ρ' .non _ (R'.sc .non) h'
end
end
section
inductive Bo where | add | sub | mul | fdiv | mod | pow
inductive Co where | lt | le | gt | ge | eq | ne | inn | nin
inductive Bl where | len | abs | max | min | int | all | mx3 | smt
inductive Knd where | int | bool | str | list | tuple | seq
inductive Bn where | list | tuple
inductive Acc where | fld (c f:Str) | ix (k:Int) | key (j:Nat)
inductive Tg where | nm (i:Nat) | tp (ts:List Nat) | tn (i:Nat)(ts:List Nat)
mutual
inductive E where
 | nm (i:Nat) | int (k:Int) | str (x:Str) | bl (b:Bool) | gc (g:Nat)
 | bop (o:Bo) (a b:E) | cat (a b:E)
 | cmp (o:Co) (a b:E) | cmp2 (o o':Co) (a b c:E) | isn (neg:Bool) (a:E)
 | and (a b:E) | or (a b:E) | not (a:E) | neg (a:E) | ife (c a b:E)
 | tup (es:Es) | lst (es:Es) | ix (a b:E) | sll (a:E) (lo hi:Eo)
 | call (f:Nat) (es:Es) | callS (f:Nat) (es:Es) | blt (f:Bl) (es:Es) | bnw (f:Bn) (e:E) | isi (k:Knd) (a:E) | dnew
 | pg (i:Nat) (ps:List Acc) | pf (i:Nat) (ps:List Acc) | pl (i:Nat) (ps:List Acc) | pt (i:Nat) (ps:List Acc) | pin (neg:Bool) (e:E) (i:Nat) (ps:List Acc) | din (neg:Bool) (e:E) (i:Nat) (ps:List Acc)
 | comp (nt:Nat) (fr:List Nat) (it:It') (tg:Tg) (ifs:Eo) (elt:E) | compB (i nt:Nat) (fr:List Nat) (tg:Tg) (ifs:Eo) (elt:E)
 | meth (c m:Str) (f:Nat) (i:Nat) (es:Es) | make (c:Str) (f:Nat) (es:Es)
inductive Es where | nil | cons (e:E)(es:Es)
inductive Eo where | none | some (e:E)
inductive It' where | seq (e:E) | rg1 (e:E) | enm (e:E) | zip (a b:E)
end
mutual
inductive S' where
 | ex (e:E) | set (i:Nat) (e:E) | asg (t:Tg) (e:E) | par (is:List Nat) (es:Es) | aug (i:Nat) (o:Bo) (e:E)
 | ret (e:E) | iff (c:E) (a b:Ss) | fr (t:Tg) (it:It') (b:Ss) | cont
 | app (i:Nat) (e:E) | apd (i:Nat) (ps:List Acc) (e:E) | sti (i:Nat) (k e:E) | std (i:Nat) (ps:List Acc) (j:Nat) (e:E)
 | sdz (i nt:Nat) (fr:List Nat) (it:It') | stf (i:Nat) (c f:Str) (e:E) | agf (i:Nat) (c f:Str) (o:Bo) (e:E)
inductive Ss where | nil | cons (s:S')(ss:Ss) | ali (i:Nat)(ps:List Acc)(j:Nat)(ss:Ss)
end
structure Fn where
 io:List Bool
 n:Nat
 body:Ss
structure Ct where
 io:Nat->List Bool
 call:Nat->List OD->Option (OD × List OD)
 mak:Nat->List OD->Option (OD × List OD)
 gv:Nat->PyData
 wf:Nat
def ql:OD->Option PyData | .fz d=>some d | _=>none
def vC:OD->Option (List OD) | .lst xs=>some xs | _=>none
def Dj:OD->Option (List Key × List OD) | .dic ks xs=>some (ks,xs) | _=>none
def BD:OD->Option (Str × List Str × List OD) | .obj c ns xs=>some (c,ns,xs) | _=>none
def Fp(x:OD):Option (List OD):=match x with | .lst xs=>some xs | .tup xs=>some xs | _=>none
def eP:PyData->Option Int | .int i=>some i | _=>none
def Dk:PyData->Option Bool | .bool k=>some k | _=>none
def Eu:PyData->Option (List PyData) | .list ds=>some ds | _=>none
def um:PyData->Option (List PyData) | .list ds=>some ds | .tuple ds=>some ds | _=>none
def gd(c:Prop)[Decidable c]:Option Unit:=if c then some () else none
def eJ{α:Type}:List α->Option α | [x]=>some x | _=>none
def vD{α:Type}:List α->Option (α × α × α) | [x,y,z]=>some (x,y,z) | _=>none
def Fq:PyData->Option (List PyData) | .tuple ds=>some ds | _=>none
def gX{α:Type}:List α->Option (α × α) | [x,y]=>some (x,y) | _=>none
def Fs(w:OD × List OD):Option (OD × List OD):=(ql w.1).bind fun d=>match d,w.2 with | .none,y::ys=>some (y,ys) | _,_=>none
def Ft:Bo->Int->Int->Option Int
 | .add,i,j=>some (i + j)
 | .sub,i,j=>some (i - j)
 | .mul,i,j=>(gd ((-(2 ^ 64) < i/\i < 2 ^ 64)\/(-(2 ^ 64) < j/\j < 2 ^ 64))).bind fun _=>some (i * j)
 | .fdiv,i,j=>(gd (0 < j/\j < 1073741824)).bind fun _=>some (i / j)
 | .mod,i,j=>(gd (0 < j)).bind fun _=>some (i % j)
 | .pow,i,j=>(gd (0≤j/\j≤1000000/\i.natAbs < 2 ^ 64)).bind fun _=>some (i ^ j.toNat)
def vE(o:Bo)(x y:PyData):Option PyData:=(eP x).bind fun i=>(eP y).bind fun j=>(Ft o i j).bind fun k=>some (.int k)
def eqA(x y:PyData):Option Bool:=match pM x y with
 | some k=>some k
 | none=>if SeqAt.shaped x && SeqAt.shaped y then some (PyData.eqv x y) else none
def inA(x y:PyData):Option Bool:=(um y).bind fun ds=>(gd (As x=true)).bind fun _=>memD x ds
def lZ(o:Co)(x y:PyData):Option Bool:=match o with
 | .lt=>(eP x).bind fun i=>(eP y).bind fun j=>some (decide (i < j))
 | .le=>(eP x).bind fun i=>(eP y).bind fun j=>some (decide (i≤j))
 | .gt=>(eP x).bind fun i=>(eP y).bind fun j=>some (decide (j < i))
 | .ge=>(eP x).bind fun i=>(eP y).bind fun j=>some (decide (j≤i))
 | .eq=>eqA x y
 | .ne=>(eqA x y).bind fun k=>some (!k)
 | .inn=>inA x y
 | .nin=>(inA x y).bind fun k=>some (!k)
def jz:PyData->Option Bool
 | .none=>some false | .bool b=>some b | .int i=>some (i != 0)
 | .list ds=>some (!ds.isEmpty) | .tuple ds=>some (!ds.isEmpty)
 | _=>none
def BE:Knd->PyData->Bool
 | .int,.int _=>true | .int,.bool _=>true | .bool,.bool _=>true | .str,.str _=>true | .list,.list _=>true | .tuple,.tuple _=>true | .seq,.list _=>true | .seq,.tuple _=>true
 | _,_=>false
def nv:List PyData->Option (List Int)
 | []=>some []
 | d::ds=>(eP d).bind fun i=>(nv ds).bind fun r=>some (i::r)
def qm(n:Int):Bool:=decide (-1000000000000≤n) && decide (n≤1000000000000)
def vF(f:Bl)(ds:List PyData):Option PyData:=match f with
 | .len=>(eJ ds).bind fun d=>(jt d).bind fun n=>some (.int n)
 | .abs=>(eJ ds).bind fun d=>(eP d).bind fun i=>some (.int (if i < 0 then -i else i))
 | .max=>(gX ds).bind fun z=>(eP z.1).bind fun i=>(eP z.2).bind fun j=>some (.int (if j > i then j else i))
 | .min=>(gX ds).bind fun z=>(eP z.1).bind fun i=>(eP z.2).bind fun j=>some (.int (if j < i then j else i))
 | .int=>(eJ ds).bind fun d=>(toInt d).bind fun i=>some (.int i)
 | .all=>(eJ ds).bind fun d=>(Eu d).bind fun es=>(allB es).bind fun bs=>some (.bool (bs.all id))
 | .mx3=>(vD ds).bind fun z=>(eP z.1).bind fun i=>(eP z.2.1).bind fun j=>(eP z.2.2).bind fun k=>some (.int (if j > i then (if k > j then k else j) else if k > i then k else i))
 | .smt=>(eJ ds).bind fun d=>(Fq d).bind fun es=>(nv es).bind fun ns=>(gd (ns.all qm=true/\ns.length≤1000000)).bind fun _=>some (.int ns.sum)
def keyOf:PyData->Option Key
 | .int i=>some (.inl i)
 | .str x=>some (.inr x)
 | _=>none
def accN(ρ:DEnv)(x:OD):Acc->Option Nat
 | .fld c f=>(BD x).bind fun q=>(gd (q.1=c)).bind fun _=>q.2.1.findIdx? (fun g=>decide (g=f))
 | .ix k=>(Fp x).bind fun xs=>ixN xs.length k
 | .key j=>(ρ[j]?.join).bind fun y=>(ql y).bind fun d=>(Dj x).bind fun q=>(keyOf d).bind fun k=>q.1.findIdx? (fun q=>decide (q=k))
def ao(ρ:DEnv)(i:Nat):List Acc->Option (OD × List Nat × OD)
 | []=>(ρ[i]?.join).bind fun x=>some (x,[],x)
 | a::ps=>(ao ρ i ps).bind fun p=>(accN ρ p.2.2 a).bind fun k=>(p.2.2.kids[k]?).bind fun z=>some (p.1,p.2.1++[k],z)
def unpA(x:OD):Option (List OD):=match unpT x with | some xs=>some xs | none=>unpL x
def BF(ts:List Nat)(x:OD)(ρ:DEnv):Option DEnv:=(unpA x).bind fun xs=>(gd (xs.length=ts.length/\∀i∈ts,i < ρ.length)).bind fun _=>some (dq ts xs ρ)
def bb:Tg->OD->DEnv->Option DEnv
 | .nm i,x,ρ=>(gd (i < ρ.length)).bind fun _=>some (ρ.set i (some x))
 | .tp ts,x,ρ=>BF ts x ρ
 | .tn i ts,x,ρ=>(unpA x).bind fun xs=>(gX xs).bind fun z=>(gd (i < ρ.length)).bind fun _=>BF ts z.2 (ρ.set i (some z.1))
def aU(step:PyData->DEnv->Option (List PyData × DEnv)):List PyData->List PyData->DEnv->Option (List PyData × DEnv)
 | [],out,ρ=>some (out,ρ)
 | d::ds,out,ρ=>(step d ρ).bind fun w=>aU step ds (out++w.1) w.2
inductive Fl where | nx | bk | ct | rt (x:OD)
def bj(step:PyData->DEnv->Option (Fl × DEnv)):List PyData->DEnv->Option (Fl × DEnv)
 | [],ρ=>some (.nx,ρ)
 | d::ds,ρ=>(step d ρ).bind fun w=>match w.1 with
  | .nx=>bj step ds w.2
  | .ct=>bj step ds w.2
  | .bk=>some (.nx,w.2)
  | .rt x=>some (.rt x,w.2)
def vt(f:DEnv->Option (OR × DEnv)):(DEnv->Option (OR × DEnv)) × (DEnv->Option (Bool × DEnv)):=(f,fun ρ=>(f ρ).bind fun x=>(au x.2 x.1).bind fun d=>(jz d).bind fun k=>some (k,x.2))
section
variable(C:Ct)
mutual
def cp:E->(DEnv->Option (OR × DEnv)) × (DEnv->Option (Bool × DEnv))
 | .nm i=>vt fun ρ=>match ρ[i]?.join with
  | some (.fz d)=>some (.val (.fz d),ρ)
  | some _=>some (.rf i,ρ)
  | none=>none
 | .int k=>vt fun ρ=>some (.val (.fz (.int k)),ρ)
 | .str x=>vt fun ρ=>some (.val (.fz (.str x)),ρ)
 | .bl b=>vt fun ρ=>some (.val (.fz (.bool b)),ρ)
 | .gc g=>vt fun ρ=>some (.val (.fz (C.gv g)),ρ)
 | .bop o a b=>vt fun ρ=>((cp a).1 ρ).bind fun x=>((cp b).1 x.2).bind fun y=>(au y.2 x.1).bind fun dx=>(au y.2 y.1).bind fun dy=>(vE o dx dy).bind fun d=>some (.val (.fz d),y.2)
 | .cat a b=>vt fun ρ=>((cp a).1 ρ).bind fun x=>((cp b).1 x.2).bind fun y=>(vg y.2 x.1).bind fun dx=>(vg y.2 y.1).bind fun dy=>(gd (dx.length + dy.length≤1000000)).bind fun _=>some (.val (.lst ((dx++dy).map OD.fz)),y.2)
 | .cmp o a b=>vt fun ρ=>((cp a).1 ρ).bind fun x=>((cp b).1 x.2).bind fun y=>(au y.2 x.1).bind fun dx=>(au y.2 y.1).bind fun dy=>(lZ o dx dy).bind fun k=>some (.val (.fz (.bool k)),y.2)
 | .cmp2 o o' a b c=>vt fun ρ=>((cp a).1 ρ).bind fun x=>((cp b).1 x.2).bind fun y=>(au y.2 x.1).bind fun dx=>(au y.2 y.1).bind fun dy=>(lZ o dx dy).bind fun k=>if k=true then ((cp c).1 y.2).bind fun z=>(au z.2 y.1).bind fun dy'=>(au z.2 z.1).bind fun dz=>(lZ o' dy' dz).bind fun k'=>some (.val (.fz (.bool k')),z.2) else some (.val (.fz (.bool false)),y.2)
 | .isn neg a=>vt fun ρ=>((cp a).1 ρ).bind fun x=>(au x.2 x.1).bind fun d=>some (.val (.fz (.bool (if neg then !isNn d else isNn d))),x.2)
 | .and a b=>(fun ρ=>((cp a).1 ρ).bind fun x=>(au x.2 x.1).bind fun d=>(Dk d).bind fun k=>if k=true then (cp b).1 x.2 else some (.val (.fz (.bool false)),x.2),fun ρ=>((cp a).2 ρ).bind fun x=>if x.1=true then (cp b).2 x.2 else some (false,x.2))
 | .or a b=>(fun ρ=>((cp a).1 ρ).bind fun x=>(au x.2 x.1).bind fun d=>(Dk d).bind fun k=>if k=true then some (.val (.fz (.bool true)),x.2) else (cp b).1 x.2,fun ρ=>((cp a).2 ρ).bind fun x=>if x.1=true then some (true,x.2) else (cp b).2 x.2)
 | .not a=>(fun ρ=>((cp a).1 ρ).bind fun x=>(au x.2 x.1).bind fun d=>(Dk d).bind fun k=>some (.val (.fz (.bool (!k))),x.2),fun ρ=>((cp a).2 ρ).bind fun x=>some (!x.1,x.2))
 | .neg a=>vt fun ρ=>((cp a).1 ρ).bind fun x=>(au x.2 x.1).bind fun d=>(eP d).bind fun i=>some (.val (.fz (.int (-i))),x.2)
 | .ife c a b=>vt fun ρ=>((cp c).2 ρ).bind fun x=>if x.1=true then (cp a).1 x.2 else (cp b).1 x.2
 | .tup es=>vt fun ρ=>(evs es ρ).bind fun x=>(mapR own1 x.2 x.1).bind fun z=>(gd (x.1.length≤1000000)).bind fun _=>some (.val (mkTup z.1),z.2)
 | .lst es=>vt fun ρ=>(evs es ρ).bind fun x=>(mapR own1 x.2 x.1).bind fun z=>(gd (x.1.length≤1000000)).bind fun _=>some (.val (.lst z.1),z.2)
 | .ix a b=>vt fun ρ=>((cp a).1 ρ).bind fun x=>((cp b).1 x.2).bind fun y=>(au y.2 y.1).bind fun d=>(eP d).bind fun i=>(bD y.2 x.1 i).bind fun z=>some (.val z.1,z.2)
 | .sll a lo hi=>vt fun ρ=>((cp a).1 ρ).bind fun x=>(BG lo x.2).bind fun l=>(BG hi l.2).bind fun u=>(vg u.2 x.1).bind fun ds=>some (.val (.lst ((cutD ds l.1 u.1).map OD.fz)),u.2)
 | .call f es=>vt fun ρ=>(evs es ρ).bind fun x=>(bc (C.io f) x.2 x.1).bind fun z=>(C.call f z.1).bind fun w=>some (.val w.1,dv (C.io f) x.1 w.2 z.2)
 | .callS f es=>vt fun ρ=>(evs es ρ).bind fun x=>(cA x.2 x.1).bind fun ds=>(C.call f (ds.map OD.fz)).bind fun w=>(ql w.1).bind fun d=>(gd (Di d=true)).bind fun _=>some (.val (.fz d),x.2)
 | .blt f es=>vt fun ρ=>(evs es ρ).bind fun x=>(cA x.2 x.1).bind fun ds=>(vF f ds).bind fun d=>some (.val (.fz d),x.2)
 | .bnw f e=>vt fun ρ=>((cp e).1 ρ).bind fun x=>match f with
  | .list=>((dn x.2 x.1).bind seqOf).bind fun ds=>some (.val (.lst (ds.map OD.fz)),x.2)
  | .tuple=>((dn x.2 x.1).bind listOf).bind fun ds=>some (.val (.fz (.tuple ds)),x.2)
 | .isi k a=>vt fun ρ=>((cp a).1 ρ).bind fun x=>(au x.2 x.1).bind fun d=>some (.val (.fz (.bool (BE k d))),x.2)
 | .dnew=>vt fun ρ=>some (.val (.dic [] []),ρ)
 | .pg i ps=>vt fun ρ=>(ao ρ i ps).bind fun p=>(ql p.2.2).bind fun d=>some (.val (.fz d),ρ)
 | .pf i ps=>vt fun ρ=>(ao ρ i ps).bind fun p=>(p.2.2.dat).bind fun d=>some (.val (.fz d),ρ.set i (some (OD.put (.fz d) p.2.1 p.1)))
 | .pl i ps=>vt fun ρ=>(ao ρ i ps).bind fun p=>(p.2.2.dat).bind fun d=>(jt d).bind fun n=>some (.val (.fz (.int n)),ρ)
 | .pt i ps=>(fun _=>none,fun ρ=>(ao ρ i ps).bind fun p=>(p.2.2.dat).bind fun d=>(jz d).bind fun k=>some (k,ρ))
 | .pin neg e i ps=>vt fun ρ=>((cp e).1 ρ).bind fun x=>(au x.2 x.1).bind fun dx=>(ao x.2 i ps).bind fun p=>(p.2.2.dat).bind fun d=>(lZ (if neg then .nin else .inn) dx d).bind fun k=>some (.val (.fz (.bool k)),x.2)
 | .din neg e i ps=>vt fun ρ=>((cp e).1 ρ).bind fun x=>(au x.2 x.1).bind fun dx=>(ao x.2 i ps).bind fun p=>(keyOf dx).bind fun k=>(Dj p.2.2).bind fun q=>some (.val (.fz (.bool (if neg then !(q.1.any fun q=>decide (q=k)) else q.1.any fun q=>decide (q=k)))),x.2)
 | .comp nt fr it tg ifs elt=>vt fun ρ=>(lC it ρ).bind fun x=>(gd (x.1.length < 1000000)).bind fun _=>(cK x.2 fr).bind fun z =>
   (aU (fun d ρ'=>(bb tg (.fz d) ρ').bind fun ρ1=>(Dm ifs ρ1).bind fun k=>if k.1=true then ((cp elt).1 k.2).bind fun y=>(frz1 y.2 y.1).bind fun q=>some ([q.1],q.2) else some ([],k.2)) x.1 [] (List.replicate nt none++z.1)).bind fun w =>
    some (.val (.lst (w.1.map OD.fz)),gU z.2 fr (w.2.drop nt))
 | .compB i nt fr tg ifs elt=>vt fun ρ=>(ρ[i]?.join).bind fun x0=>(vC x0).bind fun xs=>(qk xs).bind fun ds=>(gd (ds.length < 1000000)).bind fun _=>(cK (ρ.set i none) fr).bind fun z =>
   (aU (fun d ρ'=>(bb tg (.fz d) ρ').bind fun ρ1=>(Dm ifs ρ1).bind fun k=>if k.1=true then ((cp elt).1 k.2).bind fun y=>(frz1 y.2 y.1).bind fun q=>some ([q.1],q.2) else some ([],k.2)) ds [] (List.replicate nt none++z.1)).bind fun w =>
    some (.val (.lst (w.1.map OD.fz)),(gU z.2 fr (w.2.drop nt)).set i (some (.lst xs)))
 | .meth c m f i es=>vt fun ρ=>(ρ[i]?.join).bind fun x0=>(BD x0).bind fun q=>(gd (q.1=c/\m ∉ q.2.1)).bind fun _=>(evs es ρ).bind fun x=>(bc (C.io f) x.2 (.rf i::x.1)).bind fun z=>(C.call f z.1).bind fun w=>some (.val w.1,dv (C.io f) (.rf i::x.1) w.2 z.2)
 | .make c f es=>vt fun ρ=>(evs es ρ).bind fun x=>(bc (C.io f).tail x.2 x.1).bind fun z=>(C.mak f (.obj c [] []::z.1)).bind fun w=>(Fs w).bind fun y=>some (.val y.1,dv (C.io f).tail x.1 y.2 z.2)
def evs:Es->DEnv->Option (List OR × DEnv)
 | .nil,ρ=>some ([],ρ)
 | .cons e es,ρ=>((cp e).1 ρ).bind fun x=>(evs es x.2).bind fun y=>some (x.1::y.1,y.2)
def BG:Eo->DEnv->Option (Option Int × DEnv)
 | .none,ρ=>some (none,ρ)
 | .some e,ρ=>((cp e).1 ρ).bind fun x=>(au x.2 x.1).bind fun d=>(eP d).bind fun i=>some (some i,x.2)
def Dm:Eo->DEnv->Option (Bool × DEnv)
 | .none,ρ=>some (true,ρ)
 | .some e,ρ=>(cp e).2 ρ
def lC:It'->DEnv->Option (List PyData × DEnv)
 | .seq e,ρ=>((cp e).1 ρ).bind fun x=>(frz1 x.2 x.1).bind fun z=>(um z.1).bind fun ds=>some (ds,z.2)
 | .rg1 e,ρ=>((cp e).1 ρ).bind fun x=>(au x.2 x.1).bind fun d=>(eP d).bind fun j=>(gd (-(2 ^ 62)≤j/\j < 2 ^ 62)).bind fun _=>some (bU 0 j.toNat,x.2)
 | .enm e,ρ=>((cp e).1 ρ).bind fun x=>(frz1 x.2 x.1).bind fun z=>(Eu z.1).bind fun ds=>some (cC ds,z.2)
 | .zip a b,ρ=>((cp a).1 ρ).bind fun x=>((cp b).1 x.2).bind fun y=>(frz1 y.2 x.1).bind fun z=>(frz1 z.2 y.1).bind fun w=>(um z.1).bind fun ds=>(um w.1).bind fun es=>some (eh ds es,w.2)
end
abbrev ev(e:E)(ρ:DEnv):=(cp C e).1 ρ
abbrev aZ(e:E)(ρ:DEnv):=(cp C e).2 ρ
end
example (C:Ct) (ρ:DEnv):ev C (.bop .add (.int 1) (.int 2)) ρ=some (.val (.fz (.int 3)),ρ):=rfl
example (C:Ct) (ρ:DEnv):aZ C (.and (.bl true) (.not (.cmp .lt (.int 1) (.int 2)))) ρ=some (false,ρ):=rfl
end
section
theorem bnd{α β:Type}{o:Option α}{f:α->Option β}{x:β}(h:o.bind f=some x):∃a,o=some a/\f a=some x:=aaJ.mp h
theorem cL{x:OD}{d:PyData}(h:ql x=some d):x=.fz d:=by cases x<;>cases h;rfl
theorem fP{x:OD}{xs:List OD}(h:vC x=some xs):x=.lst xs:=by cases x<;>cases h;rfl
theorem sf{x:OD}{z:List Key × List OD}(h:Dj x=some z):x=.dic z.1 z.2:=by cases x<;>cases h;rfl
theorem jA{x:OD}{z:Str × List Str × List OD}(h:BD x=some z):x=.obj z.1 z.2.1 z.2.2:=by cases x<;>cases h;rfl
theorem zj{x:OD}{xs:List OD}(h:Fp x=some xs):x=.lst xs\/x=.tup xs:=by cases x<;>cases h<;>first | exact .inl rfl | exact .inr rfl
theorem aK{d:PyData}{i:Int}(h:eP d=some i):d=.int i:=by cases d<;>cases h;rfl
theorem l4{d:PyData}{i:Bool}(h:Dk d=some i):d=.bool i:=by cases d<;>cases h;rfl
theorem si{d:PyData}{i:List PyData}(h:Eu d=some i):d=.list i:=by cases d<;>cases h;rfl
theorem jB{d:PyData}{i:List PyData}(h:um d=some i):d=.list i\/d=.tuple i:=by cases d<;>cases h<;>first | exact .inl rfl | exact .inr rfl
theorem gd_ok{c:Prop}[Decidable c]{u:Unit}(h:gd c=some u):c:=by
 by_cases hc:c
 ·exact hc
 ·rw[gd,if_neg hc]at h;cases h
theorem one1_ok{α:Type}{l:List α}{x:α}(h:eJ l=some x):l=[x]:=by
 cases l with
 | nil=>cases h
 | cons y l=>cases l<;>cases h;rfl
theorem thr3_ok{α:Type}{l:List α}{x:α × α × α}(h:vD l=some x):l=[x.1,x.2.1,x.2.2]:=by
 cases l with
 | nil=>cases h
 | cons y l =>
  cases l with
  | nil=>cases h
  | cons z l =>
   cases l with
   | nil=>cases h
   | cons w l=>cases l<;>cases h;rfl
theorem zk{d:PyData}{i:List PyData}(h:Fq d=some i):d=.tuple i:=by cases d<;>cases h;rfl
theorem two2_ok{α:Type}{l:List α}{x:α × α}(h:gX l=some x):l=[x.1,x.2]:=by
 cases l with
 | nil=>cases h
 | cons y l =>
  cases l with
  | nil=>cases h
  | cons z l=>cases l<;>cases h;rfl
theorem zl{w z:OD × List OD}(h:Fs w=some z):w.1=.fz .none/\w.2=z.1::z.2:=by
 obtain⟨a,b⟩:=w
 obtain⟨d,e,h⟩:=bnd h
 cases b with
 | nil=>cases d<;>cases h
 | cons y ys=>cases d<;>cases h;exact⟨cL e,rfl⟩
section
variable(C:Ct)
mutual
def jC:E->DEnv->Option PyData
 | .nm i,ρ=>(ρ[i]?.join).bind ql
 | .int k,_=>some (.int k)
 | .str x,_=>some (.str x)
 | .gc g,_=>some (C.gv g)
 | .bop o a b,ρ=>match o with
  | .add=>(jC a ρ).bind fun x=>(jC b ρ).bind fun y=>vE .add x y
  | .sub=>(jC a ρ).bind fun x=>(jC b ρ).bind fun y=>vE .sub x y
  | _=>none
 | .ix a b,ρ=>(jC a ρ).bind fun x=>(jC b ρ).bind fun y=>(um x).bind fun ds=>(eP y).bind fun i=>atI ds i
 | .tup es,ρ=>(l5 es ρ).bind fun ds=>(gd (ds.length≤1000000)).bind fun _=>some (.tuple ds)
 | .pg i ps,ρ=>(ao ρ i ps).bind fun p=>ql p.2.2
 | _,_=>none
def l5:Es->DEnv->Option (List PyData)
 | .nil,_=>some []
 | .cons e es,ρ=>(jC e ρ).bind fun x=>(l5 es ρ).bind fun y=>some (x::y)
end
def bf(f:Str)(z:OD):List Str->List OD->List Str × List OD
 | n::ns,x::xs=>if n=f then (n::ns,z::xs) else ((n::(bf f z ns xs).1),(x::(bf f z ns xs).2))
 | _,_=>([f],[z])
def cM(k:Key)(d:PyData)(ks:List Key)(xs:List OD):List Key × List OD :=
 if (ks.any fun q=>decide (q=k))=true then (ks,List.zipWith (fun q x=>if q=k then .fz d else x) ks xs) else (ks++[k],xs++[.fz d])
def kH:Bo->Int->PyData->Option Int
 | .add,a,.int k=>some (a + k)
 | .sub,a,.int k=>some (a - k)
 | _,_,_=>none
def sj(i:Nat)(ks:List Nat)(j:Nat)(u:V)(ρ ρ':DEnv):Prop:=∃x y,ρ[i]?.join=some x/\x.at ks=some (.hole u)/\ρ[j]?.join=some y/\j≠i/\ρ'=(ρ.set j none).set i (some (OD.put y ks x))
def AliOk(f:DEnv->Option (Fl × DEnv))(ρ:DEnv)(i:Nat)(p:OD × List Nat × OD)(xs:List OD)(j:Nat)(z:Fl × DEnv):Prop:=∀u:V,∃ρ2,f (ρ.set i (some (OD.put (.lst (xs++[.hole u])) p.2.1 p.1)))=some (z.1,ρ2)/\sj i (p.2.1++[xs.length]) j u ρ2 z.2
open Classical in
def gY(f:DEnv->Option (Fl × DEnv))(ρ:DEnv)(i:Nat)(p:OD × List Nat × OD)(j:Nat):Option (Fl × DEnv):=(vC p.2.2).bind fun xs=>if h:xs.length < 1000000/\j≠i/\(ρ[j]?.join).isSome/\∃z,AliOk f ρ i p xs j z then some (Classical.choose h.2.2.2) else none
theorem kI{f:DEnv->Option (Fl × DEnv)}{ρ:DEnv}{i j:Nat}{p:OD × List Nat × OD}{z:Fl × DEnv}(h:gY f ρ i p j=some z):∃xs,p.2.2=.lst xs/\xs.length < 1000000/\j≠i/\(∃y,ρ[j]?.join=some y)/\AliOk f ρ i p xs j z:=by
 obtain⟨xs,ex,h⟩:=bnd h
 by_cases hh:xs.length < 1000000/\j≠i/\(ρ[j]?.join).isSome/\∃z,AliOk f ρ i p xs j z
 ·rw[dif_pos hh]at h
  cases h
  exact⟨xs,fP ex,hh.1,hh.2.1,aa6.mp hh.2.2.1,acg hh.2.2.2⟩
 ·rw[dif_neg hh]at h;cases h
theorem pV{f:DEnv->Option (Fl × DEnv)}{ρ:DEnv}{i j:Nat}{p:OD × List Nat × OD}{xs:List OD}{y:OD}{z:Fl × DEnv}(ex:p.2.2=.lst xs)(hz:xs.length < 1000000)(hj:j≠i)(hy:ρ[j]?.join=some y)(h:AliOk f ρ i p xs j z):gY f ρ i p j=some z:=by
 have hh:xs.length < 1000000/\j≠i/\(ρ[j]?.join).isSome/\∃z,AliOk f ρ i p xs j z:=⟨hz,hj,by rw[hy];rfl,z,h⟩
 have e0:gY f ρ i p j=some (Classical.choose hh.2.2.2):=by
  unfold gY
  rw[ex]
  exact dif_pos hh
 rw[e0]
 have h':=acg hh.2.2.2
 generalize Classical.choose hh.2.2.2=z' at h'
 obtain⟨ρ2,a1,x1,y1,b1,b2,b3,b4,b5⟩:=h .non
 obtain⟨ρ3,a2,x2,y2,c1,c2,c3,c4,c5⟩:=h' .non
 rw[a1]at a2
 injection a2 with a2
 injection a2 with a2 a3
 subst a3
 rw[b1]at c1
 rw[b3]at c3
 cases c1
 cases c3
 obtain⟨z1,z2⟩:=z
 obtain⟨w1,w2⟩:=z'
 simp only at *
 rw[b5,c5,a2]
mutual
def cI:S'->DEnv->Option (Fl × DEnv)
 | .ex e,ρ=>(ev C e ρ).bind fun x=>some (.nx,x.2)
 | .set i e,ρ=>(ev C e ρ).bind fun x=>(own1 x.2 x.1).bind fun z=>(gd (i < z.2.length)).bind fun _=>some (.nx,z.2.set i (some z.1))
 | .asg t e,ρ=>(ev C e ρ).bind fun x=>(own1 x.2 x.1).bind fun z=>(bb t z.1 z.2).bind fun ρ1=>some (.nx,ρ1)
 | .par is es,ρ=>(evs C es ρ).bind fun x=>(mapR own1 x.2 x.1).bind fun z=>(gd (z.1.length=is.length/\∀i∈is,i < z.2.length)).bind fun _=>some (.nx,dq is z.1 z.2)
 | .aug i o e,ρ=>(ρ[i]?.join).bind fun x0=>(ql x0).bind fun d0=>(eP d0).bind fun a=>(ev C e ρ).bind fun x=>(au x.2 x.1).bind fun d=>(kH o a d).bind fun r=>some (.nx,x.2.set i (some (.fz (.int r))))
 | .ret e,ρ=>(ev C e ρ).bind fun x=>(mv1 x.2 x.1).bind fun z=>some (.rt z.1,z.2)
 | .iff c a b,ρ=>(aZ C c ρ).bind fun x=>if x.1=true then aN a x.2 else aN b x.2
 | .fr t it b,ρ=>(lC C it ρ).bind fun x=>bj (fun d ρ'=>(bb t (.fz d) ρ').bind fun ρ1=>aN b ρ1) x.1 x.2
 | .cont,ρ=>some (.ct,ρ)
 | .app i e,ρ=>(ρ[i]?.join).bind fun x0=>(vC x0).bind fun _=>(ev C e ρ).bind fun x=>(own1 x.2 x.1).bind fun z=>(z.2[i]?.join).bind fun x1=>(vC x1).bind fun xs=>(gd (xs.length < 1000000)).bind fun _=>some (.nx,z.2.set i (some (.lst (xs++[z.1]))))
 | .apd i ps e,ρ=>(ao ρ i ps).bind fun p=>(jC C e ρ).bind fun d=>(vC p.2.2).bind fun xs=>(gd (xs.length < 1000000)).bind fun _=>some (.nx,ρ.set i (some (OD.put (.lst (xs++[.fz d])) p.2.1 p.1)))
 | .sti i k e,ρ=>(ev C e ρ).bind fun x=>(own1 x.2 x.1).bind fun z=>(z.2[i]?.join).bind fun x0=>(vC x0).bind fun _=>(ev C k z.2).bind fun q=>(au q.2 q.1).bind fun d=>(eP d).bind fun k=>(q.2[i]?.join).bind fun x1=>(vC x1).bind fun xs=>(ixN xs.length k).bind fun j=>some (.nx,q.2.set i (some (.lst (xs.set j z.1))))
 | .std i ps j e,ρ=>(ev C e ρ).bind fun x=>(frz1 x.2 x.1).bind fun z=>(ao z.2 i ps).bind fun p=>(z.2[j]?.join).bind fun x0=>(ql x0).bind fun kd=>(keyOf kd).bind fun kk=>(Dj p.2.2).bind fun u=>(gd (u.2.length < 1000000)).bind fun _=>some (.nx,z.2.set i (some (OD.put (.dic (cM kk z.1 u.1 u.2).1 (cM kk z.1 u.1 u.2).2) p.2.1 p.1)))
 | .sdz i _ _ it,ρ=>(lC C it ρ).bind fun x=>(gd (x.1.isEmpty=true)).bind fun _=>(gd (i < x.2.length)).bind fun _=>some (.nx,x.2.set i (some (.dic [] [])))
 | .stf i c f e,ρ=>(ev C e ρ).bind fun x=>(own1 x.2 x.1).bind fun z=>(z.2[i]?.join).bind fun x0=>(BD x0).bind fun u=>(gd (u.1=c/\u.2.2.length < 1000)).bind fun _=>some (.nx,z.2.set i (some (.obj u.1 (bf f z.1 u.2.1 u.2.2).1 (bf f z.1 u.2.1 u.2.2).2)))
 | .agf i c f o e,ρ=>(ao ρ i [.fld c f]).bind fun p=>(ql p.2.2).bind fun d0=>(eP d0).bind fun a=>(ev C e ρ).bind fun x=>(au x.2 x.1).bind fun d=>(kH o a d).bind fun r=>(x.2[i]?.join).bind fun x0=>(BD x0).bind fun u=>(gd (u.1=c/\u.2.2.length < 1000)).bind fun _=>some (.nx,x.2.set i (some (.obj u.1 (bf f (.fz (.int r)) u.2.1 u.2.2).1 (bf f (.fz (.int r)) u.2.1 u.2.2).2)))
def aN:Ss->DEnv->Option (Fl × DEnv)
 | .nil,ρ=>some (.nx,ρ)
 | .cons s ss,ρ=>(cI s ρ).bind fun x=>match x.1 with
  | .nx=>aN ss x.2
  | fl=>some (fl,x.2)
 | .ali i ps j ss,ρ=>(ao ρ i ps).bind fun p=>gY (aN ss) ρ i p j
end
def sk(fn:Fn)(xs:List OD):Option (OD × List OD):=(aN C fn.body (fN fn.n xs)).bind fun x=>match x.1 with
 | .nx=>(aQ 0 fn.io xs x.2).bind fun ys=>some (.fz .none,ys)
 | .rt o=>(aQ 0 fn.io xs x.2).bind fun ys=>some (o,ys)
 | _=>none
end
structure Pg where
 F:Nat->Option Fn
 gv:Nat->PyData
 wf:Nat
def Pg.io(p:Pg)(f:Nat):List Bool:=match p.F f with | some fn=>fn.io | none=>[]
def Pg.both(p:Pg):Nat->(Nat->List OD->Option (OD × List OD)) × (Nat->List OD->Option (OD × List OD))
 | 0=>(fun _ _=>none,fun _ _=>none)
 | n + 1=>(fun f xs=>match p.F f with
  | some fn=>if xs.length=fn.io.length then sk ⟨p.io,(Pg.both p n).1,(Pg.both p n).2,p.gv,p.wf⟩ fn xs else none
  | none=>none,(Pg.both p n).1)
def Pg.call(p:Pg)(n f:Nat)(xs:List OD):Option (OD × List OD):=(p.both n).1 f xs
def Pg.mak(p:Pg)(n f:Nat)(xs:List OD):Option (OD × List OD):=(p.both n).2 f xs
abbrev Pg.ct(p:Pg)(n:Nat):Ct:=⟨p.io,p.call n,p.mak n,p.gv,p.wf⟩
theorem Pg.call_succ(p:Pg)(n f:Nat)(xs:List OD):p.call (n + 1) f xs=match p.F f with
  | some fn=>if xs.length=fn.io.length then sk (p.ct n) fn xs else none
  | none=>none:=rfl
theorem Pg.mak_succ(p:Pg)(n f:Nat)(xs:List OD):p.mak (n + 1) f xs=p.call n f xs:=rfl
end
section
def aD(C:Ct)(m:E):DE:=fun ρ Q=>∃x,ev C m ρ=some x/\Q x.1 x.2
def gy(C:Ct)(m:E):DT:=fun ρ Q=>∃x,aZ C m ρ=some x/\Q x.1 x.2
def eK(C:Ct)(m:Es):DA:=fun ρ Q=>∃x,evs C m ρ=some x/\Q x.1 x.2
def sm(C:Ct)(m:Eo):DO:=fun ρ Q=>∃x,BG C m ρ=some x/\Q x.1 x.2
def gZ(C:Ct)(m:It'):DI:=fun ρ Q=>∃x,lC C m ρ=some x/\Q x.1 x.2
section
variable{X:Cx}{e:Expr}{es:List Expr}
theorem PDe.imp:PDe X e d->(∀ρ Q,d' ρ Q->d ρ Q)->PDe X e d'
 | ⟨te,h,s⟩,f=>⟨te,h,fun b F σ H ρ τ θ Qd Q hK R hd q=>s b F σ H ρ τ θ Qd Q hK R (f _ _ hd) q⟩
theorem PDt.imp:PDt X e d->(∀ρ Q,d' ρ Q->d ρ Q)->PDt X e d'
 | ⟨te,h,s⟩,f=>⟨te,h,fun b F σ H ρ τ θ Qd Q hK R hd q=>s b F σ H ρ τ θ Qd Q hK R (f _ _ hd) q⟩
theorem PDw.imp:PDw X e d->(∀ρ Q,d' ρ Q->d ρ Q)->PDw X e d'
 | ⟨te,h,s⟩,f=>⟨te,h,fun b F σ H ρ τ θ Qd Q hK R hd q=>s b F σ H ρ τ θ Qd Q hK R (f _ _ hd) q⟩
theorem PDa.imp:PDa X es d->(∀ρ Q,d' ρ Q->d ρ Q)->PDa X es d'
 | ⟨te,h,s⟩,f=>⟨te,h,fun b F σ H ρ τ θ Qd Q hK R hd q=>s b F σ H ρ τ θ Qd Q hK R (f _ _ hd) q⟩
theorem PDi.imp:PDi X tg e d->(∀ρ Q,d' ρ Q->d ρ Q)->PDi X tg e d'
 | ⟨te,h,s⟩,f=>⟨te,h,fun b F σ H ρ τ θ Qd Q hK R hd q=>s b F σ H ρ τ θ Qd Q hK R (f _ _ hd) q⟩
theorem PDo.imp:PDo X o d->(∀ρ Q,d' ρ Q->d ρ Q)->PDo X o d'
 | ⟨te,h,s⟩,f=>⟨te,h,fun b F σ H ρ τ θ Qd Q hK R hd q=>s b F σ H ρ τ θ Qd Q hK R (f _ _ hd) q⟩
theorem SndR2.or{K:WF}(h:SndR2 K r d)(h':SndR2 K r' d'):SndR2 K (fun x y H Q=>r x y H Q\/r' x y H Q) (fun x y Q=>d x y Q\/d' x y Q):=fun H v u dx dy Qd Q hv hu z q=>z.imp (fun z=>h H v u dx dy Qd Q hv hu z q) fun z=>h' H v u dx dy Qd Q hv hu z q
theorem SndR2.imp{K:WF}(h:SndR2 K r d)(f:∀x y Q,d' x y Q->d x y Q):SndR2 K r d':=fun H v u dx dy Qd Q hv hu z q=>h H v u dx dy Qd Q hv hu (f _ _ _ z) q
end
def opOf:Bo->Operator
 | .add=>.Add | .sub=>.Sub | .mul=>.Mult | .fdiv=>.FloorDiv | .mod=>.Mod | .pow=>.Pow
def coOf:Co->CmpOp
 | .lt=>.Lt | .le=>.LtE | .gt=>.Gt | .ge=>.GtE | .eq=>.Eq | .ne=>.NotEq | .inn=>.In | .nin=>.NotIn
def FN(o:Bo):DR2:=fun x y Q=>∃d,vE o x y=some d/\Q d
def FO(o:Co):DR2:=fun x y Q=>∃k,lZ o x y=some k/\Q (.bool k)
theorem dQ(h:vE o x y=some d):∃i j k,x=.int i/\y=.int j/\Ft o i j=some k/\d=.int k:=by
 obtain⟨i,e1,h⟩:=bnd h
 obtain⟨j,e2,h⟩:=bnd h
 obtain⟨k,e3,h⟩:=bnd h
 cases h
 exact⟨i,j,k,aK e1,aK e2,e3,rfl⟩
section
variable{X:Cx}
theorem BH(o:Bo):∃r2,OpR X (binaryOp (opOf o)) r2/\SndR2 X.K r2 (FN o):=by
 cases o with
 | add =>
  refine⟨_,yl,(rq fun i j=>.int _).imp fun x y Q hZ=>?_⟩
  obtain⟨d,h,q⟩:=hZ
  obtain⟨i,j,k,rfl,rfl,hk,rfl⟩:=dQ h
  cases hk;exact⟨i,j,rfl,rfl,q⟩
 | sub =>
  refine⟨_,ym,(rq fun i j=>.int _).imp fun x y Q hZ=>?_⟩
  obtain⟨d,h,q⟩:=hZ
  obtain⟨i,j,k,rfl,rfl,hk,rfl⟩:=dQ h
  cases hk;exact⟨i,j,rfl,rfl,q⟩
 | mul =>
  refine⟨_,yn,(uZ fun i j=>.int _).imp fun x y Q hZ=>?_⟩
  obtain⟨d,h,q⟩:=hZ
  obtain⟨i,j,k,rfl,rfl,hk,rfl⟩:=dQ h
  obtain⟨_,hc,hk⟩:=bnd hk
  cases hk
  have hc:=gd_ok hc
  exact⟨i,j,rfl,rfl,hc,q⟩
 | fdiv =>
  refine⟨_,uB,(uZ fun i j=>.int _).imp fun x y Q hZ=>?_⟩
  obtain⟨d,h,q⟩:=hZ
  obtain⟨i,j,k,rfl,rfl,hk,rfl⟩:=dQ h
  obtain⟨_,hc,hk⟩:=bnd hk
  cases hk
  have hc:=gd_ok hc
  exact⟨i,j,rfl,rfl,hc,q⟩
 | mod =>
  refine⟨_,yo,(uZ fun i j=>.int _).imp fun x y Q hZ=>?_⟩
  obtain⟨d,h,q⟩:=hZ
  obtain⟨i,j,k,rfl,rfl,hk,rfl⟩:=dQ h
  obtain⟨_,hc,hk⟩:=bnd hk
  cases hk
  have hc:=gd_ok hc
  exact⟨i,j,rfl,rfl,hc,q⟩
 | pow =>
  refine⟨_,yp,(uZ fun i j=>.int _).imp fun x y Q hZ=>?_⟩
  obtain⟨d,h,q⟩:=hZ
  obtain⟨i,j,k,rfl,rfl,hk,rfl⟩:=dQ h
  obtain⟨_,hc,hk⟩:=bnd hk
  cases hk
  have hc:=gd_ok hc
  exact⟨i,j,rfl,rfl,hc,q⟩
theorem ny(h:eqA x y=some k):pM x y=some k\/(SeqAt.shaped x=true/\SeqAt.shaped y=true/\k=PyData.eqv x y):=by
 unfold eqA at h
 cases e:pM x y with
 | some k'=>rw[e]at h;exact .inl h
 | none =>
  rw[e]at h
  simp only at h
  split at h
  ·rename_i hs
   cases h
   obtain⟨a,b⟩:=aby.mp hs
   exact .inr ⟨a,b,rfl⟩
  ·cases h
theorem nz(h:inA x y=some k):∃ds,(y=.list ds\/y=.tuple ds)/\As x=true/\memD x ds=some k:=by
 obtain⟨ds,e1,h⟩:=bnd h
 obtain⟨_,e2,h⟩:=bnd h
 exact⟨ds,jB e1,gd_ok e2,h⟩
theorem g6(hu:X.A.units + 64 < cLine)(o:Co):∃r2,OpR X (compareOp (coOf o)) r2/\SndR2 X.K r2 (FO o):=by
 have iis:∀{x y:PyData} {k:Bool} {g:Int->Int->Bool},((eP x).bind fun i=>(eP y).bind fun j=>some (g i j))=some k->∃i j,x=.int i/\y=.int j/\k=g i j:=by
  intro x y k g h
  obtain⟨i,e1,h⟩:=bnd h
  obtain⟨j,e2,h⟩:=bnd h
  cases h
  exact⟨i,j,aK e1,aK e2,rfl⟩
 cases o with
 | lt =>
  refine⟨_,AK,(u0 ).imp fun x y Q hZ=>?_⟩
  obtain⟨k,h,q⟩:=hZ
  obtain⟨i,j,rfl,rfl,rfl⟩:=iis h
  exact⟨i,j,rfl,rfl,q⟩
 | le =>
  refine⟨_,AL,(u0 ).imp fun x y Q hZ=>?_⟩
  obtain⟨k,h,q⟩:=hZ
  obtain⟨i,j,rfl,rfl,rfl⟩:=iis h
  exact⟨i,j,rfl,rfl,q⟩
 | gt =>
  refine⟨_,AM,(u0 ).imp fun x y Q hZ=>?_⟩
  obtain⟨k,h,q⟩:=hZ
  obtain⟨i,j,rfl,rfl,rfl⟩:=iis h
  exact⟨i,j,rfl,rfl,q⟩
 | ge =>
  refine⟨_,AN,(u0 ).imp fun x y Q hZ=>?_⟩
  obtain⟨k,h,q⟩:=hZ
  obtain⟨i,j,rfl,rfl,rfl⟩:=iis h
  exact⟨i,j,rfl,rfl,q⟩
 | eq =>
  refine⟨_,op_eq.or (yF hu),(sr_eq.or yQ).imp fun x y Q hZ=>?_⟩
  obtain⟨k,h,q⟩:=hZ
  rcases ny h with h | ⟨h1,h2,rfl⟩
  ·exact .inl ⟨k,h,q⟩
  ·exact .inr ⟨h1,h2,q⟩
 | ne =>
  refine⟨_,op_ne.or (yG hu),(sr_ne.or yR).imp fun x y Q hZ=>?_⟩
  obtain⟨k,h,q⟩:=hZ
  obtain⟨k',e,h⟩:=bnd h
  cases h
  rcases ny e with h | ⟨h1,h2,rfl⟩
  ·exact .inl ⟨k',h,q⟩
  ·exact .inr ⟨h1,h2,q⟩
 | inn =>
  refine⟨_,pj,(w9 ).imp fun x y Q hZ=>?_⟩
  obtain⟨k,h,q⟩:=hZ
  obtain⟨ds,h1,h2,h3⟩:=nz h
  exact⟨ds,k,h1,h2,h3,q⟩
 | nin =>
  refine⟨_,jl,(w9 ).imp fun x y Q hZ=>?_⟩
  obtain⟨k,h,q⟩:=hZ
  obtain⟨k',e,h⟩:=bnd h
  cases h
  obtain⟨ds,h1,h2,h3⟩:=nz e
  exact⟨ds,k',h1,h2,h3,q⟩
end
section
variable{X:Cx}{C:Ct}{a b c e:Expr}{es:List Expr}{ma mb mc:E}{mes:Es}{pos:Pos}
theorem BI(h1:PDe X a (aD C ma))(h2:PDe X b (aD C mb)):PDe X (.BinOp a (opOf o) b pos) (aD C (.bop o ma mb)):=by
 obtain⟨r2,ho,hr⟩:=BH o
 refine (Bd ho hr h1 h2).imp fun ρ Q hZ=>?_
 obtain⟨x,h,q⟩:=hZ
 obtain⟨xa,e1,h⟩:=bnd h
 obtain⟨xb,e2,h⟩:=bnd h
 obtain⟨dx,e3,h⟩:=bnd h
 obtain⟨dy,e4,h⟩:=bnd h
 obtain⟨d,e5,h⟩:=bnd h
 cases h
 exact⟨xa,e1,xb,e2,dx,dy,e3,e4,d,e5,q⟩
theorem BJ(hu:X.A.units + 64 < cLine)(hm:behindInMarks (coOf o) b=false)(h1:PDe X a (aD C ma))(h2:PDe X b (aD C mb)):PDe X (.Compare a [coOf o] [b] pos) (aD C (.cmp o ma mb)):=by
 obtain⟨r2,ho,hr⟩:=g6 hu o
 refine (yP ho hr hm h1 h2).imp fun ρ Q hZ=>?_
 obtain⟨x,h,q⟩:=hZ
 obtain⟨xa,e1,h⟩:=bnd h
 obtain⟨xb,e2,h⟩:=bnd h
 obtain⟨dx,e3,h⟩:=bnd h
 obtain⟨dy,e4,h⟩:=bnd h
 obtain⟨d,e5,h⟩:=bnd h
 cases h
 exact⟨xa,e1,xb,e2,dx,dy,e3,e4,d,e5,q⟩
theorem BK(hu:X.A.units + 64 < cLine)(hm:behindInMarks (coOf o) b=false)(h1:PDe X a (aD C ma))(h2:PDe X b (aD C mb)):PDt X (.Compare a [coOf o] [b] pos) (gy C (.cmp o ma mb)):=by
 obtain⟨r2,ho,hr⟩:=g6 hu o
 refine (u9 ho hr hm h1 h2).imp fun ρ Q hZ=>?_
 obtain⟨x,h,q⟩:=hZ
 obtain⟨y,h,h'⟩:=bnd h
 obtain⟨xa,e1,h⟩:=bnd h
 obtain⟨xb,e2,h⟩:=bnd h
 obtain⟨dx,e3,h⟩:=bnd h
 obtain⟨dy,e4,h⟩:=bnd h
 obtain⟨d,e5,h⟩:=bnd h
 cases h
 cases h'
 exact⟨xa,e1,xb,e2,dx,dy,e3,e4,d,e5,d,rfl,q⟩
theorem zo(hu:X.A.units + 64 < cLine)(hm:lastMarks [coOf o,coOf o'] [b,c]=false)(h1:PDe X a (aD C ma))(h2:PDe X b (aD C mb))(h3:PDe X c (aD C mc)):PDe X (.Compare a [coOf o,coOf o'] [b,c] pos) (aD C (.cmp2 o o' ma mb mc)):=by
 obtain⟨r2,ho,hr⟩:=g6 hu o
 obtain⟨r2',ho',hr'⟩:=g6 hu o'
 refine (rA ho hr ho' hr' hm h1 h2 h3).imp fun ρ Q hZ=>?_
 obtain⟨x,h,q⟩:=hZ
 obtain⟨xa,e1,h⟩:=bnd h
 obtain⟨xb,e2,h⟩:=bnd h
 obtain⟨dx,e3,h⟩:=bnd h
 obtain⟨dy,e4,h⟩:=bnd h
 obtain⟨k,e5,h⟩:=bnd h
 refine⟨xa,e1,xb,e2,dx,dy,e3,e4,k,e5,k,rfl,?_⟩
 cases k with
 | false=>rw[if_neg aae]at h;cases h;rw[if_neg aae];exact q
 | true =>
  rw[if_pos rfl]at h ⊢
  obtain⟨xc,e6,h⟩:=bnd h
  obtain⟨dy',e7,h⟩:=bnd h
  obtain⟨dz,e8,h⟩:=bnd h
  obtain⟨k',e9,h⟩:=bnd h
  cases h
  exact⟨xc,e6,dy',dz,e7,e8,k',e9,q⟩
end
end
section
def isStar:Expr->Bool
 | .Starred _ _=>true
 | _=>false
theorem aA{e:Expr}{es:List Expr}{env:Env}(h:isStar e=false):starEach (e::es) env=(false,eval e env)::starEach es env:=by
 cases e<;>first | rfl | cases h
theorem bi{pos:Pos}{env:Env}:∀{es:List Expr},es.any isStar=false->(backTo pos (starEach es env)).any (·.1)=false
 | [],_=>rfl
 | e::es,h=>by
  rw[aaO,abQ]at h
  rw[aA h.1]
  show (false || (backTo pos (starEach es env)).any (·.1))=false
  rw[bi h.2];rfl
def plainT:Expr->Bool
 | .UnaryOp .Not _ _=>false
 | .BoolOp _ _ _=>false
 | .IfExp _ _ _ _=>false
 | .Compare _ _ _ _=>false
 | _=>true
theorem plainT_ok{e:Expr}{env:Env}(h:plainT e=true):∀whole,isTrue e env whole=(do let v <- whole;standAt e.pos;holding [v] (truthy v)):=by
 intro whole
 cases e with
 | UnaryOp op x p=>cases op<;>first | rfl | cases h
 | _=>first | rfl | cases h
section
variable{X:Cx}{C:Ct}{a b c e:Expr}{es:List Expr}{ma mb mc:E}{mes:Es}{pos p:Pos}{x:Str}{i:Nat}
theorem xg{ρ:DEnv}:ev C (.nm i) ρ=(match ρ[i]?.join with | some (.fz d)=>some (.val (.fz d),ρ) | some _=>some (.rf i,ρ) | none=>none):=rfl
theorem Ew (hN:X.N[i]?=some x) (hv:Vis X.env.scope x) (hd:(x == ("__debug__":Str))=false) (hcd:(x == ("__classdict__":Str))=false):PDe X (.Name x pos) (aD C (.nm i)):=by
 refine (yO hN hv hd hcd).imp fun ρ Q hZ=>?_
 obtain⟨y,h,q⟩:=hZ
 unfold dVar
 rw[xg]at h
 cases e:ρ[i]?.join with
 | none=>rw[e]at h;cases h
 | some z=>rw[e]at h;cases z<;>(simp only at h;cases h;exact q)
theorem BL{k:Int}{j pos}:PDe X (.Constant (.int k) j pos) (aD C (.int k)):=pd_int.imp fun ρ Q ⟨y,h,q⟩=>by cases h;exact q
theorem BM{k:Str}{j pos}:PDe X (.Constant (.str k) j pos) (aD C (.str k)):=pd_str.imp fun ρ Q ⟨y,h,q⟩=>by cases h;exact q
theorem Ex{k:Bool}{j pos}:PDe X (.Constant (.bool k) j pos) (aD C (.bl k)):=pd_bl.imp fun ρ Q ⟨y,h,q⟩=>by cases h;exact q
theorem Ey {g:Nat} {v:V} {u:Value} (hg:Gl X x) (hm:X.mg x=some u) (r:RelV v u) (s:∀S H,Fz X.K S H v (C.gv g)) (hd:(x == ("__debug__":Str))=false):PDe X (.Name x pos) (aD C (.gc g)) :=
 (rp hg hm r s hd).imp fun ρ Q ⟨y,h,q⟩=>by cases h;exact q
theorem BN{neg:Bool}{j pos'}(h1:PDe X a (aD C ma)):PDe X (.Compare a [if neg then .IsNot else .Is] [.Constant .none j pos'] pos) (aD C (.isn neg ma)):=by
 have key:∀ρ Q,aD C (.isn neg ma) ρ Q->pN neg (aD C ma) ρ Q:=fun ρ Q ⟨y,h,q⟩=>by
  obtain⟨xa,e1,h⟩:=bnd h
  obtain⟨d,e2,h⟩:=bnd h
  cases h
  exact⟨xa,e1,d,e2,q⟩
 cases neg with
 | false=>exact (yT h1).imp key
 | true=>exact (u7 h1).imp key
theorem BO{neg:Bool}{j pos'}(h1:PDe X a (aD C ma)):PDt X (.Compare a [if neg then .IsNot else .Is] [.Constant .none j pos'] pos) (gy C (.isn neg ma)):=by
 have key:∀ρ Q,gy C (.isn neg ma) ρ Q->f9 (pN neg (aD C ma)) ρ Q:=fun ρ Q ⟨y,h,q⟩=>by
  obtain⟨z,h,h'⟩:=bnd h
  obtain⟨xa,e1,h⟩:=bnd h
  obtain⟨d,e2,h⟩:=bnd h
  cases h
  cases h'
  exact⟨xa,e1,d,e2,_,rfl,q⟩
 cases neg with
 | false=>exact (vc h1).imp key
 | true=>exact (rC h1).imp key
theorem v_and{es:List Expr}(h1:PDe X a (aD C ma))(h2:PDe X (.BoolOp .And (b::es) pos) (aD C mb)):PDe X (.BoolOp .And (a::b::es) pos) (aD C (.and ma mb)):=by
 refine (yV h1 h2).imp fun ρ Q hZ=>?_
 obtain⟨y,h,q⟩:=hZ
 obtain⟨xa,e1,h⟩:=bnd h
 obtain⟨d,e2,h⟩:=bnd h
 obtain⟨k,e3,h⟩:=bnd h
 rw[l4 e3]at e2
 refine⟨xa,e1,k,e2,?_⟩
 cases k with
 | false=>rw[if_neg aae]at h ⊢;cases h;exact q
 | true=>rw[if_pos rfl]at h ⊢;exact⟨y,h,q⟩
theorem v_or{es:List Expr}(h1:PDe X a (aD C ma))(h2:PDe X (.BoolOp .Or (b::es) pos) (aD C mb)):PDe X (.BoolOp .Or (a::b::es) pos) (aD C (.or ma mb)):=by
 refine (Bh h1 h2).imp fun ρ Q hZ=>?_
 obtain⟨y,h,q⟩:=hZ
 obtain⟨xa,e1,h⟩:=bnd h
 obtain⟨d,e2,h⟩:=bnd h
 obtain⟨k,e3,h⟩:=bnd h
 rw[l4 e3]at e2
 refine⟨xa,e1,k,e2,?_⟩
 cases k with
 | false=>rw[if_neg aae]at h ⊢;exact⟨y,h,q⟩
 | true=>rw[if_pos rfl]at h ⊢;cases h;exact q
theorem v_not(h1:PDe X a (aD C ma)):PDe X (.UnaryOp .Not a pos) (aD C (.not ma)):=by
 refine (yW h1).imp fun ρ Q hZ=>?_
 obtain⟨y,h,q⟩:=hZ
 obtain⟨xa,e1,h⟩:=bnd h
 obtain⟨d,e2,h⟩:=bnd h
 obtain⟨k,e3,h⟩:=bnd h
 cases h
 exact⟨xa,e1,k,by rw[e2,l4 e3],q⟩
theorem BP(h1:PDe X a (aD C ma)):PDe X (.UnaryOp .USub a pos) (aD C (.neg ma)):=by
 refine (yU h1).imp fun ρ Q hZ=>?_
 obtain⟨y,h,q⟩:=hZ
 obtain⟨xa,e1,h⟩:=bnd h
 obtain⟨d,e2,h⟩:=bnd h
 obtain⟨k,e3,h⟩:=bnd h
 cases h
 exact⟨xa,e1,d,e2,k,aK e3,q⟩
theorem BQ{es:List Expr}(h1:PDt X a (gy C ma))(h2:PDw X (.BoolOp .And (b::es) pos) (gy C mb)):PDw X (.BoolOp .And (a::b::es) pos) (gy C (.and ma mb)):=by
 refine (ve h1 h2).imp fun ρ Q hZ=>?_
 obtain⟨y,h,q⟩:=hZ
 obtain⟨xa,e1,h⟩:=bnd h
 refine⟨xa,e1,?_⟩
 split at h
 ·rename_i k;rw[if_pos k];exact⟨y,h,q⟩
 ·rename_i k;rw[if_neg k];cases h;exact q
theorem Ez{es:List Expr}(h1:PDt X a (gy C ma))(h2:PDw X (.BoolOp .Or (b::es) pos) (gy C mb)):PDw X (.BoolOp .Or (a::b::es) pos) (gy C (.or ma mb)):=by
 refine (yX h1 h2).imp fun ρ Q hZ=>?_
 obtain⟨y,h,q⟩:=hZ
 obtain⟨xa,e1,h⟩:=bnd h
 refine⟨xa,e1,?_⟩
 split at h
 ·rename_i k;rw[if_pos k];cases h;exact q
 ·rename_i k;rw[if_neg k];exact⟨y,h,q⟩
theorem BR(h1:PDt X a (gy C ma)):PDt X (.UnaryOp .Not a pos) (gy C (.not ma)):=by
 refine (vf h1).imp fun ρ Q hZ=>?_
 obtain⟨y,h,q⟩:=hZ
 obtain⟨xa,e1,h⟩:=bnd h
 cases h
 exact⟨xa,e1,q⟩
theorem BS(h0:PDt X c (gy C mc))(h1:PDe X a (aD C ma))(h2:PDe X b (aD C mb)):PDe X (.IfExp c a b pos) (aD C (.ife mc ma mb)):=by
 refine (Bk h0 h1 h2).imp fun ρ Q hZ=>?_
 obtain⟨y,h,q⟩:=hZ
 obtain⟨xa,e1,h⟩:=bnd h
 refine⟨xa,e1,?_⟩
 split at h
 ·rename_i k;rw[if_pos k];exact⟨y,h,q⟩
 ·rename_i k;rw[if_neg k];exact⟨y,h,q⟩
theorem nF{d:PyData}{k:Bool}{H:Hp}{v:V}(h:Dt X.K H v d)(e:jz d=some k):yr X.K v H k:=by
 cases h with
 | non=>cases e;rfl
 | bl b=>cases e;rfl
 | int i=>cases e;rfl
 | str x=>simp[jz]at e
 | lst s t=>cases e;exact .inl ⟨_,s,by rw[DtAll.emp t]⟩
 | tup s t=>cases e;exact .inr (.inl ⟨_,s,by rw[DtAll.emp t]⟩)
theorem BU{m:E}(hm:aZ C m=(vt (ev C m)).2)(he:plainT e=true):PDe X e (aD C m)->PDt X e (gy C m)
 | ⟨te,h1,s1⟩=>⟨_,kf h1 (plainT_ok he),fun b F σ H ρ τ θ Qd Q hK R ⟨y,h,q⟩ k=>by
  have h':((ev C m ρ).bind fun x=>(au x.2 x.1).bind fun d=>(jz d).bind fun k=>some (k,x.2))=some y:=by rw[<- h,hm];rfl
  obtain⟨z,e1,h'⟩:=bnd h'
  obtain⟨d,e2,h'⟩:=bnd h'
  obtain⟨t,e3,h'⟩:=bnd h'
  cases h'
  refine s1 b F σ H ρ τ θ (fun r ρ'=>r=z.1/\ρ'=z.2) _ hK R ⟨z,e1,rfl,rfl⟩ fun v H' r ρ' R' hZ=>?_
  obtain⟨h1,h2⟩:=hZ
  subst h1 h2
  have hd:=R'.dt e2
  rw[hK]at hd
  exact⟨t,nF hd e3,k _ _ _ R'.drop q⟩⟩
theorem fQ:PDa X [] (eK C .nil):=pda_nil.imp fun ρ Q ⟨y,h,q⟩=>by cases h;exact q
theorem cN(hs:isStar e=false)(h1:PDe X e (aD C ma))(h2:PDa X es (eK C mes)):PDa X (e::es) (eK C (.cons ma mes)):=by
 refine (rE (aA hs) h1 h2).imp fun ρ Q hZ=>?_
 obtain⟨y,h,q⟩:=hZ
 obtain⟨xa,e1,h⟩:=bnd h
 obtain⟨xb,e2,h⟩:=bnd h
 cases h
 exact⟨xa,e1,xb,e2,q⟩
theorem BV{x1}(h1:PDa X es (eK C mes)):PDe X (.Tuple es x1 pos) (aD C (.tup mes)):=by
 refine (yY Bp h1).imp fun ρ Q hZ=>?_
 obtain⟨y,h,q⟩:=hZ
 obtain⟨xa,e1,h⟩:=bnd h
 obtain⟨z,e2,h⟩:=bnd h
 obtain⟨_,k,h⟩:=bnd h
 cases h
 exact⟨xa,e1,z.1,z.2,e2,gd_ok k,q⟩
theorem BW(h1:PDa X es (eK C mes)):PDe X (.List es pos) (aD C (.lst mes)):=by
 refine (yZ Bp h1).imp fun ρ Q hZ=>?_
 obtain⟨y,h,q⟩:=hZ
 obtain⟨xa,e1,h⟩:=bnd h
 obtain⟨z,e2,h⟩:=bnd h
 obtain⟨_,k,h⟩:=bnd h
 cases h
 exact⟨xa,e1,z.1,z.2,e2,gd_ok k,q⟩
def bw:Expr->Bool
 | .Slice _ _ _ _=>true
 | _=>false
theorem jD{b:Expr}(h:bw b=false):PlainIx b:=fun o i=>by cases b<;>first | rfl | cases h
theorem EA(hs:bw b=false)(h1:PDe X a (aD C ma))(h2:PDe X b (aD C mb)):PDe X (.Subscript a b pos) (aD C (.ix ma mb)):=by
 refine (Bq (jD hs) h1 h2).imp fun ρ Q hZ=>?_
 obtain⟨y,h,q⟩:=hZ
 obtain⟨xa,e1,h⟩:=bnd h
 obtain⟨xb,e2,h⟩:=bnd h
 obtain⟨d,e3,h⟩:=bnd h
 obtain⟨k,e5,h⟩:=bnd h
 obtain⟨z,e4,h⟩:=bnd h
 cases h
 exact⟨xa,e1,xb,e2,k,z.1,z.2,by rw[e3,aK e5],e4,q⟩
theorem vG:PDo X none (sm C .none):=pdo_none.imp fun ρ Q ⟨y,h,q⟩=>by cases h;exact q
theorem vH(h1:PDe X e (aD C ma)):PDo X (some e) (sm C (.some ma)):=by
 refine (rJ h1).imp fun ρ Q hZ=>?_
 obtain⟨y,h,q⟩:=hZ
 obtain⟨xa,e1,h⟩:=bnd h
 obtain⟨d,e2,h⟩:=bnd h
 obtain⟨k,e3,h⟩:=bnd h
 cases h
 exact⟨xa,e1,k,by rw[e2,aK e3],q⟩
theorem BX{lo hi:Option Expr}{ml mh:Eo}{p2:Pos}(h1:PDe X e (aD C ma))(h2:PDo X lo (sm C ml))(h3:PDo X hi (sm C mh)):PDe X (.Subscript e (.Slice lo hi none p2) pos) (aD C (.sll ma ml mh)):=by
 refine (y6 h1 h2 h3).imp fun ρ Q hZ=>?_
 obtain⟨y,h,q⟩:=hZ
 obtain⟨xa,e1,h⟩:=bnd h
 obtain⟨l,e2,h⟩:=bnd h
 obtain⟨u,e3,h⟩:=bnd h
 obtain⟨ds,e4,h⟩:=bnd h
 cases h
 exact⟨xa,e1,l,e2,u,e3,ds,e4,q⟩
theorem BY(h1:PDe X a (aD C ma))(h2:PDe X b (aD C mb)):PDe X (.BinOp a .Add b pos) (aD C (.cat ma mb)):=by
 refine (y4 h1 h2).imp fun ρ Q hZ=>?_
 obtain⟨y,h,q⟩:=hZ
 obtain⟨xa,e1,h⟩:=bnd h
 obtain⟨xb,e2,h⟩:=bnd h
 obtain⟨dx,e3,h⟩:=bnd h
 obtain⟨dy,e4,h⟩:=bnd h
 obtain⟨_,k,h⟩:=bnd h
 cases h
 exact⟨xa,e1,xb,e2,dx,dy,e3,e4,gd_ok k,q⟩
theorem zp {f:Nat} {k:Nat} {fa:Addr} {fd:FuncData} {ps:List Str} (G:FnD X.prog X.w X.K X.mg X.base k fa fd ps (fun xs Q=>∃w,C.call f xs=some w/\Q w.1 w.2)) (hr:Room k X.A) (hg:Gl X x) (hm:X.mg x=some (.ref fa)) (hk:PySem.W.keepIn X.K (.ref fa)=true) (hb:Binds X.K fd ps []) (hdb:(x == ("__debug__":Str))=false)
  (he:isStar e=false) (hes:es.any isStar=false) (h1:PDa X (e::es) (eK C mes)):PDe X (.Call (.Name x p) (e::es) [] pos) (aD C (.call f mes)):=by
 refine (vB (ios:=C.io f) G hr hg hm hk hb hdb (aA he) (bi hes) h1).imp fun ρ Q hZ=>?_
 obtain⟨y,h,q⟩:=hZ
 obtain⟨xa,e1,h⟩:=bnd h
 obtain⟨z,e2,h⟩:=bnd h
 obtain⟨w,e3,h⟩:=bnd h
 cases h
 exact⟨xa,e1,z.1,z.2,e2,w,e3,q⟩
theorem vI {f:Nat} {k:Nat} {fa:Addr} {fd:FuncData} {ps:List Str} (G:FnD X.prog X.w X.K X.mg X.base k fa fd ps (fun xs Q=>∃w,C.call f xs=some w/\Q w.1 w.2)) (hr:Room k X.A) (hg:Gl X x) (hm:X.mg x=some (.ref fa)) (hk:PySem.W.keepIn X.K (.ref fa)=true) (hb:Binds X.K fd ps []) (hdb:(x == ("__debug__":Str))=false)
  (he:isStar e=false) (hes:es.any isStar=false) (h1:PDa X (e::es) (eK C mes)):PDe X (.Call (.Name x p) (e::es) [] pos) (aD C (.callS f mes)):=by
 refine (se G hr hg hm hk hb hdb (aA he) (bi hes) h1).imp fun ρ Q hZ=>?_
 obtain⟨y,h,q⟩:=hZ
 obtain⟨xa,e1,h⟩:=bnd h
 obtain⟨ds,e2,h⟩:=bnd h
 obtain⟨w,e3,h⟩:=bnd h
 obtain⟨d,e4,h⟩:=bnd h
 obtain⟨_,e5,h⟩:=bnd h
 cases h
 exact⟨xa,e1,ds,e2,w,e3,d,cL e4,gd_ok e5,q⟩
theorem zq:PDe X (.Dict [] [] pos) (aD C .dnew):=⟨_,rg,fun b F σ H ρ τ θ Qd Q hK R ⟨y,h,q⟩ k=>fun p hp=>by cases h;exact k _ _ _ _ (R.push (R.wd.newDic hp)) q⟩
end
end
section
def Fu(T:String):PyData->Bool
 | .bool _=>T == "bool" || T == "int"
 | .int _=>T == "int"
 | .str _=>T == "str"
 | .list _=>T == "list"
 | .tuple _=>T == "tuple"
 | _=>false
inductive KindT:String->Prop
 | int:KindT "int" | bool:KindT "bool" | str:KindT "str" | list:KindT "list" | tuple:KindT "tuple"
theorem Dt.kind{K:WF}{H:Hp}{v:V}{d:PyData}{T:String}(h:Dt K H v d)(k:KindT T):∃n,Ty K H v n/\PySem.W.kitOne K (.type n) (.type T)=some (Fu T d):=by
 cases h with
 | non=>exact⟨_,.non,by cases k<;>first | exact kit_ni K | exact kit_nb K | exact kit_ns K | exact kit_nl K | exact kit_nt K⟩
 | bl b=>exact⟨_,.bl b,by cases k<;>first | exact kit_bi K | exact kit_same K _ | exact kit_bs K | exact kit_bl K | exact kit_bt K⟩
 | int i=>exact⟨_,.int i,by cases k<;>first | exact kit_same K _ | exact kit_ib K | exact kit_is K | exact kit_il K | exact kit_it K⟩
 | str x=>exact⟨_,.str x,by cases k<;>first | exact kit_same K _ | exact kit_si K | exact kit_sb K | exact kit_sl K | exact kit_st K⟩
 | lst s t=>exact⟨_,.lst s,by cases k<;>first | exact kit_same K _ | exact kit_li K | exact kit_lb K | exact kit_ls K | exact kit_lt K⟩
 | tup s t=>exact⟨_,.tup s,by cases k<;>first | exact kit_same K _ | exact kit_ti K | exact kit_tb K | exact kit_ts K | exact kit_tl K⟩
def FP(f:Bl):DRn:=fun ds Q=>∃d,vF f ds=some d/\Q d
theorem SndCB.imp{K:WF}{r2:List V->Hp->VK->Prop}{r r':DRn}(h:SndCB K r2 r)(f:∀ds Q,r' ds Q->r ds Q):SndCB K r2 r':=fun H vs ds Qd Q hv z q=>h H vs ds Qd Q hv (f _ _ z) q
theorem DtAll.ints'{K:WF}{H:Hp}{vs:List V}{ns:List Int}(h:DtAll K H vs (ns.map PyData.int)):vs=ns.map V.int:=by
 induction ns generalizing vs with
 | nil=>cases h;rfl
 | cons n ns ih=>cases h with | cons r t=>cases r;rw[aal,ih t]
section
variable{X:Cx}{K:WF}
theorem kJ{ns:List Int}:∀{n:Nat},n≤ns.length->preSum (fun i=>(ns[i]?).getD 0) n=(ns.take n).sum
 | 0,_=>rfl
 | n + 1,h=>by
  have e:ns[n]?=some ns[n]:=aar (by omega)
  have e2:ns.take (n + 1)=ns.take n++[ns[n]]:=by rw[List.take_succ,e];rfl
  rw[preSum,kJ (n:=n) (by omega),e2,List.sum_append,e]
  simp
theorem sum_bound{ns:List Int}(h:∀n∈ns,qm n=true):∀{n:Nat},n≤ns.length->-(1000000000000 * (n:Int))≤preSum (fun i=>(ns[i]?).getD 0) n/\preSum (fun i=>(ns[i]?).getD 0) n≤1000000000000 * (n:Int)
 | 0,_=>by simp[preSum]
 | n + 1,hn=>by
  have ih:=sum_bound h (n:=n) (by omega)
  have e:ns[n]?=some ns[n]:=aar (by omega)
  have hb:=h ns[n] (abR _)
  unfold qm at hb
  rw[aaB,decide_eq_true_eq,decide_eq_true_eq]at hb
  rw[preSum,e]
  simp only[abw]
  omega
theorem pW(hc:X.calm=true):bN X (.builtin "sum") (fun xs H Q=>∃(p:Addr) (ns:List Int),xs=[.ref p]/\SqT X.K H p (ns.map V.int)/\(∀n∈ns,qm n=true)/\ns.length≤1000000/\Q (.int ns.sum) H):=by
 intro pins s σ H xs us Q I r h
 obtain⟨p,ns,rfl,hq,hs,hl,q⟩:=h
 obtain⟨u,rfl,rx⟩:=vals1 r
 cases rx
 obtain⟨its,r',pl,hz⟩:=I.tuple hq
 obtain⟨m,F⟩:=I.fr
 have pt:s.heap.IsTuple p its.toArray:=pl
 have hlt:p < s.heap.objs.size:=by obtain⟨_,e,_⟩:=pl;exact Heap.lt_size e
 have hlen:its.length=ns.length:=by have:=r'.length;simpa using this.symm
 refine call_sum_walk (wpAny_pyIter_tuple pt ?_)
 refine⟨s.heap.objs.size,[s.heap.objs.size,p],[s.heap.objs.size],its.toArray.size,_,_,fun i=>(ns[i]?).getD 0,rfl,Walks.tuple (A:=X.A.in1) (I.ok.hd hc) _ p (aao hlt) its.toArray,
  ⟨⟨_,Heap.get?_push_size _ rfl,rfl,rfl⟩,pt.push _⟩,fun b hb=>?_,fun i v hP=>?_,fun j hj=>?_,fun h' tk t' hk=>?_⟩
 ·simp at hb
  rcases hb with rfl | rfl
  ·simp[Heap.push]
  ·simp[Heap.push];exact abd hlt
 ·have hP':its[i]?=some v:=by simpa using hP
  have hi:i < ns.length:=by rw[<- hlen];exact (aas.mp hP').1
  have e3:ns[i]?=some ns[i]:=aar hi
  obtain⟨u,e1,e2⟩:=Vals.get (i:=i) (x:=.int ns[i]) r' (by rw[aau,e3];rfl)
  rw[hP']at e1
  cases e1
  obtain⟨tk,rfl⟩:=e2
  simp only[e3,abw]
  exact⟨tk,rfl⟩
 ·rw[aaw,hlen]at hj
  have b1:=sum_bound hs (n:=j + 1) hj
  have e:ns[j]?=some ns[j]:=aar hj
  have hb:=hs ns[j] (abR _)
  unfold qm at hb
  rw[aaB,decide_eq_true_eq,decide_eq_true_eq]at hb
  refine⟨?_,?_⟩
  ·simp only[e,abw];unfold InLong;omega
  ·unfold InLong;omega
 ·have e:preSum (fun i=>(ns[i]?).getD 0) its.toArray.size=ns.sum:=by
   rw[aaw,hlen,kJ (aaf _),abS]
  rw[e]
  exact⟨.int ns.sum,H,I.kept (LSm.kept_iter hk),⟨_,rfl⟩,q⟩
theorem pX(hc:X.calm=true):bN X (.builtin "max") (fun xs H Q=>∃i j k,xs=[.int i,.int j,.int k]/\Q (.int (if j > i then (if k > j then k else j) else if k > i then k else i)) H):=by
 intro pins s σ H xs us Q I r h
 obtain⟨i,j,k,rfl,q⟩:=h
 cases r with
 | cons r1 r2 =>
  cases r2 with
  | cons r3 r4 =>
   cases r4 with
   | cons r5 r6 =>
    cases r6
    obtain⟨t,rfl⟩:=r1
    obtain⟨t',rfl⟩:=r3
    obtain⟨t'',rfl⟩:=r5
    refine max_three_ints (I.ok.hd hc) fun h' tk k'=>⟨_,H,I.kept k',?_,q⟩
    split<;>split<;>exact⟨_,rfl⟩
theorem zr:bootBuiltins "sum"=some (.builtin "sum"):=by decide +kernel
theorem iV:∀{ds:List PyData} {ns:List Int},nv ds=some ns->ds=ns.map PyData.int
 | [],_,h=>by cases h;rfl
 | d::ds,ns,h=>by
  obtain⟨i,e1,h⟩:=bnd h
  obtain⟨r,e2,h⟩:=bnd h
  cases h
  rw[aK e1,iV e2,aal]
theorem sc_sumT:SndCB K (fun xs H Q=>∃(p:Addr) (ns:List Int),xs=[.ref p]/\SqT K H p (ns.map V.int)/\(∀n∈ns,qm n=true)/\ns.length≤1000000/\Q (.int ns.sum) H) (fun ds Q=>∃es ns,ds=[.tuple es]/\nv es=some ns/\(∀n∈ns,qm n=true)/\ns.length≤1000000/\Q (.int ns.sum)):=by
 rintro H vs ds Qd Q hv ⟨es,ns,rfl,e,h1,h2,hq⟩ q
 have:=iV e
 subst this
 cases hv with
 | cons h t =>
  cases t
  cases h with
  | tup s t=>rw[DtAll.ints' t]at s;exact⟨_,ns,rfl,s,h1,h2,q _ _ (.int _) hq⟩
theorem sc_max3:SndCB K (fun xs H Q=>∃i j k,xs=[.int i,.int j,.int k]/\Q (.int (if j > i then (if k > j then k else j) else if k > i then k else i)) H) (fun ds Q=>∃i j k,ds=[.int i,.int j,.int k]/\Q (.int (if j > i then (if k > j then k else j) else if k > i then k else i))):=by
 rintro H vs ds Qd Q hv ⟨i,j,k,rfl,hq⟩ q
 cases hv with | cons h t=>cases t with | cons h' t=>cases t with | cons h'' t=>cases t;cases h;cases h';cases h'';exact⟨i,j,k,rfl,q _ _ (.int _) hq⟩
end
def zt:Bl->Str
 | .mx3=>"max" | .smt=>"sum" | .len=>"len" | .abs=>"abs" | .max=>"max" | .min=>"min" | .int=>"int" | .all=>"all"
section
variable{X:Cx}{C:Ct}{a b c e:Expr}{es:List Expr}{ma mb mc:E}{mes:Es}{pos p p1 p2 p3:Pos}{x:Str}{i:Nat}
theorem BZ{f:Bl}(hc:X.calm=true)(hg:Gl X (zt f))(hm:X.mg (zt f)=none)(he:isStar e=false)(hes:es.any isStar=false)(h1:PDa X (e::es) (eK C mes)):PDe X (.Call (.Name (zt f) p) (e::es) [] pos) (aD C (.blt f mes)):=by
 have fin:PDe X (.Call (.Name (zt f) p) (e::es) [] pos) (Dh (FP f) (eK C mes))->PDe X (.Call (.Name (zt f) p) (e::es) [] pos) (aD C (.blt f mes)):=fun h=>h.imp fun ρ Q ⟨y,h,q⟩=>by
  obtain⟨xa,e1,h⟩:=bnd h
  obtain⟨ds,e2,h⟩:=bnd h
  obtain⟨d,e3,h⟩:=bnd h
  cases h
  exact⟨xa,e1,ds,e2,d,e3,q⟩
 refine fin ?_
 cases f with
 | smt =>
  refine bT (pW hc) (sc_sumT.imp fun ds Q hZ=>?_) hg hm zr (by decide) (by decide) (aA he) (bi hes) h1
  obtain⟨d,h,q⟩:=hZ
  obtain⟨z,f1,h⟩:=bnd h
  obtain⟨es,f2,h⟩:=bnd h
  obtain⟨ns,e1,h⟩:=bnd h
  obtain⟨_,hc,h⟩:=bnd h
  cases h
  have hc:=gd_ok hc
  exact⟨es,ns,by rw[one1_ok f1,zk f2],e1,aaU.mp hc.1,hc.2,q⟩
 | mx3 =>
  refine bT (pX hc) (sc_max3.imp fun ds Q hZ=>?_) hg hm qY (by decide) (by decide) (aA he) (bi hes) h1
  obtain⟨d,h,q⟩:=hZ
  obtain⟨z,f1,h⟩:=bnd h
  obtain⟨i,e1,h⟩:=bnd h
  obtain⟨j,e2,h⟩:=bnd h
  obtain⟨k,e3,h⟩:=bnd h
  cases h
  exact⟨i,j,k,by rw[thr3_ok f1,aK e1,aK e2,aK e3],q⟩
 | len =>
  refine bT kg (sc_len.imp fun ds Q hZ=>?_) hg hm qX (by decide) (by decide) (aA he) (bi hes) h1
  obtain⟨d,h,q⟩:=hZ
  obtain⟨z,f1,h⟩:=bnd h
  obtain⟨n,e1,h⟩:=bnd h
  cases h
  exact⟨z,n,one1_ok f1,e1,q⟩
 | abs =>
  refine bT qD (sc_abs.imp fun ds Q hZ=>?_) hg hm yH (by decide) (by decide) (aA he) (bi hes) h1
  obtain⟨d,h,q⟩:=hZ
  obtain⟨z,f1,h⟩:=bnd h
  obtain⟨i,e1,h⟩:=bnd h
  cases h
  exact⟨i,by rw[one1_ok f1,aK e1],q⟩
 | max =>
  refine bT (oX hc) (sc_max.imp fun ds Q hZ=>?_) hg hm qY (by decide) (by decide) (aA he) (bi hes) h1
  obtain⟨d,h,q⟩:=hZ
  obtain⟨z,f1,h⟩:=bnd h
  obtain⟨i,e1,h⟩:=bnd h
  obtain⟨j,e2,h⟩:=bnd h
  cases h
  exact⟨i,j,by rw[two2_ok f1,aK e1,aK e2],q⟩
 | min =>
  refine bT (oY hc) (sc_min.imp fun ds Q hZ=>?_) hg hm yI (by decide) (by decide) (aA he) (bi hes) h1
  obtain⟨d,h,q⟩:=hZ
  obtain⟨z,f1,h⟩:=bnd h
  obtain⟨i,e1,h⟩:=bnd h
  obtain⟨j,e2,h⟩:=bnd h
  cases h
  exact⟨i,j,by rw[two2_ok f1,aK e1,aK e2],q⟩
 | int =>
  refine rG oZ (sc_int.imp fun ds Q hZ=>?_) hg hm qZ (by decide) (by decide) (aA he) (bi hes) h1
  obtain⟨d,h,q⟩:=hZ
  obtain⟨z,f1,h⟩:=bnd h
  obtain⟨n,e1,h⟩:=bnd h
  cases h
  exact⟨z,n,one1_ok f1,e1,q⟩
 | all =>
  refine bT (qV hc) (sc_all.imp fun ds Q hZ=>?_) hg hm yJ (by decide) (by decide) (aA he) (bi hes) h1
  obtain⟨d,h,q⟩:=hZ
  obtain⟨w,f1,h⟩:=bnd h
  obtain⟨z,f2,h⟩:=bnd h
  obtain⟨n,e1,h⟩:=bnd h
  cases h
  exact⟨z,n,by rw[one1_ok f1,si f2],e1,q⟩
theorem zu (hg:Gl X "list") (hm:X.mg "list"=none) (he:isStar e=false) (h1:PDe X e (aD C ma)):PDe X (.Call (.Name "list" p) [e] [] pos) (aD C (.bnw .list ma)):=by
 refine (pP hg hm jo (by decide) (by decide) (aA he) rfl (cN he h1 fQ)).imp fun ρ Q hZ=>?_
 obtain⟨y,h,q⟩:=hZ
 obtain⟨xa,e1,h⟩:=bnd h
 obtain⟨ds,e2,h⟩:=bnd h
 cases h
 exact⟨([xa.1],xa.2),by simp only[evs,e1];rfl,xa.1,ds,rfl,e2,q⟩
theorem vJ (hg:Gl X "tuple") (hm:X.mg "tuple"=none) (he:isStar e=false) (h1:PDe X e (aD C ma)):PDe X (.Call (.Name "tuple" p) [e] [] pos) (aD C (.bnw .tuple ma)):=by
 refine (rH hg hm gM (by decide) (by decide) (aA he) rfl (cN he h1 fQ)).imp fun ρ Q hZ=>?_
 obtain⟨y,h,q⟩:=hZ
 obtain⟨xa,e1,h⟩:=bnd h
 obtain⟨ds,e2,h⟩:=bnd h
 cases h
 exact⟨([xa.1],xa.2),by simp only[evs,e1];rfl,xa.1,ds,rfl,e2,q⟩
theorem g7 {k:Knd} {T:String} (hT:match k with | .int=>T="int" | .bool=>T="bool" | .str=>T="str" | .list=>T="list" | .tuple=>T="tuple" | .seq=>False) (hy:PE X b (tC (.ty T))) (hg:Gl X "isinstance") (hm:X.mg "isinstance"=none) (ha:isStar a=false) (hb:isStar b=false)
  (h1:PDe X a (aD C ma)):PDe X (.Call (.Name "isinstance" p) [a,b] [] pos) (aD C (.isi k ma)):=by
 obtain⟨te,h,s⟩:=h1
 refine⟨_,eQ (qW T) hg hm em (be h (be hy cJ (aA hb)) (aA ha)) (by decide) (by decide) (aA ha) (bi (by simp[hb])),fun b F σ H ρ τ θ Qd Q hK R ⟨y,h,q⟩ kk=>?_⟩
 obtain⟨xa,e1,h⟩:=bnd h
 obtain⟨d,e2,h⟩:=bnd h
 cases h
 refine s b F σ H ρ τ θ (fun r ρ'=>r=xa.1/\ρ'=xa.2) _ hK R ⟨xa,e1,rfl,rfl⟩ fun v H' r ρ' R' hZ=>?_
 obtain⟨h1,h2⟩:=hZ
 subst h1 h2
 have hd:=R'.dt e2
 rw[hK]at hd
 have fin:∀(kt:KindT T),Fu T d=BE k d->∃x n b,[v,V.ty T]=[x,V.ty T]/\Ty X.K H' x n/\PySem.W.kitOne X.K (.type n) (.type T)=some b/\Q (.bl b) H':=fun kt ek=>by
  obtain⟨n,ty,kq⟩:=hd.kind kt
  rw[ek]at kq
  exact⟨v,n,_,rfl,ty,kq,kk _ H' _ _ (R'.drop.sc (.bl _)) q⟩
 cases k with
 | int=>subst hT;exact fin .int (by cases d<;>rfl)
 | bool=>subst hT;exact fin .bool (by cases d<;>rfl)
 | str=>subst hT;exact fin .str (by cases d<;>rfl)
 | list=>subst hT;exact fin .list (by cases d<;>rfl)
 | tuple=>subst hT;exact fin .tuple (by cases d<;>rfl)
 | seq=>exact hT.elim
theorem Dt.kind2{K:WF}{H:Hp}{v:V}{d:PyData}(h:Dt K H v d):∃n,Ty K H v n/\PySem.W.kitAny K (.type n) [.type "list",.type "tuple"]=some (BE .seq d):=by
 cases h with
 | non=>exact⟨_,.non,dO K (kit_nl K) (kit_nt K)⟩
 | bl b=>exact⟨_,.bl b,dO K (kit_bl K) (kit_bt K)⟩
 | int i=>exact⟨_,.int i,dO K (kit_il K) (kit_it K)⟩
 | str x=>exact⟨_,.str x,dO K (kit_sl K) (kit_st K)⟩
 | lst s t=>exact⟨_,.lst s,gL K (.inl (kit_same K _))⟩
 | tup s t=>exact⟨_,.tup s,gL K (.inr ⟨kit_tl K,kit_same K _⟩)⟩
theorem zw {x1} (hy:PE X b (tC (.ty "list"))) (hz:PE X c (tC (.ty "tuple"))) (hg:Gl X "isinstance") (hm:X.mg "isinstance"=none) (ha:isStar a=false) (hb:isStar b=false) (hc:isStar c=false)
  (h1:PDe X a (aD C ma)):PDe X (.Call (.Name "isinstance" p) [a,.Tuple [b,c] x1 p1] [] pos) (aD C (.isi .seq ma)):=by
 obtain⟨te,h,s⟩:=h1
 refine⟨_,eQ (pF "list" "tuple") hg hm em (be h (be (lJ (be hy (be hz cJ (aA hc)) (aA hb))) cJ (aA rfl)) (aA ha)) (by decide) (by decide) (aA ha) (bi rfl),fun b F σ H ρ τ θ Qd Q hK R ⟨y,h,q⟩ kk=>?_⟩
 obtain⟨xa,e1,h⟩:=bnd h
 obtain⟨d,e2,h⟩:=bnd h
 cases h
 refine s b F σ H ρ τ θ (fun r ρ'=>r=xa.1/\ρ'=xa.2) _ hK R ⟨xa,e1,rfl,rfl⟩ fun v H' r ρ' R' hZ=>?_
 obtain⟨h1,h2⟩:=hZ
 subst h1 h2
 refine⟨by show 2≤sizeLine;decide,fun pp hp=>?_⟩
 have R2:Rel b F σ (upd H' pp (.tup [.ty "list",.ty "tuple"])) xa.2 (v::τ) (xa.1::θ):=⟨R'.wf,R'.al,R'.wff,R'.wd.new hp⟩
 have hd:=R2.dt e2
 rw[hK]at hd
 obtain⟨n,ty1,ek⟩:=hd.kind2
 have kk':=kk (.bl (BE .seq d)) _ (.val (.fz (.bool (BE .seq d)))) _ (R2.drop.sc (.bl _)) q
 exact⟨v,_,_,pp,rfl,ar,ty1,ek,kk'⟩
end
end
section
def fR(t:Tg):DG:=fun x ρ Q=>∃ρ',bb t x ρ=some ρ'/\Q ρ'
structure Sto (X:Cx)(W:Nat->Prop)(m:Nat)(i:Nat)(x:Str):Prop where
 hN:X.N[i]?=some x
 loc:Loc X.env.scope x
 fn:X.fn x=true\/X.env.scope.names.lookup x=some .local
 lt:i < m
 nw:¬ W i
section
variable{X:Cx}{W:Nat->Prop}{m:Nat}{C:Ct}{a b c e:Expr}{es:List Expr}{ma mb mc:E}{mes:Es}{pos p p1 p2 p3:Pos}{x:Str}{i:Nat}
theorem PDg.imp:PDg X W m e d->(∀x ρ Q,d' x ρ Q->d x ρ Q)->PDg X W m e d'
 | ⟨te,h,s⟩,f=>⟨te,h,fun b F σ H ρ τ θ v x Qd Q hK n R hd q=>s b F σ H ρ τ θ v x Qd Q hK n R (f _ _ _ hd) q⟩
theorem PDgs.imp:PDgs X W m es d->(∀x ρ Q,d' x ρ Q->d x ρ Q)->PDgs X W m es d'
 | ⟨te,h,s⟩,f=>⟨te,h,fun b F σ H ρ τ θ v x Qd Q hK n el R hd q=>s b F σ H ρ τ θ v x Qd Q hK n el R (f _ _ _ hd) q⟩
theorem PDg.or:PDg X W m e d->PDg X W m e d'->PDg X W m e (fun x ρ Q=>d x ρ Q\/d' x ρ Q)
 | ⟨te,h,s⟩,⟨te',h',s'⟩=>⟨fun v σ H Q=>te v σ H Q\/te' v σ H Q,fun pins s σ H v u Q I r z=>z.elim (h pins s σ H v u Q I r) (h' pins s σ H v u Q I r),fun b F σ H ρ τ θ v x Qd Q hK n R hd q=>hd.imp (fun hd=>s b F σ H ρ τ θ v x Qd Q hK n R hd q) fun hd=>s' b F σ H ρ τ θ v x Qd Q hK n R hd q⟩
theorem B3(hN:X.N.Nodup)(s:Sto X W m i x):PDg X W m (.Name x pos) (fR (.nm i)):=by
 refine (kC s.nw hN s.hN s.loc s.lt s.fn).imp fun y ρ Q hZ=>?_
 obtain⟨ρ',h,q⟩:=hZ
 obtain⟨_,hi,h⟩:=bnd h
 cases h
 exact⟨gd_ok hi,q⟩
inductive Stos (X:Cx)(W:Nat->Prop)(m:Nat):List Nat->List Expr->Prop
 | nil:Stos X W m [] []
 | cons {i is x pos es}:Sto X W m i x->Stos X W m is es->Stos X W m (i::is) (.Name x pos::es)
theorem l6(hN:X.N.Nodup):∀{ts:List Nat} {es:List Expr},Stos X W m ts es->PDgs X W m es (fun xs ρ Q=>xs.length=ts.length/\(∀i∈ts,i < ρ.length)/\Q (dq ts xs ρ))
 | [],_,.nil=>pdgs_nil.imp fun xs ρ Q ⟨h1,h2,q⟩=>by
   cases xs with
   | nil=>exact⟨rfl,q⟩
   | cons _ _=>simp at h1
 | i::is,_,.cons s t=>(fL rfl (kC s.nw hN s.hN s.loc s.lt s.fn) (l6 hN t)).imp fun xs ρ Q ⟨h1,h2,q⟩=>by
   cases xs with
   | nil=>simp at h1
   | cons z zs=>exact⟨z,zs,rfl,h2 i aaj,by simpa using h1,fun j hj=>by rw[abK];exact h2 j (aag _ hj),q⟩
theorem eX(h:Stos X W m ts es):(assignEach es X.env).length=ts.length/\(assignEach es X.env).findIdx? (·.1)=none:=by
 induction h with
 | nil=>exact⟨rfl,rfl⟩
 | @cons i is x pos es s t ih =>
  have e:assignEach (.Name x pos::es) X.env=(false,assign (.Name x pos) X.env)::assignEach es X.env:=rfl
  rw[e]
  refine⟨by simp[ih.1],?_⟩
  rw[abe]
  simp[ih.2]
theorem kK(h:unpA y=some xs):unpT y=some xs\/unpL y=some xs:=by
 unfold unpA at h
 cases e1:unpT y with
 | some ys=>rw[e1]at h;exact .inl h
 | none=>rw[e1]at h;exact .inr h
theorem B4(hc:X.calm=true)(hN:X.N.Nodup)(h:Stos X W m ts es):PDg X W m (.Tuple es k pos) (fR (.tp ts)):=by
 refine ((ni hc (eX h).1 (eX h).2 (l6 hN h)).or (nj hc (eX h).1 (eX h).2 (l6 hN h))).imp fun y ρ Q hZ=>?_
 obtain⟨ρ',h,q⟩:=hZ
 obtain⟨xs,e1,h⟩:=bnd h
 obtain⟨_,hi,h⟩:=bnd h
 cases h
 have hi:=gd_ok hi
 rcases kK e1 with e1 | e1
 ·exact .inl ⟨xs,e1,hi.1,hi.1,hi.2,q⟩
 ·exact .inr ⟨xs,e1,hi.1,hi.1,hi.2,q⟩
theorem EB(hc:X.calm=true)(hN:X.N.Nodup)(s:Sto X W m i x)(h:Stos X W m ts es):PDg X W m (.Tuple [.Name x p,.Tuple es k p2] k2 pos) (fR (.tn i ts)):=by
 have hs:=fL (e:=.Name x p) (es:=[.Tuple es k p2]) rfl (B3 hN s) (fL rfl (B4 hc hN h) pdgs_nil)
 refine ((ni hc rfl rfl hs).or (nj hc rfl rfl hs)).imp fun y ρ Q hZ=>?_
 obtain⟨ρ',h,q⟩:=hZ
 obtain⟨xs,e1,h⟩:=bnd h
 obtain⟨z,e2,h⟩:=bnd h
 obtain⟨_,hi,h⟩:=bnd h
 rw[two2_ok e2]at e1
 have hd:lW (fR (.nm i)) (lW (fR (.tp ts)) dgNil) [z.1,z.2] ρ Q:=⟨z.1,[z.2],rfl,ρ.set i (some z.1),by show (gd _).bind _=_;rw[hi];rfl,z.2,[],rfl,ρ',h,rfl,q⟩
 rcases kK e1 with e1 | e1
 ·exact .inl ⟨_,e1,rfl,hd⟩
 ·exact .inr ⟨_,e1,rfl,hd⟩
theorem PI.or(h:PI X tg e t)(h':PI X tg e t'):PI X tg e (fun σ H R=>t σ H R\/t' σ H R):=fun pins s σ H R I z=>z.elim (h pins s σ H R I) (h' pins s σ H R I)
theorem PDi.or:PDi X tg e d->PDi X tg e d'->PDi X tg e (fun ρ Q=>d ρ Q\/d' ρ Q)
 | ⟨te,h,s⟩,⟨te',h',s'⟩=>⟨_,PI.or h h',fun b F σ H ρ τ θ Qd Q hK R hd q=>hd.imp (fun hd=>s b F σ H ρ τ θ Qd Q hK R hd q) fun hd=>s' b F σ H ρ τ θ Qd Q hK R hd q⟩
theorem zx(e1:ev C ma ρ=some xa):evs C (.cons ma .nil) ρ=some ([xa.1],xa.2):=by
 show ((ev C ma ρ).bind _)=_
 rw[e1];rfl
theorem EC(e1:ev C ma ρ=some xa)(e2:ev C mb xa.2=some xb):evs C (.cons ma (.cons mb .nil)) ρ=some ([xa.1,xb.1],xb.2):=by
 show ((ev C ma ρ).bind _)=_
 rw[e1]
 show ((evs C (.cons mb .nil) xa.2).bind _)=_
 rw[zx e2];rfl
theorem kL(e:au ρ r=some d):cA ρ [r]=some [d]:=by
 show ((au ρ r).bind _)=_
 rw[e];rfl
theorem datL2(e:au ρ r=some d)(e':au ρ r'=some d'):cA ρ [r,r']=some [d,d']:=by
 show ((au ρ r).bind _)=_
 rw[e]
 show ((cA ρ [r']).map _)=_
 rw[kL e'];rfl
theorem xh(e:frz1 ρ r=some z)(h:z.1=d):frzL ρ [r]=some ([d],z.2):=by
 show ((frz1 ρ r).bind _)=_
 rw[e,<- h];rfl
theorem B5(e:frz1 ρ r=some z)(e':frz1 z.2 r'=some w):frzL ρ [r,r']=some ([z.1,w.1],w.2):=by
 show ((frz1 ρ r).bind _)=_
 rw[e]
 show ((frzL z.2 [r']).map _)=_
 rw[xh e' rfl];rfl
theorem xi(h:um d=some ds):∃l:Bool,BC d=some (l,ds):=(jB h).elim (fun h=>⟨true,h ▸ rfl⟩) fun h=>⟨false,h ▸ rfl⟩
theorem B6(h1:PDe X e (aD C ma)):PDi X tg e (gZ C (.seq ma)):=by
 refine ((rS h1).or (vq h1)).imp fun ρ Q hZ=>?_
 obtain⟨y,h,q⟩:=hZ
 obtain⟨xa,e1,h⟩:=bnd h
 obtain⟨z,e2,h⟩:=bnd h
 obtain⟨ds,e3,h⟩:=bnd h
 obtain⟨d,ρ'⟩:=z
 cases h
 rcases jB e3 with e3 | e3<;>simp only at e3<;>subst e3
 ·exact .inl ⟨xa,e1,_,_,e2,q⟩
 ·exact .inr ⟨xa,e1,_,_,e2,q⟩
theorem B7 (hg:Gl X "range") (hm:X.mg "range"=none) (hs:isStar a=false) (h1:PDe X a (aD C ma)):PDi X tg (.Call (.Name "range" p) [a] [] pos) (gZ C (.rg1 ma)):=by
 refine (lX hg hm (aA hs) (cN hs h1 fQ)).imp fun ρ Q hZ=>?_
 obtain⟨y,h,q⟩:=hZ
 obtain⟨xa,e1,h⟩:=bnd h
 obtain⟨d,e2,h⟩:=bnd h
 obtain⟨j,e3,h⟩:=bnd h
 obtain⟨_,hj,h⟩:=bnd h
 cases h
 have hj:=gd_ok hj
 rw[aK e3]at e2
 exact⟨([xa.1],xa.2),zx e1,j,kL e2,hj.1,hj.2,q⟩
theorem B8 {x1} (hg:Gl X "enumerate") (hm:X.mg "enumerate"=none) (hs:isStar a=false) (h1:PDe X a (aD C ma)):PDi X (.Tuple es x1 tpos) (.Call (.Name "enumerate" p) [a] [] pos) (gZ C (.enm ma)):=by
 refine (rT hg hm (aA hs) (cN hs h1 fQ)).imp fun ρ Q hZ=>?_
 obtain⟨y,h,q⟩:=hZ
 obtain⟨xa,e1,h⟩:=bnd h
 obtain⟨z,e2,h⟩:=bnd h
 obtain⟨ds,e3,h⟩:=bnd h
 cases h
 exact⟨([xa.1],xa.2),zx e1,ds,z.2,xh e2 (si e3),q⟩
theorem B9 {x1} (hg:Gl X "zip") (hm:X.mg "zip"=none) (hs:isStar a=false) (hs2:isStar b=false) (h1:PDe X a (aD C ma)) (h2:PDe X b (aD C mb)):PDi X (.Tuple es x1 tpos) (.Call (.Name "zip" p) [a,b] [] pos) (gZ C (.zip ma mb)):=by
 refine (vw hg hm (by rw[aA hs,aA hs2];rfl) (aA hs2) (cN hs h1 (cN hs2 h2 fQ))).imp fun ρ Q hZ=>?_
 obtain⟨y,h,q⟩:=hZ
 obtain⟨xa,e1,h⟩:=bnd h
 obtain⟨xb,e1',h⟩:=bnd h
 obtain⟨z,e2,h⟩:=bnd h
 obtain⟨w,e3,h⟩:=bnd h
 obtain⟨ds,e4,h⟩:=bnd h
 obtain⟨es,e5,h⟩:=bnd h
 cases h
 obtain⟨l1,g1⟩:=xi e4
 obtain⟨l2,g2⟩:=xi e5
 exact⟨_,EC e1 e1',_,_,l1,l2,ds,es,w.2,B5 e2 e3,g1,g2,q⟩
def aV(C:Ct)(tg:Tg)(ifs:Eo)(elt:E)(d:PyData)(ρ:DEnv):Option (List PyData × DEnv) :=
 (bb tg (.fz d) ρ).bind fun ρ1=>(Dm C ifs ρ1).bind fun k=>if k.1=true then (ev C elt k.2).bind fun y=>(frz1 y.2 y.1).bind fun q=>some ([q.1],q.2) else some ([],k.2)
def xj(C:Ct)(ifs:Eo)(elt:E):DC:=fun ρ Q=>∃w,((Dm C ifs ρ).bind fun k=>if k.1=true then (ev C elt k.2).bind fun y=>(frz1 y.2 y.1).bind fun q=>some (([q.1]:List PyData),q.2) else some ([],k.2))=some w/\Q w.1 w.2
theorem PDc.imp:PDc Y ifs elt d->(∀ρ Q,d' ρ Q->d ρ Q)->PDc Y ifs elt d'
 | ⟨te,h,s⟩,f=>⟨te,h,fun b F σ H ρ vs rs D out Qd Q hK el hz R hd q=>s b F σ H ρ vs rs D out Qd Q hK el hz R (f _ _ hd) q⟩
theorem vK(h1:PDe Y elt (aD C me)):PDc Y [] elt (xj C .none me):=(pU h1).imp fun ρ Q ⟨w,h,q⟩=>by
 have h:((ev C me ρ).bind fun y=>(frz1 y.2 y.1).bind fun q=>some (([q.1]:List PyData),q.2))=some w:=h
 obtain⟨y,e1,h⟩:=bnd h
 obtain⟨z,e2,h⟩:=bnd h
 cases h
 exact⟨y,e1,z.1,z.2,e2,q⟩
theorem zy(h0:PDt Y c (gy C mc))(h1:PDe Y elt (aD C me)):PDc Y [c] elt (xj C (.some mc) me):=(r9 h0 h1).imp fun ρ Q ⟨w,h,q⟩=>by
 obtain⟨k,e0,h⟩:=bnd h
 refine⟨k,e0,?_⟩
 by_cases hk:k.1=true
 ·rw[if_pos hk]at h ⊢
  obtain⟨y,e1,h⟩:=bnd h
  obtain⟨z,e2,h⟩:=bnd h
  cases h
  exact⟨y,e1,z.1,z.2,e2,q⟩
 ·rw[if_neg hk]at h ⊢
  cases h
  exact q
theorem kM(step:PyData->DEnv->Option (List PyData × DEnv))(ds:List PyData)(w:List PyData × DEnv)(k:Nat)(hd:ds[k]?=some d)(h:aU step (ds.drop k) out ρ=some w):∃z,step d ρ=some z/\aU step (ds.drop (k + 1)) (out++z.1) z.2=some w:=by
 have hk:=(aas.mp hd).1
 have e:ds.drop k=d::ds.drop (k + 1):=by
  rw[ach hk,(aas.mp hd).2]
 rw[e]at h
 exact bnd h
theorem nG(C:Ct){mt:Tg}:∀ρ Q,aD C (.comp nt fr mi mt mif me) ρ Q->nq (gZ C mi) nt fr (fR mt) (xj C mif me) ρ Q:=fun ρ Q ⟨y,h,q⟩=>by
 obtain⟨x,e1,h⟩:=bnd h
 obtain⟨_,hz,h⟩:=bnd h
 obtain⟨z,e2,h⟩:=bnd h
 obtain⟨w,e3,h⟩:=bnd h
 cases h
 refine⟨x,e1,gd_ok hz,z.1,z.2,e2,fun k out ρ=>aU (aV C mt mif me) (x.1.drop k) out ρ=some w,e3,fun k d out ρ hd iv=>?_,fun out ρ iv=>?_⟩
 ·obtain⟨u,hu,iv'⟩:=kM _ _ _ k hd iv
  obtain⟨ρ1,e4,hu⟩:=bnd hu
  exact⟨ρ1,e4,u,hu,iv'⟩
 ·have iv:aU (aV C mt mif me) (x.1.drop x.1.length) out ρ=some w:=iv
  rw[abT]at iv
  cases iv
  exact q
theorem zz{mt:Tg}(hc:X.calm=true)(S:CompScope N nt fr X.N scope X.env.scope)(hs:∀x,foldedSetIterable iter X.env x=pure x)(hi:PDi X tg iter (gZ C mi))(hg:∀c:CC,PDg (eG X N scope c) Ff nt tg (fR mt))(ha:∀c:CC,PDc (eG X N scope c) ifs elt (xj C mif me)) :
  PDe X (.ListComp elt [⟨tg,iter,ifs,0⟩] scope pos) (aD C (.comp nt fr mi mt mif me)):=(vA hc S hs hi hg ha).imp (nG C)
end
end
section
def Ca(D:DEnds)(ρ:DEnv):Fl->Prop
 | .nx=>D.nx ρ | .bk=>D.bk ρ | .ct=>D.ct ρ | .rt x=>D.rt x ρ
def gB(C:Ct)(s:S'):DS:=fun D ρ=>∃x,cI C s ρ=some x/\Ca D x.2 x.1
def jF(C:Ct)(s:Ss):DS:=fun D ρ=>∃x,aN C s ρ=some x/\Ca D x.2 x.1
section
variable{b:Bs}{F:List Fr}{σ:St}{H H':Hp}{ρ:DEnv}{τ us:List V}{θ:List OR}{zs:List OD}{v u:V}{x y:OD}{i:Nat}{ks:List Nat}
theorem Rel.open(R:Rel b F σ H ρ (us++τ) (zs.map OR.val++θ))(el:us.length=zs.length)(e:ρ[i]?.join=some x):∃v,σ[i]?=some (some v)/\Wd b H (us.zip zs++((v,x)::(stk τ θ++(flat σ (ρ.set i none)++ff F)))):=by
 obtain⟨v,ev,w⟩:=R.slot (join_some e)
 refine⟨v,ev,w.perm ?_⟩
 rw[aC (by simpa using el),bS el,aah]
 exact aav.symm
theorem Rel.close(R:Rel b F σ H ρ τ θ)(ev:σ[i]?=some (some v))(w:Wd b H' ((v,x)::(stk τ θ++(flat σ (ρ.set i none)++ff F)))):Rel b F σ H' (ρ.set i (some x)) τ θ:=Rel.back R.wf R.al R.wff ev w
theorem Rel.rest(R:Rel b F σ H ρ (us++τ) (zs.map OR.val++θ))(el:us.length=zs.length):Rel b F σ H ρ τ θ:=R.drops (by simpa using el)
end
section
variable{X:Cx}{W:Nat->Prop}{m:Nat}{C:Ct}{a b c e:Expr}{es:List Expr}{sts s1 s2:List Stmt}{st:Stmt}{ma mb mc:E}{mes:Es}{ms:S'}{mss ma' mb':Ss}{pos p p1 p2 p3 pos':Pos}{x:Str}{i:Nat}
theorem PDs.imp:PDs X W st d->(∀D ρ,d' D ρ->d D ρ)->PDs X W st d'
 | ⟨te,h,s⟩,f=>⟨te,h,fun b F σ H ρ τ θ Dd D hK n R hd E=>s b F σ H ρ τ θ Dd D hK n R (f _ _ hd) E⟩
theorem PDss.imp:PDss X W sts d->(∀D ρ,d' D ρ->d D ρ)->PDss X W sts d'
 | ⟨te,h,s⟩,f=>⟨te,h,fun b F σ H ρ τ θ Dd D hK n R hd E=>s b F σ H ρ τ θ Dd D hK n R (f _ _ hd) E⟩
theorem zA:PDss X W [] (jF C .nil):=pdss_nil.imp fun D ρ ⟨y,h,q⟩=>by cases h;exact q
theorem vL(h1:PDs X W st (gB C ms))(h2:PDss X W sts (jF C mss)):PDss X W (st::sts) (jF C (.cons ms mss)):=by
 refine (pQ h1 h2).imp fun D ρ hZ=>?_
 obtain⟨y,h,q⟩:=hZ
 obtain⟨z,e1,h⟩:=bnd h
 obtain⟨fl,ρ1⟩:=z
 refine⟨fun ρ'=>fl=.nx/\ρ'=ρ1,fun ρ' ⟨h1,h2⟩=>?_,?_⟩
 ·subst h1 h2;exact⟨y,h,q⟩
 ·cases fl
  ·exact⟨_,e1,rfl,rfl⟩
  ·cases h;exact⟨_,e1,q⟩
  ·cases h;exact⟨_,e1,q⟩
  ·cases h;exact⟨_,e1,q⟩
theorem zB:PDs X W (.Continue pos) (gB C .cont):=pds_cont.imp fun D ρ ⟨y,h,q⟩=>by cases h;exact q
def eM:Expr->Bool
 | .ListComp _ _ _ _=>true | .SetComp _ _ _ _=>true | .DictComp _ _ _ _ _=>true
 | _=>false
theorem g8(h:eM e=false):swapsWith e t l env=pure false:=by cases e<;>first | rfl | cases h
theorem ED(hs:eM e=false)(h1:PDe X e (aD C ma)):PDs X W (.Expr e pos) (gB C (.ex ma)):=by
 refine (rM (g8 hs) h1).imp fun D ρ hZ=>?_
 obtain⟨y,h,q⟩:=hZ
 obtain⟨z,e1,h⟩:=bnd h
 cases h
 exact⟨z,e1,q⟩
theorem Cb(h1:PDe X e (aD C ma)):PDs X W (.Return (some e) pos) (gB C (.ret ma)):=by
 refine (vm h1).imp fun D ρ hZ=>?_
 obtain⟨y,h,q⟩:=hZ
 obtain⟨z,e1,h⟩:=bnd h
 obtain⟨w,e2,h⟩:=bnd h
 cases h
 exact⟨z,e1,w.1,w.2,e2,q⟩
theorem EE(h0:PDt X c (gy C mc))(h1:PDss X W s1 (jF C ma'))(h2:PDss X W s2 (jF C mb')):PDs X W (.If c s1 s2 pos) (gB C (.iff mc ma' mb')):=by
 refine (y8 h0 h1 h2).imp fun D ρ hZ=>?_
 obtain⟨y,h,q⟩:=hZ
 obtain⟨z,e1,h⟩:=bnd h
 refine⟨z,e1,?_⟩
 by_cases hk:z.1=true
 ·rw[if_pos hk]at h ⊢;exact⟨y,h,q⟩
 ·rw[if_neg hk]at h ⊢;exact⟨y,h,q⟩
theorem xk(hN:X.N.Nodup)(s:Sto X W m i x)(hs:swapsWith e (some (.Name x pos')) pos.line X.env=pure false)(h1:PDe X e (aD C ma)):PDs X W (.Assign [.Name x pos'] e pos) (gB C (.set i ma)):=by
 refine (vn s.nw hN s.hN s.loc hs s.fn h1).imp fun D ρ hZ=>?_
 obtain⟨y,h,q⟩:=hZ
 obtain⟨z,e1,h⟩:=bnd h
 obtain⟨w,e2,h⟩:=bnd h
 obtain⟨_,hi,h⟩:=bnd h
 cases h
 exact⟨z,e1,w.1,w.2,e2,gd_ok hi,q⟩
theorem Cc(hs:swapsWithSole [tg] e pos.line X.env=pure false)(hw:swappedStores [tg] e X.env=pure none)(h0:isStar tg=false)(h1:PDe X e (aD C ma))(h2:PDg X W m tg (fR t)):PDs X W (.Assign [tg] e pos) (gB C (.asg t ma)):=by
 refine (vp hs hw (by cases tg<;>first | rfl | cases h0) h1 h2).imp fun D ρ hZ=>?_
 obtain⟨y,h,q⟩:=hZ
 obtain⟨z,e1,h⟩:=bnd h
 obtain⟨w,e2,h⟩:=bnd h
 obtain⟨ρ1,e3,h⟩:=bnd h
 cases h
 exact⟨z,e1,w.1,w.2,e2,ρ1,e3,q⟩
theorem Cd(hp:PassesOwn (model X.prog X.w) X.A X.env X.xe)(hc:X.calm=true)(hs:∀x,foldedSetIterable iter X.env x=pure x)(hi:PDi X tg iter (gZ C mi))(hg:PDg X W m tg (fR t))(hb:PDss X W sts (jF C mss)):PDs X W (.For tg iter sts [] pos) (gB C (.fr t mi mss)):=by
 obtain⟨_,h1,s1⟩:=hi
 obtain⟨_,h2,s2⟩:=hg
 obtain⟨_,h3,s3⟩:=hb
 refine⟨_,yi hp hc h1 h2 h3 hs,fun b F σ H ρ τ θ Dd D hK n R ⟨y,h,q⟩ E=>?_⟩
 obtain⟨x,e1,h⟩:=bnd h
 refine s1 b F σ H ρ τ θ (fun ds ρ'=>ds=x.1/\ρ'=x.2) _ hK R ⟨x,e1,rfl,rfl⟩ fun J H1 ds ρ1 vs rs el nr R1 it hZ=>?_
 obtain⟨h1,h2⟩:=hZ
 subst h1 h2
 refine⟨fun i mm σ H=>mm=x.1.length - i/\i≤x.1.length/\∃ρ,Rel b F σ H ρ (vs++τ) (rs++θ)/\bj (fun d ρ'=>(bb t (.fz d) ρ').bind fun ρ1=>aN C mss ρ1) (x.1.drop i) ρ=some y,⟨_,rfl,aaM _,_,R1,h⟩,?_⟩
 rintro i mm σ2 H2 ⟨rfl,hi,ρ2,R2,w2⟩
 obtain⟨go,stop⟩:=it F σ2 H2 ρ2 τ θ R2 i
 by_cases hlt:i < x.1.length
 ·obtain⟨g1,g2⟩:=go hlt
  have ed:x.1[i]?=some x.1[i]:=aar hlt
  have ee:x.1.drop i=x.1[i]::x.1.drop (i + 1):=ach hlt
  rw[ee]at w2
  obtain⟨w,e2,w2⟩:=bnd w2
  obtain⟨ρ3,e3,e2⟩:=bnd e2
  obtain⟨fl,ρ4⟩:=w
  refine .inr ⟨g1,fun σ' H'=>∃ρ',Rel b F σ' H' ρ' (vs++τ) (rs++θ)/\bj (fun d ρ'=>(bb t (.fz d) ρ').bind fun ρ1=>aN C mss ρ1) (x.1.drop (i + 1)) ρ'=some y,fun σ' H' ⟨ρ',R',w'⟩=>⟨_,by omega,rfl,hlt,ρ',R',w'⟩,fun z H3 hy=>?_⟩
  have R3:=g2 z H3 x.1[i] hy ed
  refine s2 b F σ2 H3 ρ2 (vs++τ) (rs++θ) z _ (fun ρ'=>ρ'=ρ3) _ hK (NoRf.app nr.weak n) R3 ⟨ρ3,e3,rfl⟩ fun σ4 H4 ρ' R4 _ h4=>?_
  subst h4
  refine s3 b F σ4 H4 _ (vs++τ) (rs++θ) ⟨fun ρ'=>fl=.nx/\ρ'=ρ4,fun o ρ'=>fl=.rt o/\ρ'=ρ4,fun ρ'=>fl=.bk/\ρ'=ρ4,fun ρ'=>fl=.ct/\ρ'=ρ4⟩ _ hK (NoRf.app nr.weak n) R4 ⟨_,e2,by cases fl<;>exact⟨rfl,rfl⟩⟩ ⟨fun σ' H' ρ' R' ⟨h1,h2⟩=>?_,fun σ' H' ρ' R' ⟨h1,h2⟩=>?_,fun σ' H' ρ' R' ⟨h1,h2⟩=>?_,fun σ' H' ρ' v o R' ⟨h1,h2⟩=>?_⟩
  ·subst h1 h2;exact⟨_,R',w2⟩
  ·subst h1 h2;cases w2;exact E.nx σ' H' _ (R'.drops el) q
  ·subst h1 h2;exact⟨_,R',w2⟩
  ·subst h1 h2
   cases w2
   exact E.rt σ' H' _ v o (Rel.drops (Rel.tor R' el) el) q
 ·have e:i=x.1.length:=by omega
  subst e
  rw[abT]at w2
  cases w2
  exact .inl ⟨stop rfl,E.nx σ2 H2 ρ2 (R2.drops el) q⟩
end
end
section
section
variable{X:Cx}{W:Nat->Prop}{m:Nat}{C:Ct}{a b c e:Expr}{es:List Expr}{sts s1 s2:List Stmt}{st:Stmt}{ma mb mc:E}{mes:Es}{ms:S'}{mss ma' mb':Ss}{pos p p1 p2 p3 pos' apos cpos:Pos}{x:Str}{i:Nat}
theorem Ce(hN:X.N.Nodup)(s:Sto X W m i x)(h1:PDe X e (aD C ma)):PDs X W (.AugAssign (.Name x pos') (opOf o) e pos) (gB C (.aug i o ma)):=by
 have key:∀(op:Operator) (g:Int->Int->Int),C9 X op (DN g)->(∀a d r,kH o a d=some r->∃k,d=.int k/\r=g a k)->PDs X W (.AugAssign (.Name x pos') op e pos) (gB C (.aug i o ma)):=fun op g ho hg=>by
  obtain⟨_,h,s1⟩:=h1
  refine⟨_,ye hN s.hN s.loc h ho s.fn,fun b F σ H ρ τ θ Dd D hK n R ⟨y,h,q⟩ E=>?_⟩
  obtain⟨x0,e0,h⟩:=bnd h
  obtain⟨d0,f0,h⟩:=bnd h
  obtain⟨n0,g0,h⟩:=bnd h
  rw[cL f0,aK g0]at e0
  ·obtain⟨z,e1,h⟩:=bnd h
   obtain⟨dk,ek,h⟩:=bnd h
   obtain⟨r,er,h⟩:=bnd h
   cases h
   obtain⟨k,rfl,rfl⟩:=hg _ _ _ er
   obtain⟨v,ev,w⟩:=R.slot (join_some e0)
   have hv:=w.dt rfl
   cases hv
   have hi:i < ρ.length:=(aas.mp (join_some e0)).1
   refine⟨_,ev,s1 b F σ H ρ τ θ (fun r ρ'=>r=z.1/\ρ'=z.2) _ hK R ⟨z,e1,rfl,rfl⟩ fun v H1 r ρ1 R1 hZ=>?_⟩
   obtain⟨h1,h2⟩:=hZ
   subst h1 h2
   have hm:=R1.dt ek
   cases hm
   have hl:i < z.2.length:=by rw[<- R1.wf.len,R.wf.len];exact hi
   exact⟨n0,k,rfl,rfl,E.nx _ H1 _ ((R1.drop.sc (.int (g n0 k))).store n hl s.nw) q⟩
 have nil:∀op,(∀a d,kH o a d=none)->PDs X W (.AugAssign (.Name x pos') op e pos) (gB C (.aug i o ma)):=fun op hn=>by
  refine⟨_,kb,fun b F σ H ρ τ θ Dd D hK n R ⟨y,h,q⟩ E=>?_⟩
  obtain⟨x0,e0,h⟩:=bnd h
  obtain⟨d0,f0,h⟩:=bnd h
  obtain⟨n0,g0,h⟩:=bnd h
  obtain⟨z,e1,h⟩:=bnd h
  obtain⟨dk,ek,h⟩:=bnd h
  rw[hn]at h
  cases h
 cases o with
 | add=>exact key _ _ yf fun a d r h=>by cases d<;>cases h;exact⟨_,rfl,rfl⟩
 | sub=>exact key _ _ yg fun a d r h=>by cases d<;>cases h;exact⟨_,rfl,rfl⟩
 | _=>exact nil _ fun a d=>rfl
end
end
section
section
variable{b:Bs}{S S':Addr->Prop}{H H1 H':Hp}{L L':List (V × OD)}{v u u' w w':V}{x y z z' y':OD}{d:PyData}{ks:List Nat}{k:Nat}
theorem Chn.det(h:Chn b H v x ks u y)(h':Chn b H v x ks u' y'):u=u'/\y=y':=by
 induction ks generalizing v x with
 | nil=>cases h;cases h';exact⟨rfl,rfl⟩
 | cons k ks ih =>
  cases h with
  | cons c1 c2 =>
   cases h' with
   | cons d1 d2 =>
    obtain⟨e1,e2⟩:=Chd.det c1 d1
    subst e1 e2
    exact ih c2 d2
theorem Chn.snoc(h:Chn b H v x ks u y)(c:Chd b H u y k w z):Chn b H v x (ks++[k]) w z:=by
 induction ks generalizing v x with
 | nil=>cases h;exact .cons c .nil
 | cons k ks ih=>cases h with | cons c1 c2=>exact .cons c1 (ih c2)
theorem Chn.unsnoc(h:Chn b H v x (ks++[k]) w z):∃u y,Chn b H v x ks u y/\Chd b H u y k w z:=by
 induction ks generalizing v x with
 | nil=>cases h with | cons c t=>cases t;exact⟨_,_,.nil,c⟩
 | cons k ks ih =>
  cases h with
  | cons c1 c2 =>
   obtain⟨u,y,h1,h2⟩:=ih c2
   exact⟨u,y,.cons c1 h1,h2⟩
theorem OD.at_snoc:∀{ks:List Nat} {x:OD},x.at ks=some y->y.kids[k]?=some z->x.at (ks++[k])=some z
 | [],x,e,h=>by simp only[OD.at]at e;cases e;simp[OD.at,h]
 | j::ks,x,e,h=>by
  simp only[OD.at,aaI]at e ⊢
  cases ez:x.kids[j]? with
  | none=>rw[ez]at e;cases e
  | some q=>rw[ez]at e;exact OD.at_snoc e h
theorem setKid_self(h:x.kids[k]?=some z):OD.setKid k z x=x:=by
 cases x<;>simp only[OD.kids]at h<;>first | (simp at h;done) | (simp only[OD.setKid];rw[bC h])
theorem OD.put_self:∀{ks:List Nat} {x:OD},x.at ks=some y->OD.put y ks x=x
 | [],x,e=>by simp only[OD.at]at e;cases e;rfl
 | j::ks,x,e=>by
  simp only[OD.at,OD.put]at e ⊢
  cases ez:x.kids[j]? with
  | none=>rfl
  | some q =>
   rw[ez]at e
   simp only
   rw[OD.put_self e]
   exact setKid_self ez
theorem path_at:∀{ps:List Acc} {ρ:DEnv} {i:Nat} {p:OD × List Nat × OD},ao ρ i ps=some p->ρ[i]?.join=some p.1/\p.1.at p.2.1=some p.2.2
 | [],ρ,i,p,h=>by
  obtain⟨x,e1,h⟩:=bnd h
  cases h
  exact⟨e1,rfl⟩
 | a::ps,ρ,i,p,h=>by
  obtain⟨q,e1,h⟩:=bnd h
  obtain⟨k,e2,h⟩:=bnd h
  obtain⟨z,e3,h⟩:=bnd h
  cases h
  obtain⟨h1,h2⟩:=path_at e1
  exact⟨h1,OD.at_snoc h2 e3⟩
theorem Wd.way(w:Wd b H ((v,x)::L))(e:x.at ks=some y):∃u,Chn b H v x ks u y:=by
 obtain⟨A0,h0,nd,new⟩:=w.out
 cases h0 with
 | cons r t =>
  obtain⟨u,B,A',ch,_⟩:=Ow.path r e
  exact⟨u,ch⟩
theorem Wd.kidAt(w:Wd b H ((v,x)::L))(e:x.at ks=some y)(ch:Chn b H v x ks u y)(ek:y.kids[k]?=some z):∃q,Chd b H u y k q z:=by
 obtain⟨q,c⟩:=w.way (OD.at_snoc e ek)
 obtain⟨u',y',h1,h2⟩:=Chn.unsnoc c
 obtain⟨e1,e2⟩:=Chn.det ch h1
 subst e1 e2
 exact⟨q,h2⟩
def Ext(H H':Hp):Prop:=∀a o,H a=some o->H' a=some o
theorem Ext.refl(H:Hp):Ext H H:=fun _ _ h=>h
theorem Ext.trans(h:Ext H H1)(h':Ext H1 H'):Ext H H':=fun a o e=>h' a o (h a o e)
theorem Ext.upd(e:H p=none):Ext H (upd H p o):=fun a q h=>by
 by_cases z:a=p
 ·subst z;rw[e]at h;cases h
 ·rw[upd_ne z];exact h
theorem Chd.ext(E:Ext H H')(h:Chd b H v x k w z):Chd b H' v x k w z:=by
 cases h with
 | lst e1 e2 e3 e4=>exact .lst (E _ _ e1) e2 e3 e4
 | tup e1 e2 e3 e4=>exact .tup (E _ _ e1) e2 e3 e4
 | dic e1 e2 e5 e3 e4=>exact .dic (E _ _ e1) e2 e5 e3 e4
 | obj e1 e2 e5 e3 e4=>exact .obj (E _ _ e1) e2 e5 e3 e4
theorem Chn.ext(E:Ext H H')(h:Chn b H v x ks u y):Chn b H' v x ks u y:=by
 induction ks generalizing v x with
 | nil=>cases h;exact .nil
 | cons k ks ih=>cases h with | cons c1 c2=>exact .cons (c1.ext E) (ih c2)
end
def EF(K:WF)(te:TE)(i:Nat)(ps:List Acc):Prop:=∀(b:Bs) (F:List Fr) (σ:St) (H:Hp) (ρ:DEnv) (τ:List V) (θ:List OR) (Q:VK) (p:OD × List Nat × OD),b.K=K->Rel b F σ H ρ τ θ->ao ρ i ps=some p->(∀v u,σ[i]?=some (some v)->Chn b H v p.1 p.2.1 u p.2.2->Q u H)->te σ H Q
inductive PDp (X:Cx)(e:Expr)(i:Nat)(ps:List Acc):Prop | mk (te:TE) (h:PE X e te) (s:EF X.K te i ps)
inductive PX (X:Cx)(e:Expr)(f:St->Option V):Prop | mk (te:TE) (h:PE X e te) (s:∀σ H (Q:VK) v,f σ=some v->Q v H->te σ H Q)
section
variable{X:Cx}{C:Ct}{a e e2:Expr}{es:List Expr}{ma mb:E}{mes:Es}{pos p p1 p2:Pos}{x:Str}{i j:Nat}{ps:List Acc}{k:Int}
theorem Ci:PX X (.Constant (.int k) j pos) (fun _=>some (.int k)):=⟨_,jd,fun σ H Q v e q=>by cases e;exact q⟩
theorem EG (hN:X.N[i]?=some x) (hv:Vis X.env.scope x) (hd:(x == ("__debug__":Str))=false) (hcd:(x == ("__classdict__":Str))=false):PX X (.Name x pos) (fun σ=>σ[i]?.join):=⟨_,bG hN hv hd hcd,fun σ H Q v e q=>⟨v,join_some e,q⟩⟩
theorem EH (hN:X.N[i]?=some x) (hv:Vis X.env.scope x) (hd:(x == ("__debug__":Str))=false) (hcd:(x == ("__classdict__":Str))=false):PDp X (.Name x pos) i [] :=
 ⟨_,bG hN hv hd hcd,fun b F σ H ρ τ θ Q p hK R h q=>by
  obtain⟨y,e1,h⟩:=bnd h
  cases h
  obtain⟨v,ev⟩:=R.wf.get (join_some e1)
  exact⟨v,ev,q v v ev .nil⟩⟩
theorem lookup_at:∀{fs:List (Str × V)} {k:Nat} {w:V},(fs.map (·.1)).findIdx? (fun g=>decide (g=f))=some k->(fs[k]?).map (·.2)=some w->fs.lookup f=some w
 | [],_,_,e,_=>by simp at e
 | (g,q)::fs,k,w,e,h=>by
  rw[aal,abe]at e
  by_cases hg:g=f
  ·subst hg
   simp at e
   subst e
   simp at h
   subst h
   simp[List.lookup]
  ·simp[hg]at e
   obtain⟨k',e1,e2⟩:=e
   subst e2
   have e3:(fs.map (·.1)).findIdx? (fun g=>decide (g=f))=some k':=by rw[List.findIdx?_map];exact e1
   have:=lookup_at e3 (by simpa using h)
   have hb:(f == g)=false:=by simpa using fun z=>hg z.symm
   simp[List.lookup,hb,this]
theorem Cj{k:Nat}(h:accN ρ y (.fld c f)=some k):∃ns xs,y=.obj c ns xs/\ns.findIdx? (fun g=>decide (g=f))=some k:=by
 obtain⟨q,e1,h⟩:=bnd h
 obtain⟨_,e2,h3⟩:=bnd h
 exact⟨q.2.1,q.2.2,by rw[jA e1,gd_ok e2],h3⟩
theorem Cm{c f:Str}(hb:attributeBase e f X.env (eval e X.env)=eval e X.env)(hc:Cls X.K (am X.K c))(hn:NoAttr X.K (am X.K c) f):PDp X e i ps->PDp X (.Attribute e f pos) i (.fld c f::ps)
 | ⟨te,h,s⟩=>⟨_,yu h hb,fun b F σ H ρ τ θ Q p hK R hp q=>by
  obtain⟨r,e1,hp⟩:=bnd hp
  obtain⟨k,e2,hp⟩:=bnd hp
  obtain⟨z,e3,hp⟩:=bnd hp
  cases hp
  refine s b F σ H ρ τ θ _ r hK R e1 fun v u ev ch=>?_
  obtain⟨h1,h2⟩:=path_at e1
  obtain⟨v',ev',w⟩:=R.slot (join_some h1)
  rw[ev]at ev'
  cases ev'
  obtain⟨q',cd⟩:=w.kidAt h2 ch e3
  obtain⟨ns,xs,ey,e2⟩:=Cj e2
  rw[ey]at cd ch
  cases cd with
  | @obj a dx _ fs _ _ _ _ _ f1 f2 f5 f3 f4=>exact⟨a,_,dx,fs,q',rfl,f1,hK ▸ hc,hK ▸ hn,lookup_at (by rw[f2];exact e2) f3,q v q' ev (ch.snoc (.obj f1 f2 f5 f3 f4))⟩⟩
theorem so{α:Type}{xs:List α}{i:Int}{k:Nat}{y:α}(hn:xs.length=n)(h:ixN n i=some k)(e:xs[k]?=some y):atI xs i=some y:=by
 subst hn
 unfold atI
 rw[h]
 exact e
theorem Cp(hs:PlainIx e2)(hf:∀{b:Bs} {F:List Fr} {σ:St} {H:Hp} {ρ:DEnv} {τ:List V} {θ:List OR} {x:OD} {k:Nat},Rel b F σ H ρ τ θ->accN ρ x ac=some k->∃n,f σ=some (.int n)/\((∃xs,x=.lst xs/\ixN xs.length n=some k)\/∃xs,x=.tup xs/\ixN xs.length n=some k)):PDp X e i ps->PX X e2 f->PDp X (.Subscript e e2 pos) i (ac::ps)
 | ⟨te,h,s⟩,⟨_,h2,s2⟩=>⟨_,qN lL h h2 hs,fun b F σ H ρ τ θ Q p hK R hp q=>by
  obtain⟨r,e1,hp⟩:=bnd hp
  obtain⟨k,e2,hp⟩:=bnd hp
  obtain⟨z,e3,hp⟩:=bnd hp
  cases hp
  refine s b F σ H ρ τ θ _ r hK R e1 fun v u ev ch=>?_
  obtain⟨h1,h2⟩:=path_at e1
  obtain⟨v',ev',w⟩:=R.slot (join_some h1)
  rw[ev]at ev'
  cases ev'
  obtain⟨q',cd⟩:=w.kidAt h2 ch e3
  obtain⟨n,fn,cs⟩:=hf R e2
  refine s2 σ H _ _ fn ?_
  obtain⟨r1,r2,r3⟩:=r
  simp only at *
  rcases cs with ⟨xs,rfl,hx⟩ | ⟨xs,rfl,hx⟩
  ·cases cd with
   | @lst a vs _ _ _ _ f1 f2 f3 f4=>exact .inl ⟨a,vs,n,q',rfl,rfl,SqL.of f1,so f2 hx f3,q v q' ev (ch.snoc (.lst f1 f2 f3 f4))⟩
  ·cases cd with
   | @tup a vs _ _ _ _ f1 f2 f3 f4=>exact .inr (.inl ⟨a,vs,n,q',rfl,rfl,SqT.of f1,so f2 hx f3,q v q' ev (ch.snoc (.tup f1 f2 f3 f4))⟩)⟩
theorem EI(hs:PlainIx e2)(h:PDp X e i ps)(h2:PX X e2 (fun _=>some (.int k))):PDp X (.Subscript e e2 pos) i (.ix k::ps) :=
 Cp hs (fun {b F σ H ρ τ θ x n} R hk=>by
  obtain⟨xs,e1,hk⟩:=bnd hk
  exact⟨k,rfl,(zj e1).imp (fun e=>⟨xs,e,hk⟩) fun e=>⟨xs,e,hk⟩⟩) h h2
theorem Rel.keyS{k:Key}(R:Rel b F σ H ρ τ θ)(e:ρ[j]?.join=some (.fz d))(hk:keyOf d=some k):σ[j]?.join=some (kV k):=by
 obtain⟨v,ev,w⟩:=R.slot (join_some e)
 have hv:=w.dt rfl
 rw[ev]
 cases d<;>cases hk<;>cases hv<;>rfl
theorem nH{k:Key}:∀{ws:List (Key × V)} {n:Nat} {w:V},(ws.map (·.1)).findIdx? (fun q=>decide (q=k))=some n->(ws[n]?).map (·.2)=some w->valV ws k=some w
 | [],_,_,e,_=>by simp at e
 | (g,q)::ws,n,w,e,h=>by
  rw[aal,abe]at e
  by_cases hg:g=k
  ·subst hg
   simp at e
   subst e
   simp at h
   subst h
   exact dm rfl
  ·simp[hg]at e
   obtain⟨k',e1,e2⟩:=e
   subst e2
   have e3:(ws.map (·.1)).findIdx? (fun q=>decide (q=k))=some k':=by rw[List.findIdx?_map];exact e1
   have:=nH e3 (by simpa using h)
   simp only[valV]at this ⊢
   rw[aaS]
   simp only[hg,decide_false]
   exact this
theorem Cq(hu:X.A.units + 1 < cLine)(hs:NoSl e2):PDp X e i ps->PX X e2 (fun σ=>σ[j]?.join)->PDp X (.Subscript e e2 pos) i (.key j::ps)
 | ⟨te,h,s⟩,⟨_,h2,s2⟩=>⟨_,uR hu h h2 hs,fun b F σ H ρ τ θ Q p hK R hp q=>by
  obtain⟨r,e1,hp⟩:=bnd hp
  obtain⟨k,e2,hp⟩:=bnd hp
  obtain⟨z,e3,hp⟩:=bnd hp
  cases hp
  refine s b F σ H ρ τ θ _ r hK R e1 fun v u ev ch=>?_
  obtain⟨h1,h2⟩:=path_at e1
  obtain⟨v',ev',w⟩:=R.slot (join_some h1)
  rw[ev]at ev'
  cases ev'
  obtain⟨q',cd⟩:=w.kidAt h2 ch e3
  obtain⟨r1,r2,r3⟩:=r
  simp only at *
  obtain⟨y,e0,e2⟩:=bnd e2
  obtain⟨d,g1,e2⟩:=bnd e2
  obtain⟨uu,g2,e2⟩:=bnd e2
  obtain⟨kk,e4,e2⟩:=bnd e2
  rw[cL g1]at e0
  refine s2 σ H _ _ (R.keyS e0 e4) ?_
  cases cd with
  | @dic a ws _ _ _ _ _ f1 f2 f5 f3 f4 =>
   cases g2
   refine⟨a,q',rfl,?_,q v q' ev (ch.snoc (.dic f1 f2 f5 f3 f4))⟩
   have:=DGet.k (k:=kk) f1
   rw[nH (by rw[f2];exact e2) f3]at this
   exact this
  | _=>cases g2⟩
end
section
variable{b:Bs}{F:List Fr}{σ:St}{H H':Hp}{ρ:DEnv}{τ us:List V}{θ:List OR}{v u:V}{i:Nat}{ps:List Acc}{p:OD × List Nat × OD}{d:PyData}
theorem Rel.part(R:Rel b F σ H ρ τ θ)(e:ao ρ i ps=some p)(ev:σ[i]?=some (some v))(ch:Chn b H v p.1 p.2.1 u p.2.2)(ed:p.2.2.dat=some d):Rel b F σ H (ρ.set i (some (OD.put (.fz d) p.2.1 p.1))) (u::τ) (.val (.fz d)::θ):=by
 obtain⟨h1,h2⟩:=path_at e
 obtain⟨v',ev',w⟩:=R.slot (join_some h1)
 rw[ev]at ev'
 cases ev'
 obtain⟨u',ch',w2⟩:=w.frzAt h2 ed
 obtain⟨e1,_⟩:=Chn.det ch ch'
 subst e1
 exact Rel.back R.wf R.al R.wff ev (w2.perm (List.Perm.swap _ _ _))
theorem Rel.partF(R:Rel b F σ H ρ τ θ)(e:ao ρ i ps=some p)(ev:σ[i]?=some (some v))(ch:Chn b H v p.1 p.2.1 u p.2.2)(ed:p.2.2=.fz d):Rel b F σ H ρ (u::τ) (.val (.fz d)::θ):=by
 obtain⟨h1,h2⟩:=path_at e
 have:=R.part e ev ch (by rw[ed];rfl)
 rw[<- ed,OD.put_self h2,set_self (join_some h1)]at this
 rw[ed]at this
 exact this
theorem Rel.partD(R:Rel b F σ H ρ τ θ)(e:ao ρ i ps=some p)(ev:σ[i]?=some (some v))(ch:Chn b H v p.1 p.2.1 u p.2.2)(ed:p.2.2.dat=some d):Dt b.K H u d:=(R.part e ev ch ed).dt rfl
end
end
section
section
variable{X:Cx}{C:Ct}{a e e2:Expr}{es:List Expr}{ma mb:E}{mes:Es}{pos p p1 p2:Pos}{x:Str}{i j:Nat}{ps:List Acc}{k:Int}
theorem EJ:PDp X e i ps->PDe X e (aD C (.pg i ps))
 | ⟨te,h,s⟩=>⟨te,h,fun b F σ H ρ τ θ Qd Q hK R ⟨y,h,q⟩ k=>by
  obtain⟨r,e1,h⟩:=bnd h
  refine s b F σ H ρ τ θ _ r hK R e1 fun v u ev ch=>?_
  obtain⟨d,ed,h⟩:=bnd h
  cases h
  exact k u H _ _ (R.partF e1 ev ch (cL ed)) q⟩
theorem EK:PDp X e i ps->PDe X e (aD C (.pf i ps))
 | ⟨te,h,s⟩=>⟨te,h,fun b F σ H ρ τ θ Qd Q hK R ⟨y,h,q⟩ k=>by
  obtain⟨r,e1,h⟩:=bnd h
  obtain⟨d,e2,h⟩:=bnd h
  cases h
  exact s b F σ H ρ τ θ _ r hK R e1 fun v u ev ch=>k u H _ _ (R.part e1 ev ch e2) q⟩
theorem EL (hg:Gl X "len") (hm:X.mg "len"=none) (he:isStar e=false):PDp X e i ps->PDe X (.Call (.Name "len" p) [e] [] pos) (aD C (.pl i ps))
 | ⟨te,h,s⟩=>⟨_,eQ kg hg hm qX (be h cJ (aA he)) (by decide) (by decide) (aA he) (bi rfl),fun b F σ H ρ τ θ Qd Q hK R ⟨y,h,q⟩ k=>by
  obtain⟨r,e1,h⟩:=bnd h
  obtain⟨d,e2,h⟩:=bnd h
  obtain⟨n,e3,h⟩:=bnd h
  cases h
  refine s b F σ H ρ τ θ _ r hK R e1 fun v u ev ch=>?_
  refine sc_len H [u] [d] (fun d=>d=.int n) _ (.cons (hK ▸ R.partD e1 ev ch e2) .nil) ⟨d,n,rfl,e3,rfl⟩ fun w d' sc hd=>?_
  subst hd
  exact k w H _ _ (R.sc sc) q⟩
theorem EM(he:plainT e=true):PDp X e i ps->PDt X e (gy C (.pt i ps))
 | ⟨te,h,s⟩=>⟨_,kf h (plainT_ok he),fun b F σ H ρ τ θ Qd Q hK R ⟨y,h,q⟩ k=>by
  obtain⟨r,e1,h⟩:=bnd h
  obtain⟨d,e2,h⟩:=bnd h
  obtain⟨t,e3,h⟩:=bnd h
  cases h
  refine s b F σ H ρ τ θ _ r hK R e1 fun v u ev ch=>?_
  exact⟨t,nF (hK ▸ R.partD e1 ev ch e2) e3,k _ _ _ R q⟩⟩
theorem jG(hm:aZ C m=(vt (ev C m)).2)(hb:∀ρ x,ev C m ρ=some x->∃k,x.1=.val (.fz (.bool k))):∀ρ Q,gy C m ρ Q->f9 (aD C m) ρ Q:=fun ρ Q ⟨y,h,q⟩=>by
 have h':((ev C m ρ).bind fun x=>(au x.2 x.1).bind fun d=>(jz d).bind fun k=>some (k,x.2))=some y:=by rw[<- h,hm];rfl
 obtain⟨z,e1,h'⟩:=bnd h'
 obtain⟨k,ek⟩:=hb ρ z e1
 rw[ek]at h'
 cases h'
 exact⟨z,e1,k,by rw[ek];rfl,q⟩
theorem SndT.imp{K:WF}(s:SndT K te d)(f:∀ρ Q,d' ρ Q->d ρ Q):SndT K te d':=fun b F σ H ρ τ θ Qd Q hK R hd q=>s b F σ H ρ τ θ Qd Q hK R (f _ _ hd) q
theorem sq{neg:Bool}(hu:X.A.units + 64 < cLine)(hm:behindInMarks (coOf (if neg then .nin else .inn)) e=false):PDe X a (aD C ma)->PDp X e i ps->PDe X (.Compare a [coOf (if neg then .nin else .inn)] [e] pos) (aD C (.pin neg ma i ps))/\PDt X (.Compare a [coOf (if neg then .nin else .inn)] [e] pos) (gy C (.pin neg ma i ps))
 | ⟨ta,h1,s1⟩,⟨te,h,s⟩=>by
  obtain⟨r2,ho,hr⟩:=g6 hu (if neg then .nin else .inn)
  have S:cm X.K (yj r2 ta te) (aD C (.pin neg ma i ps)):=by
   refine fun b F σ H ρ τ θ Qd Q hK R ⟨y,h,q⟩ k=>?_
   obtain⟨z,e0,h⟩:=bnd h
   obtain⟨dx,e1,h⟩:=bnd h
   obtain⟨r,e2,h⟩:=bnd h
   obtain⟨d,e3,h⟩:=bnd h
   obtain⟨t,e4,h⟩:=bnd h
   cases h
   refine s1 b F σ H ρ τ θ (fun r ρ'=>r=z.1/\ρ'=z.2) _ hK R ⟨z,e0,rfl,rfl⟩ fun v H' r' ρ' R' hZ=>?_
   obtain⟨h1,h2⟩:=hZ
   subst h1 h2
   refine s b F σ H' _ _ _ _ r hK R' e2 fun v' u ev ch=>?_
   refine hr H' v u dx d (fun d=>d=.bool t) _ (hK ▸ R'.dt e1) (hK ▸ R'.partD e2 ev ch e3) ⟨t,e4,rfl⟩ fun w d' sc hd=>?_
   subst hd
   exact k w H' _ _ (R'.drop.sc sc) q
  refine⟨⟨_,mX ho h1 h hm,S⟩,⟨_,mY ho h1 h hm,(gS S).imp (jG rfl fun ρ x h=>?_)⟩⟩
  obtain⟨z,e0,h⟩:=bnd h
  obtain⟨dx,e1,h⟩:=bnd h
  obtain⟨r,e2,h⟩:=bnd h
  obtain⟨d,e3,h⟩:=bnd h
  obtain⟨t,e4,h⟩:=bnd h
  cases h
  exact⟨t,rfl⟩
theorem nI{k:Key}:∀{ws:List (Key × V)},(valV ws k).isSome=(ws.map (·.1)).any fun q=>decide (q=k)
 | []=>rfl
 | (g,q)::ws=>by
  have ih:=nI (k:=k) (ws:=ws)
  by_cases hg:g=k
  ·subst hg;rw[dm rfl];simp
  ·simp only[valV]at ih ⊢
   rw[aaS]
   simp only[hg,decide_false,aal,aaO,abM]
   exact ih
def zC(neg:Bool)(ta te:TE):TE:=if neg then m7 ta te else A9 ta te
theorem sr{neg:Bool}(hu:X.A.units + 1 < cLine)(hm:behindInMarks (coOf (if neg then .nin else .inn)) e=false):PDe X a (aD C ma)->PDp X e i ps->PDe X (.Compare a [coOf (if neg then .nin else .inn)] [e] pos) (aD C (.din neg ma i ps))/\PDt X (.Compare a [coOf (if neg then .nin else .inn)] [e] pos) (gy C (.din neg ma i ps))
 | ⟨ta,h1,s1⟩,⟨te,h,s⟩=>by
  have hp:PE X (.Compare a [coOf (if neg then .nin else .inn)] [e] pos) (zC neg ta te):=by
   cases neg with
   | true=>exact jf (iR hu h1 h) hm
   | false=>exact jf (rc hu h1 h) hm
  have hpt:PT X (.Compare a [coOf (if neg then .nin else .inn)] [e] pos) (tB (zC neg ta te)):=by
   cases neg with
   | true=>exact jg (iR hu h1 h) hm
   | false=>exact jg (rc hu h1 h) hm
  have S:cm X.K (zC neg ta te) (aD C (.din neg ma i ps)):=by
   refine fun b F σ H ρ τ θ Qd Q hK R ⟨y,h,q⟩ k=>?_
   obtain⟨z,e0,h⟩:=bnd h
   obtain⟨dx,e1,h⟩:=bnd h
   obtain⟨r,e2,h⟩:=bnd h
   obtain⟨kk,ek,h⟩:=bnd h
   obtain⟨uu,ed,h⟩:=bnd h
   have ed:=sf ed
   ·cases h
    have go:∀v H' r' ρ',Rel b F σ H' ρ' (v::τ) (r'::θ)->(r'=z.1/\ρ'=z.2)->te σ H' fun x H2=>∃a o,x=.ref a/\DGet H2 a v o/\Q (.bl (if neg then !o.isSome else o.isSome)) H2:=fun v H' r' ρ' R' ⟨h1,h2⟩=>by
     subst h1 h2
     refine s b F σ H' _ _ _ _ r hK R' e2 fun v' u ev ch=>?_
     obtain⟨h1,h2⟩:=path_at e2
     obtain⟨v2,ev2,w⟩:=R'.slot (join_some h1)
     rw[ev]at ev2
     cases ev2
     rw[ed]at h2 ch
     obtain⟨ad,ws,ch',hH,hks,hl,_⟩:=Wd.mutD (us:=[]) (zs:=[]) w rfl h2
     obtain⟨e5,_⟩:=Chn.det ch ch'
     subst e5
     have hv:=R'.dt e1
     have hv':v=kV kk:=by cases dx<;>cases ek<;>cases hv<;>rfl
     subst hv'
     refine⟨ad,_,rfl,DGet.k hH,?_⟩
     rw[nI,hks]
     exact k _ H' _ _ (R'.drop.sc (.bl _)) q
    cases neg with
    | true=>exact s1 b F σ H ρ τ θ (fun r ρ'=>r=z.1/\ρ'=z.2) _ hK R ⟨z,e0,rfl,rfl⟩ go
    | false=>exact s1 b F σ H ρ τ θ (fun r ρ'=>r=z.1/\ρ'=z.2) _ hK R ⟨z,e0,rfl,rfl⟩ go
  refine⟨⟨_,hp,S⟩,⟨_,hpt,(lV S).imp (jG rfl fun ρ x h=>?_)⟩⟩
  obtain⟨z,e0,h⟩:=bnd h
  obtain⟨dx,e1,h⟩:=bnd h
  obtain⟨r,e2,h⟩:=bnd h
  obtain⟨kk,ek,h⟩:=bnd h
  obtain⟨uu,ed,h⟩:=bnd h
  cases h
  exact⟨_,rfl⟩
end
def EN(K:WF)(te:TE)(f:DEnv->Option PyData):Prop:=∀(b:Bs) (F:List Fr) (σ:St) (H:Hp) (ρ:DEnv) (τ:List V) (θ:List OR) (Q:VK) (d:PyData),b.K=K->Rel b F σ H ρ τ θ->f ρ=some d->(∀v H',Ext H H'->Rel b F σ H' ρ (v::τ) (.val (.fz d)::θ)->Q v H')->te σ H Q
inductive PDq (X:Cx)(e:Expr)(f:DEnv->Option PyData):Prop | mk (te:TE) (h:PE X e te) (s:EN X.K te f)
def Cr(K:WF)(te:TA)(f:DEnv->Option (List PyData)):Prop:=∀(b:Bs) (F:List Fr) (σ:St) (H:Hp) (ρ:DEnv) (τ:List V) (θ:List OR) (Q:List V->Hp->Prop) (ds:List PyData),b.K=K->Rel b F σ H ρ τ θ->f ρ=some ds->(∀vs H',Ext H H'->vs.length=ds.length->Rel b F σ H' ρ (vs++τ) (ds.map (fun d=>OR.val (.fz d))++θ)->Q vs H')->te σ H Q
inductive PDqs (X:Cx)(es:List Expr)(f:DEnv->Option (List PyData)):Prop | mk (te:TA) (h:PA X es te) (s:Cr X.K te f)
section
variable{X:Cx}{C:Ct}{a e e2:Expr}{es:List Expr}{ma mb:E}{mes:Es}{pos p p1 p2:Pos}{x:Str}{i j:Nat}{ps:List Acc}{k:Int}
theorem EO (hN:X.N[i]?=some x) (hv:Vis X.env.scope x) (hd:(x == ("__debug__":Str))=false) (hcd:(x == ("__classdict__":Str))=false):PDq X (.Name x pos) (jC C (.nm i)) :=
 ⟨_,bG hN hv hd hcd,fun b F σ H ρ τ θ Q d hK R h q=>by
  obtain⟨x0,e0,h⟩:=bnd h
  rw[cL h]at e0
  obtain⟨v,ev⟩:=R.wf.get (join_some e0)
  exact⟨v,ev,q v H (.refl H) (R.dupS (join_some e0) ev)⟩⟩
theorem Cu:PDq X (.Constant (.int k) j pos) (jC C (.int k)):=⟨_,jd,fun b F σ H ρ τ θ Q d hK R h q=>by
  cases h
  exact q _ H (.refl H) (R.sc (.int k))⟩
theorem EQ:PDp X e i ps->PDq X e (jC C (.pg i ps))
 | ⟨te,h,s⟩=>⟨te,h,fun b F σ H ρ τ θ Q d hK R h q=>by
  obtain⟨r,e1,h⟩:=bnd h
  refine s b F σ H ρ τ θ _ r hK R e1 fun v u ev ch=>?_
  exact q u H (.refl H) (R.partF e1 ev ch (cL h))⟩
theorem ER(hs:PlainIx e2):PDq X e (jC C ma)->PDq X e2 (jC C mb)->PDq X (.Subscript e e2 pos) (jC C (.ix ma mb))
 | ⟨_,h1,s1⟩,⟨_,h2,s2⟩=>⟨_,qN lL h1 h2 hs,fun b F σ H ρ τ θ Q d hK R h q=>by
  obtain⟨dx,e1,h⟩:=bnd h
  obtain⟨dy,e2,h⟩:=bnd h
  refine s1 b F σ H ρ τ θ _ dx hK R e1 fun v H1 E1 R1=>s2 b F σ H1 ρ _ _ _ dy hK R1 e2 fun u H2 E2 R2=>?_
  have w:=R2.drop2.drop
  have go:∀(l:Bool) (ds:List PyData) (n:Int),dx=(if l then .list ds else .tuple ds)->dy=.int n->atI ds n=some d->yj (Fj X.K) (fun _ _ Q=>Q v H2) (fun _ _ Q=>Q u H2) σ H Q:=fun l ds n hx hy ha=>by
   subst hx hy
   have hu:=R2.dt rfl
   cases hu
   obtain⟨pp,vs,u',rfl,hsq,hat,w2⟩:=Wd.itemF R2.drop.wd ha
   have hR:Rel b F σ H2 ρ (u'::τ) (.val (.fz d)::θ):=Rel.push R2.drop.drop w2
   rcases hsq with z | z
   ·exact .inl ⟨pp,vs,n,u',rfl,rfl,hK ▸ z,hat,q u' H2 (E1.trans E2) hR⟩
   ·exact .inr (.inl ⟨pp,vs,n,u',rfl,rfl,hK ▸ z,hat,q u' H2 (E1.trans E2) hR⟩)
  obtain⟨ds,f1,h⟩:=bnd h
  obtain⟨n,f2,h⟩:=bnd h
  rcases jB f1 with f1 | f1
  ·exact go true ds n f1 (aK f2) h
  ·exact go false ds n f1 (aK f2) h⟩
theorem zD:PDqs X [] (l5 C .nil):=⟨_,cJ,fun b F σ H ρ τ θ Q d hK R h q=>by
 cases h
 exact q [] H (.refl H) rfl R⟩
theorem vM(hs:isStar e=false):PDq X e (jC C ma)->PDqs X es (l5 C mes)->PDqs X (e::es) (l5 C (.cons ma mes))
 | ⟨_,h1,s1⟩,⟨_,h2,s2⟩=>⟨_,be h1 h2 (aA hs),fun b F σ H ρ τ θ Q d hK R h q=>by
  obtain⟨dx,e1,h⟩:=bnd h
  obtain⟨dy,e2,h⟩:=bnd h
  cases h
  refine s1 b F σ H ρ τ θ _ dx hK R e1 fun v H1 E1 R1=>s2 b F σ H1 ρ _ _ _ dy hK R1 e2 fun vs H2 E2 el R2=>q (v::vs) H2 (E1.trans E2) (by simp[el]) ?_
  exact Rel.rot R2 (by simp[el])⟩
theorem Cv{x1}:PDqs X es (l5 C mes)->PDq X (.Tuple es x1 pos) (jC C (.tup mes))
 | ⟨_,h1,s1⟩=>⟨_,lJ h1,fun b F σ H ρ τ θ Q d hK R h q=>by
  obtain⟨ds,e1,h⟩:=bnd h
  obtain⟨_,hz,h⟩:=bnd h
  have hz:=gd_ok hz
  ·cases h
   refine s1 b F σ H ρ τ θ _ ds hK R e1 fun vs H1 E1 el R1=>⟨aan (by omega:_≤1000000) (by decide),fun p hp=>q _ _ (E1.trans (.upd hp)) ?_⟩
   have e2:ds.map (fun d=>OR.val (.fz d))=(ds.map OD.fz).map OR.val:=by simp
   rw[e2]at R1
   have w:=R1.vals (by simpa using el)
   have w2:=kA w (by simpa using el) hp
   have e3:mkTup (ds.map OD.fz)=.fz (.tuple ds):=by simp only[mkTup,eI]
   rw[e3]at w2
   exact Rel.push (R1.drops (by simpa using el)) w2⟩
end
end
section
section
variable{b:Bs}{S:Addr->Prop}{H:Hp}{vs us:List V}{xs zs:List OD}{A B C:List Addr}{v:V}{z:OD}
theorem Ows.addA(nt:∀c xs,H c=some (.tup xs)->¬ S c)(h1:Ows b S H vs xs A)(h2:Ows b S H us zs C)(nd:(A++C).Nodup):∃D,Ows b S H (vs++us) (xs++zs) D/\D.Nodup/\∀c∈D,c∈A\/c∈C:=⟨A++C,Ows.append h1 h2,nd,fun c hc=>aai.mp hc⟩
theorem Ows.one(h:Ows b S H [v] [z] C):Ow b S H v z C:=by
 cases h with
 | cons r t=>cases t;rw[aaq];exact r
theorem Ows.setA(hj:j < xs.length)(h1:Ows b S H vs xs A)(h2:Ows b S H [v] [z] C)(nd:(A++C).Nodup):∃D,Ows b S H (vs.set j v) (xs.set j z) D/\D.Nodup/\∀c∈D,c∈A\/c∈C:=by
 obtain⟨q,A1,B,A2,e1,rfl,e3,e4⟩:=h1.zip (aar hj)
 refine⟨A1++(C++A2),e4 h2.one fun _ h=>h,?_,fun c hc=>?_⟩
 ·have p:((A1++(B++A2))++C).Perm (B++(A1++(C++A2))):=by
   refine ((bB A1 B A2).append_right C).trans ?_
   rw[aah]
   refine aa2 B ?_
   rw[aah]
   exact aa2 A1 aaT
  exact (aaC.mp (p.nodup_iff.mp nd)).2.1
 ·simp only[aai]at hc ⊢
  rcases hc with hc | hc | hc
  ·exact .inl (.inl hc)
  ·exact .inr hc
  ·exact .inl (.inr (.inr hc))
theorem jH:∀{fs:List (Str × V)} {xs:List OD},fs.length=xs.length->(bR f v fs).map (·.1)=(bf f z (fs.map (·.1)) xs).1
 | [],[],_=>rfl
 | (g,q)::fs,x::xs,e=>by
  simp only[bR,bf,aal]
  by_cases hg:g=f
  ·rw[if_pos hg,if_pos hg];rfl
  ·rw[if_neg hg,if_neg hg,aal,jH (fs:=fs) (by simpa using e)]
 | [],_::_,e=>by simp at e
 | _::_,[],e=>by simp at e
theorem g9:∀{fs:List (Str × V)} {xs:List OD} {A:List Addr},Ows b S H (fs.map (·.2)) xs A->Ow b S H v z C->(A++C).Nodup->∃D,Ows b S H ((bR f v fs).map (·.2)) (bf f z (fs.map (·.1)) xs).2 D/\D.Nodup/\∀c∈D,c∈A\/c∈C
 | [],_,_,.nil,h2,nd=>⟨C++[],.cons h2 .nil,by simpa using nd,fun c hc=>.inr (by simpa using hc)⟩
 | (g,q)::fs,x::xs,_,.cons (A:=A1) (B:=A2) r t,h2,nd=>by
  simp only[bR,bf,aal]
  by_cases hg:g=f
  ·rw[if_pos hg,if_pos hg]
   refine⟨C++A2,.cons h2 t,?_,fun c hc=>?_⟩
   ·rw[aah]at nd
    exact (aaT.nodup_iff.mp (aaC.mp nd).2.1)
   ·rcases aai.mp hc with h | h
    ·exact .inr h
    ·exact .inl (aab _ h)
  ·rw[if_neg hg,if_neg hg]
   rw[aah]at nd
   obtain⟨n1,n2,n3⟩:=aaC.mp nd
   obtain⟨D,hD,nD,sD⟩:=g9 t h2 n2
   refine⟨A1++D,.cons r hD,aaC.mpr ⟨n1,nD,fun c hc c' hc' e=>n3 c hc c' (aai.mpr (sD c' hc')) e⟩,fun c hc=>?_⟩
   rcases aai.mp hc with h | h
   ·exact .inl (aad _ h)
   ·exact (sD c h).imp (aab _) id
theorem vN(e:ws.length=xs.length):(putK ws k v).map (·.1)=(cM k d (ws.map (·.1)) xs).1:=by
 unfold putK cM
 rw[List.any_map]
 have hh:((fun q=>decide (q=k)) ∘ fun x:Key × V=>x.1)=fun kv=>decide (kv.1=k):=rfl
 rw[hh]
 by_cases hk:(ws.any fun kv=>decide (kv.1=k))=true
 ·rw[if_pos hk,if_pos hk,aa3]
  refine aci fun q _=>?_
  simp only[Function.comp]
  split<;>rfl
 ·rw[if_neg hk,if_neg hk,aax];rfl
theorem kN(hv:Fz b.K S H v d):∀{ws:List (Key × V)} {xs:List OD} {A:List Addr},Ows b S H (ws.map (·.2)) xs A->∃D,Ows b S H ((ws.map (fun kv=>if kv.1=k then (kv.1,v) else kv)).map (·.2)) (List.zipWith (fun q x=>if q=k then .fz d else x) (ws.map (·.1)) xs) D/\D.Sublist A
 | [],_,_,.nil=>⟨[],.nil,abU _⟩
 | (g,q)::ws,x::xs,_,.cons (A:=A1) r t=>by
  obtain⟨D,hD,sD⟩:=kN hv t
  simp only[aal,List.zipWith_cons_cons]
  by_cases hg:g=k
  ·rw[if_pos hg,if_pos hg]
   exact⟨[]++D,.cons (.fz hv) hD,(aaP D).symm ▸ sD.trans (List.sublist_append_right _ _)⟩
  ·rw[if_neg hg,if_neg hg]
   exact⟨A1++D,.cons r hD,(abU A1).append sD⟩
theorem su(h1:Ows b S H (ws.map (·.2)) xs A)(h2:Ows b S H [v] [.fz d] C)(nd:(A++C).Nodup):∃D,Ows b S H ((putK ws k v).map (·.2)) (cM k d (ws.map (·.1)) xs).2 D/\D.Nodup/\∀c∈D,c∈A\/c∈C:=by
 have hf:Fz b.K S H v d:=by cases h2 with | cons r t=>cases r with | fz f=>exact f
 have nA:=(aaC.mp nd).1
 unfold putK cM
 rw[List.any_map]
 have hh:((fun q=>decide (q=k)) ∘ fun x:Key × V=>x.1)=fun kv=>decide (kv.1=k):=rfl
 rw[hh]
 by_cases hk:(ws.any fun kv=>decide (kv.1=k))=true
 ·rw[if_pos hk,if_pos hk]
  obtain⟨D,hD,sD⟩:=kN hf h1
  exact⟨D,hD,sD.nodup nA,fun c hc=>.inl (sD.subset hc)⟩
 ·rw[if_neg hk,if_neg hk,aax]
  exact⟨A++[],Ows.append h1 (.cons (.fz hf) .nil),by simpa using nA,fun c hc=>.inl (by simpa using hc)⟩
end
section
variable{X:Cx}{W:Nat->Prop}{m:Nat}{C:Ct}{a b c e e2 kx:Expr}{es:List Expr}{sts s1 s2:List Stmt}{st:Stmt}{ma mb mc mk':E}{mes:Es}{ms:S'}{mss ma' mb':Ss}{pos p p1 p2 p3 pos' apos cpos:Pos}{x:Str}{i j:Nat}{ps:List Acc}
theorem zE{o i:Expr}(h:bw i=false):∀v,assign (.Subscript o i pos) env v=(do
   let ov <- holding [v] (eval o env)
   let iv <- holding [v,ov] (eval i env)
   standAt pos
   holding [v,ov,iv] (setItem ov iv v)
   release [v,ov,iv] []):=by
 cases i<;>first | (intro _;rfl) | cases h
theorem zF{env:Env}(h:isStar e=false):((backTo cpos (starEach [e] env)).all (fun x=>!x.1) && (backToKw cpos (keywordEach [] env)).all (fun x=>x.1.isSome)
   && decide ([e].length + ([]:List Keyword).length + (if ([]:List Keyword).isEmpty then 0 else 1) < 30))=true:=by
 cases e<;>first | rfl | cases h
theorem Rel.cell{b:Bs}{τ:List V}{x:OD}(R:Rel b F σ H ρ τ θ)(g1:ρ[i]?.join=some x)(g2:x.at ks=some (.lst xs))(ev:σ[i]?=some (some v))(ch:Chn b H v x ks u (.lst xs)):∃l vs,u=.ref l/\H l=some (.lst vs):=by
 obtain⟨v',ev',w0⟩:=R.slot (join_some g1)
 rw[ev]at ev'
 cases ev'
 obtain⟨l0,vs0,ch0,hH0,_,_⟩:=Wd.mutL (us:=[]) (zs:=[]) w0 rfl g2
 exact⟨l0,vs0,(Chn.det ch ch0).1,hH0⟩
theorem Rel.cell0{b:Bs}{F:List Fr}(R:Rel b F σ H ρ τ θ)(g1:ρ[i]?.join=some (.lst xs)):∃v,σ[i]?=some (some v)/\∃l vs,v=.ref l/\H l=some (.lst vs):=by
 obtain⟨v,ev⟩:=R.wf.get (join_some g1)
 exact⟨v,ev,R.cell g1 rfl ev .nil⟩
theorem Rel.addAt{b:Bs}{x o:OD}{v v1:V}(R:Rel b F σ H ρ (v1::τ) (.val o::θ))(g1:ρ[i]?.join=some x)(g2:x.at ks=some (.lst xs))(ev:σ[i]?=some (some v))(ch:Chn b H v x ks (.ref l) (.lst xs))(hz:xs.length < 1000000) :
  ∃vs,H l=some (.lst vs)/\vs.length < sizeLine/\Rel b F σ (upd H l (.lst (vs++[v1]))) (ρ.set i (some (OD.put (.lst (xs++[o])) ks x))) τ θ:=by
 obtain⟨v',ev',w⟩:=Rel.open (us:=[v1]) (zs:=[o]) R rfl g1
 rw[ev]at ev'
 cases ev'
 obtain⟨l',vs,ch',hH,hl,go⟩:=w.mutL rfl g2
 obtain⟨e6,_⟩:=Chn.det ch ch'
 cases e6
 exact⟨vs,hH,aay (by omega) (by decide:1000001≤sizeLine),Rel.close (Rel.rest (us:=[v1]) (zs:=[o]) R rfl) ev (go (vs++[v1]) (xs++[o]) fun S H A C nt h1 h2 nd=>Ows.addA nt h1 h2 nd)⟩
theorem Cw (hN:X.N[i]?=some x) (hv:Vis X.env.scope x) (hd:(x == ("__debug__":Str))=false) (hcd:(x == ("__classdict__":Str))=false) (hline:(apos.endLine == cpos.line)=true) (hs:isStar e=false) :
  PDe X e (aD C ma)->PDs X W (.Expr (.Call (.Attribute (.Name x pos') "append" apos) [e] [] cpos) pos) (gB C (.app i ma))
 | ⟨_,h,s⟩=>⟨_,gz (qP abV abW abX dM (bG hN hv hd hcd) (be h cJ (aA hs)) rfl (zF hs) hline (aA hs) (bi rfl)) rfl,fun b F σ H ρ τ θ Dd D hK n R ⟨y,h,q⟩ E=>by
  obtain⟨x0,e0,h⟩:=bnd h
  obtain⟨xs0,f0,h⟩:=bnd h
  obtain⟨z,e1,h⟩:=bnd h
  obtain⟨o,e2,h⟩:=bnd h
  obtain⟨x1,ex,h⟩:=bnd h
  obtain⟨xs,f1,h⟩:=bnd h
  obtain⟨_,hz,h⟩:=bnd h
  cases h
  rw[fP f0]at e0
  rw[fP f1]at ex
  obtain⟨v,ev,l0,vs0,rfl,hH0⟩:=R.cell0 e0
  refine⟨.ref l0,ev,.inl ⟨rfl,vs0,SqL.of hH0⟩,?_⟩
  refine s b F σ H ρ τ θ (fun r ρ'=>r=z.1/\ρ'=z.2) _ hK R ⟨z,e1,rfl,rfl⟩ fun v1 H1 r ρ1 R1 hZ=>?_
  obtain⟨h1,h2⟩:=hZ
  subst h1 h2
  obtain⟨vs,hH,hl,R3⟩:=Rel.addAt (R1.own1 e2) ex rfl ev .nil (gd_ok hz)
  exact⟨l0,vs,v1,rfl,rfl,hH,hl,E.nx σ _ _ R3 q⟩⟩
theorem Cz (hb:attributeBase e "append" X.env (eval e X.env)=eval e X.env) (hline:(apos.endLine == cpos.line)=true) (hs:isStar a=false) :
  PDp X e i ps->PDq X a (jC C ma)->PDs X W (.Expr (.Call (.Attribute e "append" apos) [a] [] cpos) pos) (gB C (.apd i ps ma))
 | ⟨_,h0,s0⟩,⟨_,h,s⟩=>⟨_,gz (qP abV abW abX dM h0 (be h cJ (aA hs)) hb (zF hs) hline (aA hs) (bi rfl)) rfl,fun b F σ H ρ τ θ Dd D hK n R ⟨y,h,q⟩ E=>by
  obtain⟨r,e1,h⟩:=bnd h
  obtain⟨d,e2,h⟩:=bnd h
  obtain⟨xs,ex,h⟩:=bnd h
  obtain⟨_,hz,h⟩:=bnd h
  cases h
  obtain⟨g1,g2⟩:=path_at e1
  refine s0 b F σ H ρ τ θ _ r hK R e1 fun v u ev ch=>?_
  rw[fP ex]at g2 ch
  obtain⟨l0,vs0,rfl,hH0⟩:=R.cell g1 g2 ev ch
  refine⟨.inl ⟨rfl,vs0,SqL.of hH0⟩,s b F σ H ρ τ θ _ d hK R e2 fun v1 H1 E1 R1=>?_⟩
  obtain⟨vs,hH,hl,R3⟩:=Rel.addAt R1 g1 g2 ev (ch.ext E1) (gd_ok hz)
  exact⟨l0,vs,v1,rfl,rfl,hH,hl,E.nx σ _ _ R3 q⟩⟩
theorem Rel.moved{b:Bs}{F:List Fr}(R:Rel b F σ H ρ τ θ)(e:ρ[j]?.join=some y):∃v,σ[j]?=some (some v)/\Rel b F σ H (ρ.set j none) (v::τ) (.val y::θ):=by
 obtain⟨v,ev⟩:=R.wf.get (join_some e)
 have R0:Rel b F σ H ρ (v::τ) (.rf j::θ):=⟨R.wf,⟨ev,R.al⟩,R.wff,R.wd⟩
 obtain⟨_,_,w⟩:=R.slot (join_some e)
 rename_i v' ev'
 rw[ev]at ev'
 cases ev'
 exact⟨v,ev,⟨R.wf.off,R.al,R.wff,w⟩⟩
theorem CA (hN:X.N[i]?=some x) (hv:Vis X.env.scope x) (hd:(x == ("__debug__":Str))=false) (hcd:(x == ("__classdict__":Str))=false) (hk:bw kx=false) (hs:swapsWith e (some (.Subscript (.Name x pos') kx p2)) pos.line X.env=pure false) (hw:swappedStores [.Subscript (.Name x pos') kx p2] e X.env=pure none) :
  PDe X e (aD C ma)->PDe X kx (aD C mk')->PDs X W (.Assign [.Subscript (.Name x pos') kx p2] e pos) (gB C (.sti i mk' ma))
 | ⟨_,h1,s1⟩,⟨_,h2,s2⟩=>⟨_,qu h1 (yb (bG hN hv hd hcd) h2 set_list (zE hk)) hs hw rfl,fun b F σ H ρ τ θ Dd D hK n R ⟨y,h,q⟩ E=>by
  obtain⟨z,e1,h⟩:=bnd h
  obtain⟨o,e2,h⟩:=bnd h
  refine s1 b F σ H ρ τ θ (fun r ρ'=>r=z.1/\ρ'=z.2) _ hK R ⟨z,e1,rfl,rfl⟩ fun v1 H1 r ρ1 R1 hZ=>?_
  obtain⟨h1,h2⟩:=hZ
  subst h1 h2
  have R2:=R1.own1 e2
  obtain⟨x0,e0,h⟩:=bnd h
  obtain⟨xs0,f0,h⟩:=bnd h
  obtain⟨t,e3,h⟩:=bnd h
  obtain⟨dk,ek,h⟩:=bnd h
  obtain⟨k,fk,h⟩:=bnd h
  obtain⟨x1,ex,h⟩:=bnd h
  obtain⟨xs,f1,h⟩:=bnd h
  obtain⟨jj,ej,h⟩:=bnd h
  rw[aK fk]at ek
  rw[fP f1]at ex
  ·obtain⟨v,ev⟩:=R2.wf.get (join_some e0)
   refine⟨v,ev,s2 b F σ H1 _ _ _ (fun r ρ'=>r=t.1/\ρ'=t.2) _ hK R2 ⟨t,e3,rfl,rfl⟩ fun v2 H2 r ρ2 R3 hZ=>?_⟩
   obtain⟨h1,h2⟩:=hZ
   subst h1 h2
   ·cases h
    have hk:=R3.dt ek
    cases hk
    obtain⟨v',ev',w⟩:=Rel.open (us:=[v1]) (zs:=[o.1]) R3.drop rfl ex
    rw[ev]at ev'
    cases ev'
    obtain⟨l,vs,ch,hH,hl,go⟩:=w.mutL (ks:=[]) rfl rfl
    cases ch
    refine⟨l,vs,k,jj,rfl,rfl,hH,by rw[hl];exact ej,?_⟩
    exact E.nx σ _ _ (Rel.close (Rel.rest (us:=[v1]) (zs:=[o.1]) R3.drop rfl) ev (go (vs.set jj v1) (xs.set jj o.1) fun S H A C nt h1 h2 nd=>Ows.setA (y0 ej) h1 h2 nd)) q⟩
theorem CB(hu:X.A.units + 1 < cLine)(hs:swapsWith a (some (.Subscript e e2 p2)) pos.line X.env=pure false) :
  PDp X e i ps->PX X e2 (fun σ=>σ[j]?.join)->PDe X a (aD C ma)->PDs X W (.Assign [.Subscript e e2 p2] a pos) (gB C (.std i ps j ma))
 | ⟨_,h0,s0⟩,⟨_,h2,s2⟩,⟨_,h1,s1⟩=>⟨_,uS hu h0 h2 h1 hs,fun b F σ H ρ τ θ Dd D hK n R ⟨y,h,q⟩ E=>by
  obtain⟨z,e1,h⟩:=bnd h
  obtain⟨o,e2,h⟩:=bnd h
  obtain⟨r,e3,h⟩:=bnd h
  refine s1 b F σ H ρ τ θ (fun r ρ'=>r=z.1/\ρ'=z.2) _ hK R ⟨z,e1,rfl,rfl⟩ fun v1 H1 r' ρ1 R1 hZ=>?_
  obtain⟨h1,h2⟩:=hZ
  subst h1 h2
  have R2:=R1.frz1 e2
  obtain⟨x0,e4,h⟩:=bnd h
  obtain⟨kd,f0,h⟩:=bnd h
  obtain⟨kk,e5,h⟩:=bnd h
  obtain⟨uu,ex,h⟩:=bnd h
  obtain⟨_,hz,h⟩:=bnd h
  have hz:=gd_ok hz
  have ex:=sf ex
  rw[cL f0]at e4
  obtain⟨ks,xs⟩:=uu
  simp only at hz ex h
  ···cases h
     obtain⟨g1,g2⟩:=path_at e3
     refine s0 b F σ H1 _ _ _ _ r hK R2 e3 fun v u ev ch=>s2 σ H1 _ _ (R2.keyS e4 e5) ?_
     obtain⟨v',ev',w⟩:=Rel.open (us:=[v1]) (zs:=[.fz o.1]) R2 rfl g1
     rw[ev]at ev'
     cases ev'
     rw[ex]at g2 ch
     obtain⟨l,ws,ch2,hH,hks,hl,go⟩:=w.mutD rfl g2
     obtain⟨e6,_⟩:=Chn.det ch ch2
     subst e6 hks
     refine⟨l,_,rfl,DPut.k hH (aay (by omega) (by decide:1000001≤sizeLine)),?_⟩
     exact E.nx σ _ _ (Rel.close (Rel.rest (us:=[v1]) (zs:=[.fz o.1]) R2 rfl) ev (go (putK ws kk v1) _ _ (vN hl) fun S H A C nt h1 h2 nd=>su h1 h2 nd)) q⟩
theorem CD {c f:Str} (hN:X.N[i]?=some x) (hv:Vis X.env.scope x) (hd:(x == ("__debug__":Str))=false) (hcd:(x == ("__classdict__":Str))=false) (hc:Cls X.K (am X.K c)) (hn:NoAttr X.K (am X.K c) f) (hs:swapsWith e (some (.Attribute (.Name x pos') f p2)) pos.line X.env=pure false) :
  PDe X e (aD C ma)->PDs X W (.Assign [.Attribute (.Name x pos') f p2] e pos) (gB C (.stf i c f ma))
 | ⟨_,h1,s1⟩=>⟨_,yv (bG hN hv hd hcd) h1 hs,fun b F σ H ρ τ θ Dd D hK n R ⟨y,h,q⟩ E=>by
  obtain⟨z,e1,h⟩:=bnd h
  obtain⟨o,e2,h⟩:=bnd h
  refine s1 b F σ H ρ τ θ (fun r ρ'=>r=z.1/\ρ'=z.2) _ hK R ⟨z,e1,rfl,rfl⟩ fun v1 H1 r ρ1 R1 hZ=>?_
  obtain⟨h1,h2⟩:=hZ
  subst h1 h2
  have R2:=R1.own1 e2
  obtain⟨x0,ex,h⟩:=bnd h
  obtain⟨uu,f0,h⟩:=bnd h
  obtain⟨_,hz,h⟩:=bnd h
  have hz:=gd_ok hz
  rw[jA f0]at ex
  obtain⟨c',ns,xs⟩:=uu
  simp only at hz ex h
  ··cases h
    obtain⟨hcc,hz⟩:=hz
    subst hcc
    obtain⟨v,ev,w⟩:=Rel.open (us:=[v1]) (zs:=[o.1]) R2 rfl ex
    obtain⟨l,dx,fs,ch,hH,hks,hl,go⟩:=w.mutO (ks:=[]) rfl rfl
    cases ch
    subst hks
    refine⟨.ref l,ev,l,_,dx,fs,rfl,hH,hK ▸ hc,hK ▸ hn,by omega,?_⟩
    exact E.nx σ _ _ (Rel.close (Rel.rest (us:=[v1]) (zs:=[o.1]) R2 rfl) ev (go (bR f v1 fs) _ _ (jH hl) fun S H A C nt h1 h2 nd=>g9 h1 h2.one nd)) q⟩
theorem CF {c f:Str} (hN:X.N[i]?=some x) (hv:Vis X.env.scope x) (hd:(x == ("__debug__":Str))=false) (hcd:(x == ("__classdict__":Str))=false) (hc:Cls X.K (am X.K c)) (hn:NoAttr X.K (am X.K c) f) (h1:PDe X e (aD C ma)) :
  PDs X W (.AugAssign (.Attribute (.Name x pos') f p2) (opOf o) e pos) (gB C (.agf i c f o ma)):=by
 have key:∀(op:Operator) (g:Int->Int->Int),uE X op (fun x y H Q=>∃i j,x=.int i/\y=.int j/\Q (.int (g i j)) H)->(∀a d r,kH o a d=some r->∃k,d=.int k/\r=g a k)->PDs X W (.AugAssign (.Attribute (.Name x pos') f p2) op e pos) (gB C (.agf i c f o ma)):=fun op g ho hg=>by
  obtain⟨_,h,s1⟩:=h1
  refine⟨_,pe (bG hN hv hd hcd) h ho,fun b F σ H ρ τ θ Dd D hK n R ⟨y,h,q⟩ E=>?_⟩
  obtain⟨r,e1,h⟩:=bnd h
  obtain⟨d0,f0,h⟩:=bnd h
  obtain⟨n0,f1,h⟩:=bnd h
  obtain⟨z,e2,h⟩:=bnd h
  obtain⟨d,e3,h⟩:=bnd h
  obtain⟨nr,e4,h⟩:=bnd h
  obtain⟨x1,ex,h⟩:=bnd h
  obtain⟨uu,f5,h⟩:=bnd h
  obtain⟨_,hz,h⟩:=bnd h
  have hz:=gd_ok hz
  rw[jA f5]at ex
  obtain⟨c2,ns2,xs2⟩:=uu
  simp only at hz ex h
  have e0:=cL f0
  rw[aK f1]at e0
  cases h
  ·have hg4:=hg
   obtain⟨k,rfl,rfl⟩:=hg _ _ _ e4
   obtain⟨g1,g2⟩:=path_at e1
   obtain⟨v,ev,w0⟩:=R.slot (join_some g1)
   obtain⟨u,ch⟩:=w0.way g2
   have hu:=R.partD e1 ev ch (by rw[e0];rfl)
   obtain⟨r0,f1,e1⟩:=bnd e1
   obtain⟨k0,f2,e1⟩:=bnd e1
   obtain⟨z0,f3,e1⟩:=bnd e1
   obtain⟨x0,f4,f1⟩:=bnd f1
   cases f1
   cases e1
   simp only[aaP]at ch g2 e0 f2 f3 g1
   obtain⟨ns,xs,ey,f7⟩:=Cj f2
   subst ey
   cases ch with
   | cons cd cn =>
    cases cn
    cases cd with
    | @obj l dx c' fs _ _ _ _ _ q1 q2 q5 q3 q4 =>
     ·cases hu
      refine⟨_,ev,l,_,dx,fs,.int n0,rfl,q1,hK ▸ hc,hK ▸ hn,lookup_at (by rw[q2];exact f7) q3,?_⟩
      refine s1 b F σ H ρ τ θ (fun r ρ'=>r=z.1/\ρ'=z.2) _ hK R ⟨z,e2,rfl,rfl⟩ fun v1 H1 r ρ1 R1 hZ=>?_
      obtain⟨h1,h2⟩:=hZ
      subst h1 h2
      have hv1:=R1.dt e3
      cases hv1
      refine⟨n0,k,rfl,rfl,?_⟩
      ··obtain⟨hcc,hz⟩:=hz
        subst hcc
        have R2:Rel b F σ H1 z.2 (.int (g n0 k)::τ) (.val (.fz (.int (g n0 k)))::θ):=R1.drop.sc (.int _)
        obtain⟨v',ev',w⟩:=Rel.open (us:=[.int (g n0 k)]) (zs:=[.fz (.int (g n0 k))]) R2 rfl ex
        rw[ev]at ev'
        cases ev'
        obtain⟨l2,dx2,fs2,ch2,hH,hks,hl,go⟩:=w.mutO (ks:=[]) rfl rfl
        cases ch2
        subst hks
        refine⟨dx2,fs2,hH,by omega,?_⟩
        exact E.nx σ _ _ (Rel.close R1.drop ev (go (bR f _ fs2) _ _ (jH hl) fun S H A C nt h1 h2 nd=>g9 h1 h2.one nd)) q
 have nil:∀op,(∀a d,kH o a d=none)->PDs X W (.AugAssign (.Attribute (.Name x pos') f p2) op e pos) (gB C (.agf i c f o ma)):=fun op hn=>by
  refine⟨_,kb,fun b F σ H ρ τ θ Dd D hK n R ⟨y,h,q⟩ E=>?_⟩
  obtain⟨r,e1,h⟩:=bnd h
  obtain⟨d0,f0,h⟩:=bnd h
  obtain⟨n0,f1,h⟩:=bnd h
  obtain⟨z,e2,h⟩:=bnd h
  obtain⟨dk,ek,h⟩:=bnd h
  rw[hn]at h
  cases h
 cases o with
 | add=>exact key _ _ yw fun a d r h=>by cases d<;>cases h;exact⟨_,rfl,rfl⟩
 | sub=>exact key _ _ yx fun a d r h=>by cases d<;>cases h;exact⟨_,rfl,rfl⟩
 | _=>exact nil _ fun a d=>rfl
end
end
section
section
variable{X:Cx}{C:Ct}{a e e2:Expr}{es:List Expr}{ma mb:E}{mes:Es}{pos p p1 p2 apos:Pos}{x:Str}{i j:Nat}{k n:Nat}{f:Addr}{fd:FuncData}{ps:List Str}{sp:DSp}{c m:Str}{ff:Nat}
theorem pY{E:XK}(mono:rl sp)(el:vs.length=rs.length)(R1:Rel b F σ H ρ1 (vs++τ) (rs++θ))(e1:bc ios ρ1 rs=some (xs,ρ2))(h:sp xs P)
  (q:∀x ys v H',P x ys->Rel b F σ H' (dv ios rs ys ρ2) (v::τ) (.val x::θ)->Q v H'):toSp b.K sp vs H Q E:=by
 obtain⟨R2,e2⟩:=argsR_ok R1 el e1
 have al:=((aM el).mp R1.al).1
 have w:=R2.vals e2
 refine w.call e2 mono (mono _ _ _ (fun x ys hx eys v H' w'=>q x ys v H' hx ?_) h)
 have R3:Rel b F σ H' ρ2 (v::(vs++τ)) (.val x::(ys.map OR.val++θ)):=by
  have R0:=R2.drops (by simpa using e2)
  refine⟨R0.wf,(aM (by simpa using eys)).mpr ⟨eU eys,R0.al⟩,R0.wff,?_⟩
  show Wd b H' ((v,x)::(stk (vs++τ) (ys.map OR.val++θ)++_))
  rw[aC (by simpa using eys),bS eys,aah]
  exact w'
 exact bE al eys (Rel.tor R3 (by simpa using eys))
def spC(g:List OD->Option (OD × List OD)):DSp:=fun xs Q=>∃w,g xs=some w/\Q w.1 w.2
theorem sv(g:List OD->Option (OD × List OD)):rl (spC g):=fun xs P R h ⟨w,e,q⟩=>⟨w,e,h _ _ q⟩
theorem iW{f:Str}:∀{fs:List (Str × V)},f ∉ fs.map (·.1)->fs.lookup f=none
 | [],_=>rfl
 | (g,q)::fs,h=>by
  have h1:f≠g:=fun e=>h (by simp[e])
  have hb:(f == g)=false:=by simpa using h1
  have:=iW fun z=>h (by rw[aal];exact aag _ z)
  simp[List.lookup,hb,this]
theorem kO(G:FnD X.prog X.w X.K X.mg X.base k f fd ps (spC (C.call ff)))(s1:rm X.K ta (eK C mes)):cm X.K (qJ (am X.K c) m (toSp X.K (spC (C.call ff))) [] E0 (tVar i) ta) (aD C (.meth c m ff i mes)):=fun b F σ H ρ τ θ Qd Q hK R ⟨y,h,q⟩ kk=>by
 obtain⟨x0,e0,h⟩:=bnd h
 obtain⟨uu,f0,h⟩:=bnd h
 obtain⟨_,hz,h⟩:=bnd h
 obtain⟨hcc,hz⟩:=gd_ok hz
 rw[jA f0,hcc]at e0
 ··obtain⟨z,e1,h⟩:=bnd h
   obtain⟨o,e2,h⟩:=bnd h
   obtain⟨w,e3,h⟩:=bnd h
   cases h
   obtain⟨v,ev,w0⟩:=R.slot (join_some e0)
   obtain⟨l,dx,fs,ch,hH,hks,hl,go⟩:=Wd.mutO (us:=[]) (zs:=[]) (ks:=[]) w0 rfl rfl
   cases ch
   rw[<- hks]at hz
   refine⟨.ref l,ev,l,dx,fs,rfl,hK ▸ hH,iW hz,?_⟩
   have R0:Rel b F σ H ρ (.ref l::τ) (.rf i::θ):=⟨R.wf,⟨ev,R.al⟩,R.wff,R.wd⟩
   refine s1 b F σ H ρ _ _ (fun r ρ'=>r=z.1/\ρ'=z.2) _ hK R0 ⟨z,e1,rfl,rfl⟩ fun vs H1 rs ρ1 el R1 hZ=>?_
   obtain⟨h1,h2⟩:=hZ
   subst h1 h2
   rw[aaq,<- hK]
   refine pY (P:=fun x ys=>x=w.1/\ys=w.2) G.mono (by simp[el]) (Rel.rot R1 el) e2 ⟨w,e3,rfl,rfl⟩ fun x ys v H' hx R'=>?_
   obtain⟨h1,h2⟩:=hx
   subst h1 h2
   exact kk v H' _ _ R' q
theorem ES(hf:methodCallForm n args kws=true)(hl:(apos.endLine == pos.line)=true) :
  methodCall o name apos pos env ov n args kws=(do let (f,first) <- holding [ov] (getMethod ov name (do return (<- importBound o env).getD true));callWith pos f first args kws):=by
 unfold methodCall calleeOf methodCallPos
 rw[hf,hl]
 rfl
theorem sx(h:es.any isStar=false)(hn:decide (es.length < 30)=true)(hl:(apos.endLine == pos.line)=true) :
  eval (.Call (.Attribute (.Name x p1) m apos) es [] pos) env=(do
   let ov <- eval (.Name x p1) env
   standAt apos.atName
   let (f,first) <- holding [ov] (getMethod ov m (do return (<- importBound (.Name x p1) env).getD true))
   callWith pos f first (backTo pos (starEach es env)) (backToKw pos (keywordEach [] env))):=by
 have hf:methodCallForm (es.length + ([]:List Keyword).length) (backTo pos (starEach es env)) (backToKw pos (keywordEach [] env))=true:=by
  have h1:(backTo pos (starEach es env)).all (fun z=>!z.1)=true:=by
   have:=bi (pos:=pos) (env:=env) h
   rw[aaU]
   intro z hz
   rw[List.any_eq_false]at this
   have:=this z hz
   simpa using this
  unfold methodCallForm
  rw[h1]
  simpa [keywordEach,backToKw] using hn
 show (eval (.Name x p1) env >>= fun ov=>standAt apos.atName >>= fun _=>methodCall (.Name x p1) m apos pos env ov (es.length + ([]:List Keyword).length) (backTo pos (starEach es env)) (backToKw pos (keywordEach [] env)))=_
 simp only[ES hf hl]
theorem zG(hc:Cls X.K (am X.K c))(hm:Meth X.K (am X.K c) m f)(G:FnD X.prog X.w X.K X.mg X.base k f fd ps (spC (C.call ff)))(hr:Room k X.A)(hb:Binds X.K fd ps [])
  (hN:X.N[i]?=some x) (hv:Vis X.env.scope x) (hd:(x == ("__debug__":Str))=false) (hcd:(x == ("__classdict__":Str))=false) (he:isStar e=false) (hes:es.any isStar=false) (hn:decide ((e::es).length < 30)=true) (hl:(apos.endLine == pos.line)=true) :
  PDa X (e::es) (eK C mes)->PDe X (.Call (.Attribute (.Name x p1) m apos) (e::es) [] pos) (aD C (.meth c m ff i mes))
 | ⟨_,h1,s1⟩=>⟨_,uG (E:=E0) (bG hN hv hd hcd) hc hm G.ok hr hb .nil kj h1 (aA he) (bi hes) (sx (by rw[aaO,he,hes];rfl) hn hl),kO G s1⟩
theorem vO(hc:Cls X.K (am X.K c))(hm:Meth X.K (am X.K c) m f)(G:FnD X.prog X.w X.K X.mg X.base k f fd ps (spC (C.call ff)))(hr:Room k X.A)(hb:Binds X.K fd ps [])
  (hN:X.N[i]?=some x) (hv:Vis X.env.scope x) (hd:(x == ("__debug__":Str))=false) (hcd:(x == ("__classdict__":Str))=false) (hl:(apos.endLine == pos.line)=true) :
  PDe X (.Call (.Attribute (.Name x p1) m apos) [] [] pos) (aD C (.meth c m ff i .nil)) :=
 ⟨_,qK (bG hN hv hd hcd) hc hm G.ok hr hb .nil kj (sx rfl rfl hl),kO G fun b F σ H ρ τ θ Qd Q hK R ⟨y,h,q⟩ kk=>by
  cases h
  exact kk [] H [] ρ rfl R q⟩
theorem Wd.newObj{p dx:Addr}(w:Wd b H L)(hp:H p=none)(hx:H dx=none)(ne:dx≠p):Wd b (upd (upd H dx (.own p)) p (.ins (am b.K c) dx [])) ((.ref p,.obj c [] [])::L):=by
 obtain⟨A,h0,nd,new⟩:=w.out
 have np:=w.al h0 hp
 have nx:=w.al h0 hx
 have nt:=w.nt' h0
 have w1:=w.new hx (o:=.own p)
 have hp1:upd H dx (.own p) p=none:=by rw[upd_ne (fun e=>ne e.symm)];exact hp
 have w':=w1.new hp1 (o:=.ins (am b.K c) dx [])
 have k1:Kp (fun c=>c∈A\/b.S0 c) H (upd (upd H dx (.own p)) p (.ins (am b.K c) dx [])):=⟨fun c o e _=>by
   rw[upd_ne (fun z=>by subst z;rw[hp]at e;cases e),upd_ne (fun z=>by subst z;rw[hx]at e;cases e)];exact e,fun c e=>by
   by_cases z:c=p
   ·subst z;exact hp
   ·rw[upd_ne z]at e
    by_cases z2:c=dx
    ·subst z2;exact hx
    ·rw[upd_ne z2]at e;exact e⟩
 have n:∀c,(c∈p::dx::A\/b.S0 c)->(c∈A\/b.S0 c)\/H c=none:=fun c z=>by
  rcases z with z | z
  ·rcases aac.mp z with rfl | z
   ·exact .inr hp
   ·rcases aac.mp z with rfl | z
    ·exact .inr hx
    ·exact .inl (.inl z)
  ·exact .inl (.inr z)
 refine⟨⟨p::dx::A,Ows.cons (A:=[p,dx]) (.obj ar (by rw[upd_ne ne];exact ar) rfl rfl .nil) (Ows.step k1 n nt (fun a ha=>?_) h0),aaz.mpr ⟨fun z=>?_,aaz.mpr ⟨fun z=>nx (.inl z),nd⟩⟩,fun a ha=>?_⟩,w'.fr,w'.s0,w'.nt⟩
 ·have e1:a≠p:=fun e=>np (.inl (e ▸ ha))
  have e2:a≠dx:=fun e=>nx (.inl (e ▸ ha))
  rw[upd_ne e1,upd_ne e2]
 ·rcases aac.mp z with z | z
  ·exact ne z.symm
  ·exact np (.inl z)
 ·rcases aac.mp ha with rfl | ha
  ·exact .inl (w.newC hp)
  ·rcases aac.mp ha with rfl | ha
   ·exact .inl (w.newC hx)
   ·exact new a ha
theorem sy(G:FnD X.prog X.w X.K X.mg X.base k f fd ps (spC (C.mak ff)))(s1:rm X.K ta (eK C mes)):cm X.K (wY (am X.K c) (toSp X.K (spC (C.mak ff))) [] E0 ta) (aD C (.make c ff mes)):=fun b F σ H ρ τ θ Qd Q hK R ⟨y,h,q⟩ kk=>by
 obtain⟨z,e1,h⟩:=bnd h
 obtain⟨o,e2,h⟩:=bnd h
 obtain⟨w,e3,h⟩:=bnd h
 refine s1 b F σ H ρ _ _ (fun r ρ'=>r=z.1/\ρ'=z.2) _ hK R ⟨z,e1,rfl,rfl⟩ fun vs H1 rs ρ1 el R1 hZ=>?_
 obtain⟨h1,h2⟩:=hZ
 subst h1 h2
 intro pp dx hp hx ne
 obtain⟨R2,el2⟩:=argsR_ok R1 el e2
 have al:=((aM el).mp R1.al).1
 have w0:=Wd.newObj (c:=c) R2.wd hp hx ne
 have R3:Rel b F σ _ o.2 (.ref pp::(vs++τ)) (.val (.obj c [] [])::(o.1.map OR.val++θ)):=Rel.push R2 w0
 rw[aaq,<- hK]
 have e4:vs.length=o.1.length:=el2
 have w1:=Rel.vals (vs:=.ref pp::vs) (xs:=.obj c [] []::o.1) R3 (by simp[e4])
 obtain⟨yy,ew,h⟩:=bnd h
 obtain⟨ew1,ew2⟩:=zl ew
 obtain⟨y',ys'⟩:=yy
 simp only at ew2
 ·cases h
  refine w1.call (by simp[e4]) G.mono ⟨w,e3,fun eys v H' w'=>?_⟩
  rw[ew1,ew2]at w'
  rw[ew2]at eys
  have eys':vs.length=ys'.length:=by simpa using eys
  have R0:=R2.drops (by simpa using e4)
  have R4:Rel b F σ H' o.2 (v::(.ref pp::(vs++τ))) (.val (.fz .none)::.val y'::(ys'.map OR.val++θ)):=by
   refine⟨R0.wf,(aM (by simpa using eys')).mpr ⟨eU eys',R0.al⟩,R0.wff,?_⟩
   show Wd b H' ((v,.fz .none)::(.ref pp,y')::(stk (vs++τ) (ys'.map OR.val++θ)++_))
   rw[aC (by simpa using eys'),bS eys',aah]
   exact w'
  have hv:=R4.dt rfl
  cases hv
  refine⟨rfl,kk _ H' _ _ ?_ q⟩
  exact bE al eys' (Rel.tor R4.drop (by simpa using eys'))
theorem zH (M:Mk X.K (am X.K c) f) (G:FnD X.prog X.w X.K X.mg X.base k f fd ps (spC (C.mak ff))) (hr:Room (k + 1) X.A) (hg:Gl X x) (hm:X.mg x=some (.ref (am X.K c))) (hb:Binds X.K fd ps []) (hdb:(x == ("__debug__":Str))=false)
  (he:isStar e=false) (hes:es.any isStar=false):PDa X (e::es) (eK C mes)->PDe X (.Call (.Name x p) (e::es) [] pos) (aD C (.make c ff mes))
 | ⟨_,h1,s1⟩=>⟨_,uH (E:=E0) M G.ok hr hg hm hb .nil kj h1 hdb (aA he) (bi hes),sy G s1⟩
end
theorem sA(b:Bs)(a:Addr)(ds:List PyData):kD b (Da b.K a) [.ref a] [.val (.lst (ds.map OD.fz))] ds:=fun F σ H ρ τ θ R k=>by
 have hl:listOf (.lst (ds.map OD.fz))=some ds:=eI ds
 obtain⟨a',us,e,el,hs,w'⟩:=R.wd.lsItems cB hl
 cases e
 refine⟨fun h=>⟨⟨us,us[k]'(by omega),hs,aar _⟩,fun x H2 d ⟨e1,e2⟩ hd=>?_⟩,fun e=>⟨us,hs,by omega⟩⟩
 subst e1
 refine Rel.push R (w'.pick (cg (e2 us hs) ?_))
 rw[aau,hd];rfl
section
variable{X:Cx}{C:Ct}{pos p:Pos}{x:Str}{i:Nat}
theorem vP {mt:Tg} (n:X.N[i]?=some x) (hv:Vis X.env.scope x) (hd:(x == ("__debug__":Str))=false) (hcd:(x == ("__classdict__":Str))=false) (hc:X.calm=true) (S:CompScope N nt fr X.N scope X.env.scope) (hg:∀c:CC,PDg (eG X N scope c) Ff nt tg (fR mt)) (ha:∀c:CC,PDc (eG X N scope c) ifs elt (xj C mif me)) :
  PDe X (.ListComp elt [⟨tg,.Name x p,ifs,0⟩] scope pos) (aD C (.compB i nt fr mt mif me)):=by
 obtain⟨g,hg'⟩:=PDg.ex (Y:=fun c=>eG X N scope c) (fun _=>rfl) hg
 obtain⟨tc,hc'⟩:=PDc.ex (Y:=fun c=>eG X N scope c) (fun _=>rfl) ha
 refine⟨_,m5 hc S (mS (bG n hv hd hcd)) (fun c=>(hg' c).1) (fun c D=>(hc' c).1 D) (fun _=>rfl),fun b F σ H ρ τ θ Qd Q hK R ⟨y,h,q⟩ k=>?_⟩
 obtain⟨x0,e0,h⟩:=bnd h
 obtain⟨xs,f0,h⟩:=bnd h
 obtain⟨ds,e1,h⟩:=bnd h
 obtain⟨_,hz,h⟩:=bnd h
 have hz:=gd_ok hz
 rw[fP f0]at e0
 ··obtain⟨z,e2,h⟩:=bnd h
   obtain⟨w,e3,h⟩:=bnd h
   cases h
   have exs:=fzL_map e1
   subst exs
   obtain⟨v,ev,R1⟩:=R.moved e0
   obtain⟨a,us,rfl,el,hs,_⟩:=R1.wd.lsItems (aad _ aaj) (eI ds)
   rw[hK]at hs
   refine⟨_,ev,a,rfl,⟨us,hs⟩,?_⟩
   have B:=iU (Iv:=fun k out ρ=>aU (aV C mt mif me) (ds.drop k) out ρ=some w) (fun c=>(hg' c).2) (fun c=>(hc' c).2) hK rfl (fun r hr=>.inl ⟨_,aat.mp hr⟩) R1 (sA b a ds) hz e2 e3 (fun k d out ρ hd iv=>by
    obtain⟨u,hu,iv'⟩:=kM _ _ _ k hd iv
    obtain⟨ρ1,e4,hu⟩:=bnd hu
    exact⟨ρ1,e4,u,hu,iv'⟩) fun H' D out ρ' R' iv=>by
    have iv:aU (aV C mt mif me) (ds.drop ds.length) out ρ'=some w:=iv
    rw[abT]at iv
    cases iv
    exact k _ H' _ _ (Rel.give (Rel.rot (vs:=[.ref D]) (rs:=[.val (.lst (out.map OD.fz))]) R' rfl) ev) q
   rw[hK]at B
   exact B
end
end
section
def bH(e:PySem.Expr):Option (Str):=if h:e.ctorIdx=23 then some (@PySem.Expr.Name.elim (fun _=>Str) e h fun x _=>x) else none
theorem asNm_ok{e:PySem.Expr}{z:Str}(h:bH e=some z):∃p,e=.Name z p:=by
 by_cases hc:e.ctorIdx=23
 ·revert h
  exact @PySem.Expr.Name.elim (fun e=>bH e=some z->∃p,e=.Name z p) e hc fun x p h=>by cases h;exact⟨p,rfl⟩
 ·rw[bH,dif_neg hc]at h;cases h
def hJ(e:PySem.Expr):Option (Const):=if h:e.ctorIdx=19 then some (@PySem.Expr.Constant.elim (fun _=>Const) e h fun c _ _=>c) else none
theorem eY{e:PySem.Expr}{z:Const}(h:hJ e=some z):∃j p,e=.Constant z j p:=by
 by_cases hc:e.ctorIdx=19
 ·revert h
  exact @PySem.Expr.Constant.elim (fun e=>hJ e=some z->∃j p,e=.Constant z j p) e hc fun c j p h=>by cases h;exact⟨j,p,rfl⟩
 ·rw[hJ,dif_neg hc]at h;cases h
def nJ(e:PySem.Expr):Option (Expr × Operator × Expr):=if h:e.ctorIdx=2 then some (@PySem.Expr.BinOp.elim (fun _=>Expr × Operator × Expr) e h fun x o y _=>(x,o,y)) else none
theorem sC(h:nJ e=some z):∃p,e=.BinOp z.1 z.2.1 z.2.2 p:=by
 by_cases hc:e.ctorIdx=2
 ·revert h
  exact @PySem.Expr.BinOp.elim (fun e=>nJ e=some z->∃p,e=.BinOp z.1 z.2.1 z.2.2 p) e hc fun x o y p h=>by cases h;exact⟨p,rfl⟩
 ·rw[nJ,dif_neg hc]at h;cases h
def kP(e:PySem.Expr):Option (Expr × List CmpOp × List Expr):=if h:e.ctorIdx=15 then some (@PySem.Expr.Compare.elim (fun _=>Expr × List CmpOp × List Expr) e h fun x os ys _=>(x,os,ys)) else none
theorem asCmp_ok(h:kP e=some z):∃p,e=.Compare z.1 z.2.1 z.2.2 p:=by
 by_cases hc:e.ctorIdx=15
 ·revert h
  exact @PySem.Expr.Compare.elim (fun e=>kP e=some z->∃p,e=.Compare z.1 z.2.1 z.2.2 p) e hc fun x os ys p h=>by cases h;exact⟨p,rfl⟩
 ·rw[kP,dif_neg hc]at h;cases h
def vQ(e:PySem.Expr):Option (BoolOp × List Expr × Pos):=if h:e.ctorIdx=0 then some (@PySem.Expr.BoolOp.elim (fun _=>BoolOp × List Expr × Pos) e h fun o xs p=>(o,xs,p)) else none
theorem vR(h:vQ e=some z):e=.BoolOp z.1 z.2.1 z.2.2:=by
 by_cases hc:e.ctorIdx=0
 ·revert h
  exact @PySem.Expr.BoolOp.elim (fun e=>vQ e=some z->e=.BoolOp z.1 z.2.1 z.2.2) e hc fun o xs p h=>by cases h;exact rfl
 ·rw[vQ,dif_neg hc]at h;cases h
def sE(e:PySem.Expr):Option (UnaryOp × Expr):=if h:e.ctorIdx=3 then some (@PySem.Expr.UnaryOp.elim (fun _=>UnaryOp × Expr) e h fun o x _=>(o,x)) else none
theorem nK{e:PySem.Expr}{z:UnaryOp × Expr}(h:sE e=some z):∃p,e=.UnaryOp z.1 z.2 p:=by
 by_cases hc:e.ctorIdx=3
 ·revert h
  exact @PySem.Expr.UnaryOp.elim (fun e=>sE e=some z->∃p,e=.UnaryOp z.1 z.2 p) e hc fun o x p h=>by cases h;exact⟨p,rfl⟩
 ·rw[sE,dif_neg hc]at h;cases h
def vS(e:PySem.Expr):Option (Expr × Expr × Expr):=if h:e.ctorIdx=5 then some (@PySem.Expr.IfExp.elim (fun _=>Expr × Expr × Expr) e h fun c a b _=>(c,a,b)) else none
theorem vT(h:vS e=some z):∃p,e=.IfExp z.1 z.2.1 z.2.2 p:=by
 by_cases hc:e.ctorIdx=5
 ·revert h
  exact @PySem.Expr.IfExp.elim (fun e=>vS e=some z->∃p,e=.IfExp z.1 z.2.1 z.2.2 p) e hc fun c a b p h=>by cases h;exact⟨p,rfl⟩
 ·rw[vS,dif_neg hc]at h;cases h
def bW(e:PySem.Expr):Option (List Expr):=if h:e.ctorIdx=25 then some (@PySem.Expr.Tuple.elim (fun _=>List Expr) e h fun xs _ _=>xs) else none
theorem asTup_ok(h:bW e=some z):∃k p,e=.Tuple z k p:=by
 by_cases hc:e.ctorIdx=25
 ·revert h
  exact @PySem.Expr.Tuple.elim (fun e=>bW e=some z->∃k p,e=.Tuple z k p) e hc fun xs k p h=>by cases h;exact⟨k,p,rfl⟩
 ·rw[bW,dif_neg hc]at h;cases h
def nL(e:PySem.Expr):Option (List Expr):=if h:e.ctorIdx=24 then some (@PySem.Expr.List.elim (fun _=>List Expr) e h fun xs _=>xs) else none
theorem sF(h:nL e=some z):∃p,e=.List z p:=by
 by_cases hc:e.ctorIdx=24
 ·revert h
  exact @PySem.Expr.List.elim (fun e=>nL e=some z->∃p,e=.List z p) e hc fun xs p h=>by cases h;exact⟨p,rfl⟩
 ·rw[nL,dif_neg hc]at h;cases h
def en(e:PySem.Expr):Option (Expr × Expr):=if h:e.ctorIdx=21 then some (@PySem.Expr.Subscript.elim (fun _=>Expr × Expr) e h fun x y _=>(x,y)) else none
theorem bX(h:en e=some z):∃p,e=.Subscript z.1 z.2 p:=by
 by_cases hc:e.ctorIdx=21
 ·revert h
  exact @PySem.Expr.Subscript.elim (fun e=>en e=some z->∃p,e=.Subscript z.1 z.2 p) e hc fun x y p h=>by cases h;exact⟨p,rfl⟩
 ·rw[en,dif_neg hc]at h;cases h
def nM(e:PySem.Expr):Option (Option Expr × Option Expr × Option Expr):=if h:e.ctorIdx=26 then some (@PySem.Expr.Slice.elim (fun _=>Option Expr × Option Expr × Option Expr) e h fun l hi s _=>(l,hi,s)) else none
theorem sG(h:nM e=some z):∃p,e=.Slice z.1 z.2.1 z.2.2 p:=by
 by_cases hc:e.ctorIdx=26
 ·revert h
  exact @PySem.Expr.Slice.elim (fun e=>nM e=some z->∃p,e=.Slice z.1 z.2.1 z.2.2 p) e hc fun l hi s p h=>by cases h;exact⟨p,rfl⟩
 ·rw[nM,dif_neg hc]at h;cases h
def fS(e:PySem.Expr):Option (Expr × List Expr × List Keyword × Pos):=if h:e.ctorIdx=16 then some (@PySem.Expr.Call.elim (fun _=>Expr × List Expr × List Keyword × Pos) e h fun f xs ks p=>(f,xs,ks,p)) else none
theorem fT(h:fS e=some z):e=.Call z.1 z.2.1 z.2.2.1 z.2.2.2:=by
 by_cases hc:e.ctorIdx=16
 ·revert h
  exact @PySem.Expr.Call.elim (fun e=>fS e=some z->e=.Call z.1 z.2.1 z.2.2.1 z.2.2.2) e hc fun f xs ks p h=>by cases h;exact rfl
 ·rw[fS,dif_neg hc]at h;cases h
def gf(e:PySem.Expr):Option (Expr × Str × Pos):=if h:e.ctorIdx=20 then some (@PySem.Expr.Attribute.elim (fun _=>Expr × Str × Pos) e h fun o f p=>(o,f,p)) else none
theorem asAtt_ok(h:gf e=some z):e=.Attribute z.1 z.2.1 z.2.2:=by
 by_cases hc:e.ctorIdx=20
 ·revert h
  exact @PySem.Expr.Attribute.elim (fun e=>gf e=some z->e=.Attribute z.1 z.2.1 z.2.2) e hc fun o f p h=>by cases h;exact rfl
 ·rw[gf,dif_neg hc]at h;cases h
def nN(e:PySem.Expr):Option (List (Option Expr) × List Expr):=if h:e.ctorIdx=6 then some (@PySem.Expr.Dict.elim (fun _=>List (Option Expr) × List Expr) e h fun ks vs _=>(ks,vs)) else none
theorem sH{e:PySem.Expr}{z:List (Option Expr) × List Expr}(h:nN e=some z):∃p,e=.Dict z.1 z.2 p:=by
 by_cases hc:e.ctorIdx=6
 ·revert h
  exact @PySem.Expr.Dict.elim (fun e=>nN e=some z->∃p,e=.Dict z.1 z.2 p) e hc fun ks vs p h=>by cases h;exact⟨p,rfl⟩
 ·rw[nN,dif_neg hc]at h;cases h
def l7(e:PySem.Expr):Option (Expr × List Comprehension × Scope × Pos):=if h:e.ctorIdx=8 then some (@PySem.Expr.ListComp.elim (fun _=>Expr × List Comprehension × Scope × Pos) e h fun x gs s p=>(x,gs,s,p)) else none
theorem nO(h:l7 e=some z):e=.ListComp z.1 z.2.1 z.2.2.1 z.2.2.2:=by
 by_cases hc:e.ctorIdx=8
 ·revert h
  exact @PySem.Expr.ListComp.elim (fun e=>l7 e=some z->e=.ListComp z.1 z.2.1 z.2.2.1 z.2.2.2) e hc fun x gs s p h=>by cases h;exact rfl
 ·rw[l7,dif_neg hc]at h;cases h
def ET:Const->Option Int | .int k=>some k | _=>none
def EU:Const->Option Str | .str k=>some k | _=>none
def EV:Const->Option Bool | .bool k=>some k | _=>none
def EW:Const->Bool | .none=>true | _=>false
def kQ(e:Expr):Option Int:=(hJ e).bind ET
def xl(e:Expr):Option Str:=(hJ e).bind EU
def CG(e:Expr):Option Bool:=(hJ e).bind EV
def xm(e:Expr):Bool:=(hJ e).any EW
def xn(e:Expr):Bool:=(nN e).any fun z=>z.1.isEmpty && z.2.isEmpty
def isTup(e:Expr):Bool:=(bW e).isSome
theorem anyT{α:Type}{o:Option α}{p:α->Bool}(h:o.any p=true):∃a,o=some a/\p a=true:=by
 cases o with
 | none=>cases h
 | some a=>exact⟨a,rfl,h⟩
theorem an2{a b:Bool}(h:(a && b)=true):a=true/\b=true:=aby.mp h
section
variable{e:Expr}
theorem asInt_ok{k:Int}(h:kQ e=some k):∃j p,e=.Constant (.int k) j p:=by
 obtain⟨c,h1,h⟩:=bnd h
 obtain⟨j,p,rfl⟩:=eY h1
 cases c<;>cases h
 exact⟨j,p,rfl⟩
theorem asStr_ok(h:xl e=some k):∃j p,e=.Constant (.str k) j p:=by
 obtain⟨c,h1,h⟩:=bnd h
 obtain⟨j,p,rfl⟩:=eY h1
 cases c<;>cases h
 exact⟨j,p,rfl⟩
theorem asBl_ok(h:CG e=some k):∃j p,e=.Constant (.bool k) j p:=by
 obtain⟨c,h1,h⟩:=bnd h
 obtain⟨j,p,rfl⟩:=eY h1
 cases c<;>cases h
 exact⟨j,p,rfl⟩
theorem kR(h:xm e=true):∃j p,e=.Constant .none j p:=by
 obtain⟨c,h1,h⟩:=anyT h
 obtain⟨j,p,rfl⟩:=eY h1
 cases c<;>cases h
 exact⟨j,p,rfl⟩
theorem sI(h:xn e=true):∃p,e=.Dict [] [] p:=by
 obtain⟨z,h1,h⟩:=anyT h
 obtain⟨p,rfl⟩:=sH h1
 obtain⟨h2,h3⟩:=an2 h
 rw[List.isEmpty_iff]at h2 h3
 exact⟨p,by rw[h2,h3]⟩
theorem eZ(h:isTup e=true):∃xs k p,e=.Tuple xs k p:=by
 obtain⟨z,h1⟩:=aa6.mp h
 obtain⟨k,p,rfl⟩:=asTup_ok h1
 exact⟨z,k,p,rfl⟩
end
theorem an3(h:(a && b && c)=true):a=true/\b=true/\c=true:=⟨(an2 (an2 h).1).1,(an2 (an2 h).1).2,(an2 h).2⟩
theorem an4(h:(a && b && c && d)=true):a=true/\b=true/\c=true/\d=true:=⟨(an3 (an2 h).1).1,(an3 (an2 h).1).2.1,(an3 (an2 h).1).2.2,(an2 h).2⟩
theorem an5(h:(a && b && c && d && e)=true):a=true/\b=true/\c=true/\d=true/\e=true:=⟨(an4 (an2 h).1).1,(an4 (an2 h).1).2.1,(an4 (an2 h).1).2.2.1,(an4 (an2 h).1).2.2.2,(an2 h).2⟩
theorem bq(h:(!a)=true):a=false:=by cases a<;>first | rfl | cases h
def kS{α:Type}:List α->Option (α × List α) | x::xs=>some (x,xs) | _=>none
theorem con1_ok{α:Type}{l:List α}{x:α × List α}(h:kS l=some x):l=x.1::x.2:=by cases l<;>cases h;rfl
structure Tb where
 fn:Nat->Option Str
 me:Nat->Option (Str × Str)
 mk':Nat->Option Str
 gc:Nat->Option Str
 nog:Str->Bool
 fld:Str->Str->Bool
structure Cy (t:Tb)(C:Ct)(X:Cx):Prop where
 calm:X.calm=true
 units:X.A.units + 64 < cLine
 hfn:∀j nm,t.fn j=some nm->∃k fa fd ps,FnD X.prog X.w X.K X.mg X.base k fa fd ps (spC (C.call j))/\Room k X.A/\X.mg nm=some (.ref fa)/\PySem.W.keepIn X.K (.ref fa)=true/\Binds X.K fd ps []
 hme:∀j c m,t.me j=some (c,m)->Cls X.K (am X.K c)/\∃k fa fd ps,Meth X.K (am X.K c) m fa/\FnD X.prog X.w X.K X.mg X.base k fa fd ps (spC (C.call j))/\Room k X.A/\Binds X.K fd ps []
 hmk:∀j c,t.mk' j=some c->∃k fa fd ps,Mk X.K (am X.K c) fa/\FnD X.prog X.w X.K X.mg X.base k fa fd ps (spC (C.mak j))/\Room (k + 1) X.A/\X.mg c=some (.ref (am X.K c))/\Binds X.K fd ps []
 hgc:∀g nm,t.gc g=some nm->∃v u,X.mg nm=some u/\RelV v u/\∀S H,Fz X.K S H v (C.gv g)
 hng:∀x,t.nog x=true->X.mg x=none
 hfl:∀c f,t.fld c f=true->Cls X.K (am X.K c)/\NoAttr X.K (am X.K c) f
theorem Cy.comp(c:Cy t C X):Cy t C (eG X N sc q):=⟨c.calm,c.units,c.hfn,c.hme,c.hmk,c.hgc,c.hng,c.hfl⟩
def sEq(x y:Str):Bool:=decide (x=y)
theorem bI(h:sEq x y=true):x=y:=of_decide_eq_true h
def kindB(sc:Scope)(x:Str)(k:NameKind):Bool:=decide (sc.names.lookup x=some k)
theorem aE(h:kindB sc x k=true):sc.names.lookup x=some k:=of_decide_eq_true h
def zI(sc:Scope)(x:Str):Bool:=kindB sc x .local || kindB sc x .cell || kindB sc x .free
def vU(sc:Scope)(x:Str):Bool:=kindB sc x .local || kindB sc x .cell
theorem vV(h:zI sc x=true):Vis sc x:=by
 unfold zI at h
 rw[aba,aba]at h
 rcases h with (h | h) | h
 ·exact .inl (aE h)
 ·exact .inr (.inl (aE h))
 ·exact .inr (.inr (aE h))
theorem nP(h:vU sc x=true):Loc sc x:=by
 unfold vU at h
 rw[aba]at h
 rcases h with h | h
 ·exact .inl (aE h)
 ·exact .inr (aE h)
def okN(x:Str):Bool:=!(x == ("__debug__":Str)) && !(x == ("__classdict__":Str))
def uo(N:List Str)(sc:Scope)(i:Nat)(x:Str):Bool:=decide (N[i]?=some x) && zI sc x && okN x
structure NmX (X:Cx)(i:Nat)(x:Str):Prop where
 n:X.N[i]?=some x
 v:Vis X.env.scope x
 d:(x == ("__debug__":Str))=false
 c:(x == ("__classdict__":Str))=false
theorem bY(h:uo X.N X.env.scope i x=true):NmX X i x:=by
 unfold uo okN at h
 simp only[aaB,abz]at h
 exact⟨of_decide_eq_true h.1.1,vV h.1.2,h.2.1,h.2.2⟩
def xo(N:List Str)(sc:Scope)(i:Nat)(e:Expr):Bool:=(bH e).any fun x=>uo N sc i x
theorem hU{N:List Str}(h:xo N sc i e=true):∃x p,e=.Name x p/\uo N sc i x=true:=by
 obtain⟨x,h1,h⟩:=anyT h
 obtain⟨p,rfl⟩:=asNm_ok h1
 exact⟨x,p,rfl,h⟩
def Au(sc:Scope)(x:Str):Bool:=kindB sc x .globalImplicit && !(x == ("__debug__":Str))
theorem cv(h:Au X.env.scope x=true):Gl X x/\(x == ("__debug__":Str))=false:=by
 unfold Au at h
 rw[aaB]at h
 exact⟨aE h.1,by simpa using h.2⟩
def sJ(t:Tb)(sc:Scope)(x y:Str):Bool:=sEq x y && Au sc x && t.nog x
theorem blB_ok(c:Cy t C X)(h:sJ t X.env.scope x y=true):x=y/\Gl X y/\X.mg y=none:=by
 unfold sJ at h
 simp only[aaB]at h
 obtain⟨⟨h1,h2⟩,h3⟩:=h
 have:=bI h1
 subst this
 exact⟨rfl,(cv h2).1,c.hng _ h3⟩
def Dn(o:Bo)(op:Operator):Bool:=decide (op=opOf o)
theorem l8(h:Dn o op=true):op=opOf o:=of_decide_eq_true h
def Do(o:Co)(op:CmpOp):Bool:=decide (op=coOf o)
theorem hV(h:Do o op=true):op=coOf o:=of_decide_eq_true h
def gg:Expr->Bool
 | .Set _ _ _=>true
 | _=>false
theorem dA(op:CmpOp)(h:gg e=false):behindInMarks op e=false:=by cases e<;>first | rfl | cases h
theorem jI(h:gg e=false):∀x,foldedSetIterable e env x=pure x:=by cases e<;>first | (intro _;rfl) | cases h
def isCall:Expr->Bool
 | .Call _ _ _ _=>true
 | _=>false
theorem jJ(h:isCall e=false):attributeBase e f env (eval e env)=eval e env:=by cases e<;>first | rfl | cases h
def zJ:UnaryOp->Bool | .USub=>true | _=>false
theorem nQ{o:UnaryOp}(h:zJ o=true):o=.USub:=by cases o<;>first | rfl | cases h
def Fv(k:Int)(e:Expr):Bool:=((kQ e).any fun j=>decide (j=k)) || (sE e).any fun z=>zJ z.1 && (kQ z.2).any fun j=>decide (-j=k)
section
variable{X:Cx}{k:Int}{e:Expr}
theorem CH{j:Nat}{p p':Pos}:PX X (.UnaryOp .USub (.Constant (.int k) j p) p') (fun _=>some (.int (-k))):=⟨_,wW qy jd,fun σ H Q v e q=>by cases e;exact⟨k,rfl,q⟩⟩
theorem sL(h:Fv k e=true):PX X e (fun _=>some (.int k))/\bw e=false:=by
 rcases Bool.or_eq_true_iff.mp h with h | h
 ·obtain⟨j,h1,h⟩:=anyT h
  obtain⟨_,_,rfl⟩:=asInt_ok h1
  have:=of_decide_eq_true h
  subst this
  exact⟨Ci,rfl⟩
 ·obtain⟨z,h1,h⟩:=anyT h
  obtain⟨p,rfl⟩:=nK h1
  obtain⟨j,h2,h3⟩:=anyT (an2 h).2
  obtain⟨_,_,e2⟩:=asInt_ok h2
  have:=of_decide_eq_true h3
  subst this
  rw[nQ (an2 h).1,e2]
  exact⟨CH,rfl⟩
end
def cx(t:Tb)(N:List Str)(sc:Scope)(i:Nat):List Acc->Expr->Bool
 | []=>fun e=>xo N sc i e
 | .fld c f::ps=>fun e=>(gf e).any fun z=>sEq z.2.1 f && t.fld c f && !isCall z.1 && cx t N sc i ps z.1
 | .ix k::ps=>fun e=>(en e).any fun z=>Fv k z.2 && cx t N sc i ps z.1
 | .key j::ps=>fun e=>(en e).any fun z=>xo N sc j z.2 && cx t N sc i ps z.1
section
variable{t:Tb}{C:Ct}{X:Cx}{i j:Nat}{e:Expr}
theorem sM(h:xo X.N X.env.scope j e=true):PX X e (fun σ=>σ[j]?.join)/\bw e=false:=by
 obtain⟨x,p,rfl,h⟩:=hU h
 obtain⟨h1,h2,h3,h4⟩:=bY h
 exact⟨EG h1 h2 h3 h4,rfl⟩
theorem EX(h:bw e=false):NoSl e:=by
 cases e<;>first | exact fun _ _=>rfl | cases h
theorem aT(c:Cy t C X):∀(ps:List Acc) (e:Expr),cx t X.N X.env.scope i ps e=true->PDp X e i ps
 | [],e,h=>by
  obtain⟨x,p,rfl,h⟩:=hU h
  obtain⟨h1,h2,h3,h4⟩:=bY h
  exact EH h1 h2 h3 h4
 | .fld cn f::ps,e,h=>by
  obtain⟨z,h1,k⟩:=anyT h
  obtain⟨a1,a2,a3,a4⟩:=an4 k
  rw[asAtt_ok h1,bI a1]
  exact Cm (jJ (bq a3)) (c.hfl _ _ a2).1 (c.hfl _ _ a2).2 (aT c ps _ a4)
 | .ix k::ps,e,h=>by
  obtain⟨z,h1,k⟩:=anyT h
  obtain⟨a1,a2⟩:=an2 k
  obtain⟨p,rfl⟩:=bX h1
  exact EI (jD (sL (X:=X) a1).2) (aT c ps _ a2) (sL a1).1
 | .key j::ps,e,h=>by
  obtain⟨z,h1,k⟩:=anyT h
  obtain⟨a1,a2⟩:=an2 k
  obtain⟨p,rfl⟩:=bX h1
  exact Cq (by have:=c.units;omega) (EX (sM a1).2) (aT c ps _ a2) (sM a1).1
end
def kT(ok:Nat->Bool)(N:List Str)(sc:Scope)(fn:Bool)(m i:Nat)(x:Str):Bool:=decide (N[i]?=some x) && vU sc x && (fn || kindB sc x .local) && decide (i < m) && ok i
def nR(ok:Nat->Bool)(N:List Str)(sc:Scope)(fn:Bool)(m:Nat):List Nat->List Expr->Bool
 | []=>fun es=>es.isEmpty
 | i::is=>fun es=>(kS es).any fun z=>(bH z.1).any fun x=>kT ok N sc fn m i x && nR ok N sc fn m is z.2
def sN(ok:Nat->Bool)(N:List Str)(sc:Scope)(fn:Bool)(m:Nat):Tg->Expr->Bool
 | .nm i=>fun e=>(bH e).any fun x=>kT ok N sc fn m i x
 | .tp ts=>fun e=>(bW e).any fun es=>nR ok N sc fn m ts es
 | .tn i ts=>fun e=>(bW e).any fun es=>(gX es).any fun w=>(bH w.1).any fun x=>(bW w.2).any fun es=>kT ok N sc fn m i x && nR ok N sc fn m ts es
section
variable{X:Cx}{W:Nat->Prop}{ok:Nat->Bool}{fn:Bool}{m:Nat}
theorem dR{i:Nat}{x:Str}(hf:fn=true->∀x,X.fn x=true)(hw:∀i,ok i=true->¬ W i)(h:kT ok X.N X.env.scope fn m i x=true):Sto X W m i x:=by
 unfold kT at h
 simp only[aaB,aba]at h
 obtain⟨⟨⟨⟨h1,h2⟩,h3⟩,h4⟩,h5⟩:=h
 exact⟨of_decide_eq_true h1,nP h2,h3.imp (fun z=>hf z x) aE,of_decide_eq_true h4,hw i h5⟩
theorem ia(hf:fn=true->∀x,X.fn x=true)(hw:∀i,ok i=true->¬ W i):∀(ts:List Nat) (es:List Expr),nR ok X.N X.env.scope fn m ts es=true->Stos X W m ts es
 | [],es,h=>by
  cases es with
  | nil=>exact .nil
  | cons _ _=>cases h
 | i::is,es,h=>by
  obtain⟨z,h1,k⟩:=anyT h
  obtain⟨x,h2,k⟩:=anyT k
  obtain⟨p,e2⟩:=asNm_ok h2
  rw[con1_ok h1,e2]
  exact .cons (dR hf hw (an2 k).1) (ia hf hw is _ (an2 k).2)
theorem fb{tg:Tg}{e:Expr}(hc:X.calm=true)(hN:X.N.Nodup)(hf:fn=true->∀x,X.fn x=true)(hw:∀i,ok i=true->¬ W i)(h:sN ok X.N X.env.scope fn m tg e=true):PDg X W m e (fR tg):=by
 cases tg with
 | nm i =>
  obtain⟨x,h1,k⟩:=anyT h
  obtain⟨p,rfl⟩:=asNm_ok h1
  exact B3 hN (dR hf hw k)
 | tp ts =>
  obtain⟨es,h1,k⟩:=anyT h
  obtain⟨_,_,rfl⟩:=asTup_ok h1
  exact B4 hc hN (ia hf hw _ _ k)
 | tn i ts =>
  obtain⟨es,h1,k⟩:=anyT h
  obtain⟨w,h2,k⟩:=anyT k
  obtain⟨x,h3,k⟩:=anyT k
  obtain⟨es',h4,k⟩:=anyT k
  obtain⟨_,_,rfl⟩:=asTup_ok h1
  obtain⟨_,e3⟩:=asNm_ok h3
  obtain⟨_,_,e4⟩:=asTup_ok h4
  rw[two2_ok h2,e3,e4]
  exact EB hc hN (dR hf hw (an2 k).1) (ia hf hw _ _ (an2 k).2)
end
def pZ(sc osc:Scope):Scope:={ sc with names:=sc.names.map fun (n,k)=>if (k == NameKind.free && osc.kind == .function && osc.names.lookup n == some .cell) then (n,NameKind.cell) else (n,k) }
def zK:Expr->List Str
 | .Name x _=>[x]
 | .Tuple [.Name x _,.Tuple es _ _] _ _=>x::es.filterMap fun | .Name x _=>some x | _=>none
 | .Tuple es _ _=>es.filterMap fun | .Name x _=>some x | _=>none
 | _=>[]
def sO(N:List Str)(nt:Nat)(ON:List Str)(sc osc:Scope):Nat->List Nat->Bool
 | _,[]=>true
 | i,j::fr=>(match N[nt + i]? with
  | some x=>decide (ON[j]?=some x) && kindB osc x .cell && kindB sc x .free
  | none=>false) && sO N nt ON sc osc (i + 1) fr
def compB(N:List Str)(nt:Nat)(fr:List Nat)(ON:List Str)(sc osc:Scope):Bool :=
 decide (sc.kind=.function) && sc.names.all (fun x=>!decide (x.2=.cell)) && sc.names.all (fun x=>!decide (x.2=.local) || kindB sc x.1 .local) && decide (N.length=nt + fr.length) && sO N nt ON sc osc 0 fr &&
  sc.names.all (fun x=>!decide (x.2=.free) || (kindB osc x.1 .cell && kindB sc x.1 .free))
theorem nS:∀{fr:List Nat} {i0:Nat},sO N nt ON sc osc i0 fr=true->∀(i j:Nat),fr[i]?=some j->∃x,N[nt + (i0 + i)]?=some x/\ON[j]?=some x/\osc.names.lookup x=some .cell/\sc.names.lookup x=some .free
 | [],_,_,i,j,e=>by simp at e
 | j0::fr,i0,h,0,j,e=>by
  simp at e
  subst e
  simp only[sO,aaB]at h
  obtain⟨h,_⟩:=h
  split at h
  ·rename_i x ex
   simp only[aaB]at h
   exact⟨x,ex,of_decide_eq_true h.1.1,aE h.1.2,aE h.2⟩
  ·cases h
 | j0::fr,i0,h,i + 1,j,e=>by
  simp only[sO,aaB]at h
  obtain⟨x,h1,h2⟩:=nS h.2 i j (by simpa using e)
  exact⟨x,by rw[show i0 + (i + 1)=i0 + 1 + i by omega];exact h1,h2⟩
theorem fc(h:compB N nt fr ON sc osc=true):CompScope N nt fr ON sc osc:=by
 unfold compB at h
 simp only[aaB,aaU,aba,abz,decide_eq_false_iff_not,decide_eq_true_eq]at h
 obtain⟨⟨⟨⟨⟨h1,h2⟩,h3⟩,h4⟩,h5⟩,h6⟩:=h
 refine⟨h1,fun x hx=>h2 x hx,fun x hx e=>?_,h4,fun i j e=>?_,fun x hx e=>?_,fun x hx e=>?_⟩
 ·exact (h3 x hx).elim (fun z=>absurd e z) aE
 ·have:=nS h5 i j e;rwa [aaK]at this
 ·exact (h6 x hx).elim (fun z=>absurd e z) fun z=>aE z.1
 ·exact (h6 x hx).elim (fun z=>absurd e z) fun z=>aE z.2
end
section
abbrev Ck:=List Str->Scope->Expr->Bool
def gh(f:Ck):Ck × Ck:=(f,fun N sc e=>plainT e && f N sc e)
def FQ:Bn->Str
 | .list=>"list" | .tuple=>"tuple"
def FR:Knd->Str
 | .int=>"int" | .bool=>"bool" | .str=>"str" | .list=>"list" | .tuple=>"tuple" | .seq=>"list"
def vW(e:Expr):Option (Str × List Expr):=(fS e).bind fun z=>(bH z.1).bind fun x=>if z.2.2.1.isEmpty then some (x,z.2.1) else none
theorem jK{z}(h:vW e=some z):∃p p',e=.Call (.Name z.1 p) z.2 [] p':=by
 obtain⟨c,h1,h⟩:=bnd h
 obtain⟨x,h2,h⟩:=bnd h
 obtain⟨f,xs,ks,p'⟩:=c
 cases ks with
 | cons _ _=>cases h
 | nil =>
  cases h
  obtain⟨p,rfl⟩:=asNm_ok h2
  exact⟨p,p',fT h1⟩
def zL(e:Expr):Option (Expr × CmpOp × Expr):=(kP e).bind fun z=>(eJ z.2.1).bind fun o=>(eJ z.2.2).bind fun y=>some (z.1,o,y)
theorem jL{z}(h:zL e=some z):∃p,e=.Compare z.1 [z.2.1] [z.2.2] p:=by
 obtain⟨c,h1,h⟩:=bnd h
 obtain⟨o,h2,h⟩:=bnd h
 obtain⟨y,h3,h⟩:=bnd h
 cases h
 obtain⟨x,os,ys⟩:=c
 obtain⟨p,rfl⟩:=asCmp_ok h1
 have e1:=one1_ok h2
 have e2:=one1_ok h3
 simp only at e1 e2
 subst e1 e2
 exact⟨p,rfl⟩
def cmp2(e:Expr):Option (Expr × (CmpOp × CmpOp) × (Expr × Expr)):=(kP e).bind fun z=>(gX z.2.1).bind fun o=>(gX z.2.2).bind fun y=>some (z.1,o,y)
theorem nU{z}(h:cmp2 e=some z):∃p,e=.Compare z.1 [z.2.1.1,z.2.1.2] [z.2.2.1,z.2.2.2] p:=by
 obtain⟨c,h1,h⟩:=bnd h
 obtain⟨o,h2,h⟩:=bnd h
 obtain⟨y,h3,h⟩:=bnd h
 cases h
 obtain⟨x,os,ys⟩:=c
 obtain⟨p,rfl⟩:=asCmp_ok h1
 have e1:=two2_ok h2
 have e2:=two2_ok h3
 simp only at e1 e2
 subst e1 e2
 exact⟨p,rfl⟩
def CI(neg:Bool):CmpOp->Bool
 | .Is=>!neg | .IsNot=>neg | _=>false
theorem nV(h:CI neg o=true):o=if neg then .IsNot else .Is:=by cases o<;>cases neg<;>first | rfl | cases h
def zM:BoolOp->Bool | .And=>true | _=>false
theorem nW(h:zM o=true):o=.And:=by cases o<;>first | rfl | cases h
def EY:BoolOp->Bool | .Or=>true | _=>false
theorem sP(h:EY o=true):o=.Or:=by cases o<;>first | rfl | cases h
def zN:UnaryOp->Bool | .Not=>true | _=>false
theorem nY(h:zN o=true):o=.Not:=by cases o<;>first | rfl | cases h
def CJ:Operator->Bool | .Add=>true | _=>false
theorem vX(h:CJ o=true):o=.Add:=by cases o<;>first | rfl | cases h
def xp(e:Expr):Option (Expr × Option Expr × Option Expr):=(en e).bind fun z=>(nM z.2).bind fun s=>if s.2.2.isNone then some (z.1,s.1,s.2.1) else none
theorem sQ{z}(h:xp e=some z):∃p p',e=.Subscript z.1 (.Slice z.2.1 z.2.2 none p) p':=by
 obtain⟨c,h1,h⟩:=bnd h
 obtain⟨s,h2,h⟩:=bnd h
 obtain⟨x,y⟩:=c
 obtain⟨l,hh,st⟩:=s
 cases st with
 | some _=>cases h
 | none =>
  cases h
  obtain⟨p',rfl⟩:=bX h1
  obtain⟨p,e2⟩:=sG h2
  simp only at e2
  subst e2
  exact⟨p,p',rfl⟩
def CK(e:Expr):Option (Str × Str × List Expr × Pos × Pos):=(fS e).bind fun z=>(gf z.1).bind fun a=>(bH a.1).bind fun x=>if z.2.2.1.isEmpty then some (x,a.2.1,z.2.1,a.2.2,z.2.2.2) else none
theorem vY{z}(h:CK e=some z):∃p,e=.Call (.Attribute (.Name z.1 p) z.2.1 z.2.2.2.1) z.2.2.1 [] z.2.2.2.2:=by
 obtain⟨c,h1,h⟩:=bnd h
 obtain⟨a,h2,h⟩:=bnd h
 obtain⟨x,h3,h⟩:=bnd h
 obtain⟨f,xs,ks,p'⟩:=c
 obtain⟨o,m,ap⟩:=a
 cases ks with
 | cons _ _=>cases h
 | nil =>
  cases h
  obtain⟨p,e3⟩:=asNm_ok h3
  have e2:=asAtt_ok h2
  simp only at e2 e3
  subst e3
  subst e2
  exact⟨p,fT h1⟩
def vZ(e:PySem.Expr):Option (Expr × Expr × List Comprehension × Scope × Pos):=if h:e.ctorIdx=10 then some (@PySem.Expr.DictComp.elim (fun _=>Expr × Expr × List Comprehension × Scope × Pos) e h fun k x gs s p=>(k,x,gs,s,p)) else none
theorem v0(h:vZ e=some z):e=.DictComp z.1 z.2.1 z.2.2.1 z.2.2.2.1 z.2.2.2.2:=by
 by_cases hc:e.ctorIdx=10
 ·revert h
  exact @PySem.Expr.DictComp.elim (fun e=>vZ e=some z->e=.DictComp z.1 z.2.1 z.2.2.1 z.2.2.2.1 z.2.2.2.2) e hc fun k x gs s p h=>by cases h;exact rfl
 ·rw[vZ,dif_neg hc]at h;cases h
def xq(e:Expr):Option (Expr × Expr × Expr × Expr × List Expr × Scope × Pos):=(vZ e).bind fun z=>(eJ z.2.2.1).bind fun g=>if g.is_async=0 then some (z.1,z.2.1,g.target,g.iter,g.ifs,z.2.2.2.1,z.2.2.2.2) else none
theorem sR{z}(h:xq e=some z):e=.DictComp z.1 z.2.1 [⟨z.2.2.1,z.2.2.2.1,z.2.2.2.2.1,0⟩] z.2.2.2.2.2.1 z.2.2.2.2.2.2:=by
 obtain⟨c,h1,h⟩:=bnd h
 obtain⟨g,h2,h⟩:=bnd h
 obtain⟨k,x,gs,sc,p⟩:=c
 obtain⟨tg,it,fs,ay⟩:=g
 simp only at h
 by_cases ha:ay=0
 ·subst ha
  rw[if_pos rfl]at h
  cases h
  have e1:=one1_ok h2
  simp only at e1
  rw[v0 h1,e1]
 ·rw[if_neg ha]at h;cases h
def sS(e:Expr):Option (Expr × Expr × Expr × List Expr × Scope × Pos):=(l7 e).bind fun z=>(eJ z.2.1).bind fun g=>if g.is_async=0 then some (z.1,g.target,g.iter,g.ifs,z.2.2.1,z.2.2.2) else none
theorem ib{z}(h:sS e=some z):e=.ListComp z.1 [⟨z.2.1,z.2.2.1,z.2.2.2.1,0⟩] z.2.2.2.2.1 z.2.2.2.2.2:=by
 obtain⟨c,h1,h⟩:=bnd h
 obtain⟨g,h2,h⟩:=bnd h
 obtain⟨x,gs,sc,p⟩:=c
 obtain⟨tg,it,fs,ay⟩:=g
 simp only at h
 by_cases ha:ay=0
 ·subst ha
  rw[if_pos rfl]at h
  cases h
  have e1:=one1_ok h2
  simp only at e1
  subst e1
  exact nO h1
 ·rw[if_neg ha]at h;cases h
end
section
section
variable(t:Tb)
def ic(o:Co)(f g:Ck):Ck:=fun N sc e=>(zL e).any fun z=>Do o z.2.1 && !gg z.2.2 && f N sc z.1 && g N sc z.2.2
def sT(o o':Co)(f g k:Ck):Ck:=fun N sc e=>(cmp2 e).any fun z=>Do o z.2.1.1 && Do o' z.2.1.2 && !gg z.2.2.2 && (f N sc z.1 && g N sc z.2.2.1 && k N sc z.2.2.2)
def xr(neg:Bool)(f:Ck):Ck:=fun N sc e=>(zL e).any fun z=>CI neg z.2.1 && xm z.2.2 && f N sc z.1
def sU(b:BoolOp->Bool)(f g:Ck):Ck:=fun N sc e=>(vQ e).any fun z=>b z.1 && ((kS z.2.1).any fun x=>(kS x.2).any fun y=>f N sc x.1 && bif y.2.isEmpty then g N sc y.1 else g N sc (.BoolOp z.1 x.2 z.2.2))
def v3(b:UnaryOp->Bool)(f:Ck):Ck:=fun N sc e=>(sE e).any fun z=>b z.1 && f N sc z.2
def sV(b:Operator->Bool)(f g:Ck):Ck:=fun N sc e=>(nJ e).any fun z=>b z.2.1 && f N sc z.1 && g N sc z.2.2
def ie(p:Str->Bool)(f:List Str->Scope->List Expr->Bool):Ck:=fun N sc e=>(vW e).any fun z=>p z.1 && Au sc z.1 && !z.2.isEmpty && !z.2.any isStar && f N sc z.2
def ig(p:Str)(f:Ck):Ck:=fun N sc e=>(vW e).any fun z=>(eJ z.2).any fun x=>sJ t sc z.1 p && !isStar x && f N sc x
def l9(p:Str)(f g:Ck):Ck:=fun N sc e=>(vW e).any fun z=>(gX z.2).any fun x=>sJ t sc z.1 p && !isStar x.1 && !isStar x.2 && f N sc x.1 && g N sc x.2
def CL(k:Knd):Ck:=fun N sc e=>match k with
 | .seq=>(bW e).any fun z=>(gX z).any fun w=>((bH w.1).any fun u=>sJ t sc u "list") && (bH w.2).any fun v=>sJ t sc v "tuple"
 | k=>(bH e).any fun u=>sJ t sc u (FR k)
mutual
def aP:E->Ck × Ck
 | .nm i=>gh fun N sc e=>xo N sc i e
 | .int k=>gh fun N sc e=>(kQ e).any fun j=>decide (j=k)
 | .str k=>gh fun N sc e=>(xl e).any fun j=>sEq j k
 | .bl k=>gh fun N sc e=>(CG e).any fun j=>decide (j=k)
 | .gc g=>gh fun N sc e=>(bH e).any fun x=>decide (t.gc g=some x) && Au sc x
 | .bop o a b=>gh (sV (Dn o) (aP a).1 (aP b).1)
 | .cat a b=>gh (sV CJ (aP a).1 (aP b).1)
 | .cmp o a b=>(ic o (aP a).1 (aP b).1,ic o (aP a).1 (aP b).1)
 | .cmp2 o o' a b c=>(sT o o' (aP a).1 (aP b).1 (aP c).1,sT o o' (aP a).1 (aP b).1 (aP c).1)
 | .isn neg a=>(xr neg (aP a).1,xr neg (aP a).1)
 | .and a b=>(sU zM (aP a).1 (aP b).1,sU zM (aP a).2 (aP b).2)
 | .or a b=>(sU EY (aP a).1 (aP b).1,sU EY (aP a).2 (aP b).2)
 | .not a=>(v3 zN (aP a).1,v3 zN (aP a).2)
 | .neg a=>gh (v3 zJ (aP a).1)
 | .ife c a b=>gh fun N sc e=>(vS e).any fun z=>(aP c).2 N sc z.1 && (aP a).1 N sc z.2.1 && (aP b).1 N sc z.2.2
 | .tup es=>gh fun N sc e=>(bW e).any fun xs=>fe es N sc xs
 | .lst es=>gh fun N sc e=>(nL e).any fun xs=>fe es N sc xs
 | .ix a b=>gh fun N sc e=>(en e).any fun z=>!bw z.2 && (aP a).1 N sc z.1 && (aP b).1 N sc z.2
 | .sll a lo hi=>gh fun N sc e=>(xp e).any fun z=>(aP a).1 N sc z.1 && zO lo N sc z.2.1 && zO hi N sc z.2.2
 | .call f es=>gh (ie (fun x=>decide (t.fn f=some x)) (fe es))
 | .callS f es=>gh (ie (fun x=>decide (t.fn f=some x)) (fe es))
 | .blt f es=>gh (ie (fun x=>sEq x (zt f) && t.nog x) (fe es))
 | .bnw f a=>gh (ig t (FQ f) (aP a).1)
 | .isi k a=>gh (l9 t "isinstance" (aP a).1 (CL t k))
 | .dnew=>gh fun N sc e=>xn e
 | .pg i ps=>gh fun N sc e=>cx t N sc i ps e
 | .pf i ps=>gh fun N sc e=>cx t N sc i ps e
 | .pl i ps=>gh (ig t "len" fun N sc e=>cx t N sc i ps e)
 | .pt i ps=>(fun _ _ _=>false,fun N sc e=>plainT e && cx t N sc i ps e)
 | .pin neg a i ps=>(ic (if neg then .nin else .inn) (aP a).1 fun N sc e=>cx t N sc i ps e,ic (if neg then .nin else .inn) (aP a).1 fun N sc e=>cx t N sc i ps e)
 | .din neg a i ps=>(ic (if neg then .nin else .inn) (aP a).1 fun N sc e=>cx t N sc i ps e,ic (if neg then .nin else .inn) (aP a).1 fun N sc e=>cx t N sc i ps e)
 | .comp nt fr it tg ifs elt=>gh fun N sc e=>(sS e).any fun z=>(fun N'=>compB N' nt fr N z.2.2.2.2.1 sc && decide N'.Nodup && !gg z.2.2.1 && v4 it N sc z.2.1 z.2.2.1 && (sN (fun _=>true) N' (pZ z.2.2.2.2.1 sc) false nt tg z.2.1 && zQ ifs N' (pZ z.2.2.2.2.1 sc) z.2.2.2.1 && (aP elt).1 N' (pZ z.2.2.2.2.1 sc) z.1)) (zK z.2.1++fr.filterMap fun j=>N[j]?)
 | .compB i nt fr tg ifs elt=>gh fun N sc e=>(sS e).any fun z=>(fun N'=>compB N' nt fr N z.2.2.2.2.1 sc && decide N'.Nodup && xo N sc i z.2.2.1 && (sN (fun _=>true) N' (pZ z.2.2.2.2.1 sc) false nt tg z.2.1 && zQ ifs N' (pZ z.2.2.2.2.1 sc) z.2.2.2.1 && (aP elt).1 N' (pZ z.2.2.2.2.1 sc) z.1)) (zK z.2.1++fr.filterMap fun j=>N[j]?)
 | .meth c m f i es=>gh fun N sc e=>(CK e).any fun z=>decide (t.me f=some (c,m)) && sEq z.2.1 m && uo N sc i z.1 && !z.2.2.1.any isStar && (decide (z.2.2.1.length < 30) && (z.2.2.2.1.endLine == z.2.2.2.2.line) && fe es N sc z.2.2.1)
 | .make c f es=>gh (ie (fun x=>decide (t.mk' f=some c) && sEq x c) (fe es))
def fe:Es->List Str->Scope->List Expr->Bool
 | .nil=>fun N sc xs=>xs.isEmpty
 | .cons a es=>fun N sc xs=>(kS xs).any fun z=>!isStar z.1 && (aP a).1 N sc z.1 && fe es N sc z.2
def zO:Eo->List Str->Scope->Option Expr->Bool
 | .none=>fun N sc o=>o.isNone
 | .some a=>fun N sc o=>o.any fun x=>(aP a).1 N sc x
def zQ:Eo->List Str->Scope->List Expr->Bool
 | .none=>fun N sc o=>o.isEmpty
 | .some a=>fun N sc o=>(eJ o).any fun x=>(aP a).2 N sc x
def v4:It'->List Str->Scope->Expr->Expr->Bool
 | .seq a=>fun N sc g e=>(aP a).1 N sc e
 | .rg1 a=>fun N sc g e=>ig t "range" (aP a).1 N sc e
 | .enm a=>fun N sc g e=>isTup g && ig t "enumerate" (aP a).1 N sc e
 | .zip a b=>fun N sc g e=>isTup g && l9 t "zip" (aP a).1 (aP b).1 N sc e
end
end
def v5:Expr->Bool
 | .BoolOp _ _ _=>true
 | _=>false
structure EOk (t:Tb)(C:Ct)(m:E):Prop where
 v:∀X e,Cy t C X->(aP t m).1 X.N X.env.scope e=true->PDe X e (aD C m)
 w:∀X e,Cy t C X->v5 e=true->(aP t m).2 X.N X.env.scope e=true->PDw X e (gy C m)
 t:∀X e,Cy t C X->(aP t m).2 X.N X.env.scope e=true->PDt X e (gy C m)
section
variable{t:Tb}{C:Ct}{X:Cx}{e:Expr}
theorem jM(h:v5 e=true):∃o xs p,e=.BoolOp o xs p:=by cases e<;>first | exact⟨_,_,_,rfl⟩ | cases h
theorem aF{m:E}(hc:(aP t m).2=fun N sc e=>plainT e && (aP t m).1 N sc e)(hm:aZ C m=(vt (ev C m)).2)(hv:∀X e,Cy t C X->(aP t m).1 X.N X.env.scope e=true->PDe X e (aD C m)):EOk t C m :=
 ⟨hv,fun X e c hb h=>by
  rw[hc]at h
  obtain⟨o,xs,p,rfl⟩:=jM hb
  exact absurd h aae,
  fun X e c h=>by
  rw[hc]at h
  exact BU hm (an2 h).1 (hv X e c (an2 h).2)⟩
theorem fU{m:E}(hw:∀(X:Cx) e,v5 e=true->(aP t m).2 X.N X.env.scope e=false)(hv:∀X e,Cy t C X->(aP t m).1 X.N X.env.scope e=true->PDe X e (aD C m))(ht:∀X e,Cy t C X->(aP t m).2 X.N X.env.scope e=true->PDt X e (gy C m)):EOk t C m :=
 ⟨hv,fun X e c hb h=>absurd h (by rw[hw X e hb];exact aae),ht⟩
theorem qa{f:Ck}{N:List Str}{sc:Scope}(hb:v5 e=true)(h:∀o xs p,f N sc (.BoolOp o xs p)=false):f N sc e=false:=by
 obtain⟨o,xs,p,rfl⟩:=jM hb
 exact h o xs p
theorem ckBin_ok{b:Operator->Bool}{f g:Ck}{N:List Str}{sc:Scope}(h:sV b f g N sc e=true):∃x o y p,e=.BinOp x o y p/\b o=true/\f N sc x=true/\g N sc y=true:=by
 obtain⟨z,h1,h⟩:=anyT h
 obtain⟨p,rfl⟩:=sC h1
 exact⟨_,_,_,p,rfl,an3 h⟩
theorem ckUn_ok{b:UnaryOp->Bool}{f:Ck}{N:List Str}{sc:Scope}(h:v3 b f N sc e=true):∃o x p,e=.UnaryOp o x p/\b o=true/\f N sc x=true:=by
 obtain⟨z,h1,h⟩:=anyT h
 obtain⟨p,rfl⟩:=nK h1
 exact⟨_,_,p,rfl,an2 h⟩
theorem cE{o:Co}{f g:Ck}{N:List Str}{sc:Scope}(h:ic o f g N sc e=true):∃x y p,e=.Compare x [coOf o] [y] p/\gg y=false/\f N sc x=true/\g N sc y=true:=by
 obtain⟨z,h1,h⟩:=anyT h
 obtain⟨p,rfl⟩:=jL h1
 obtain⟨h1,h2,h3,h4⟩:=an4 h
 exact⟨_,_,p,by rw[hV h1],bq h2,h3,h4⟩
theorem dS{p:Str->Bool}{f:List Str->Scope->List Expr->Bool}{N:List Str}{sc:Scope}(h:ie p f N sc e=true):∃x z zs q q',e=.Call (.Name x q) (z::zs) [] q'/\p x=true/\Au sc x=true/\isStar z=false/\zs.any isStar=false/\f N sc (z::zs)=true:=by
 obtain⟨z,h1,h⟩:=anyT h
 obtain⟨q,q',rfl⟩:=jK h1
 obtain⟨h1,h2,h3,h4,h5⟩:=an5 h
 obtain⟨x,xs⟩:=z
 cases xs with
 | nil=>cases h3
 | cons y ys =>
  have:=bq h4
  rw[aaO,abQ]at this
  exact⟨x,y,ys,q,q',rfl,h1,h2,this.1,this.2,h5⟩
theorem dU{p:Str}{f:Ck}{N:List Str}{sc:Scope}(h:ig t p f N sc e=true):∃x z q q',e=.Call (.Name x q) [z] [] q'/\sJ t sc x p=true/\isStar z=false/\f N sc z=true:=by
 obtain⟨z,h1,h⟩:=anyT h
 obtain⟨w,h2,h⟩:=anyT h
 obtain⟨q,q',rfl⟩:=jK h1
 obtain⟨x,xs⟩:=z
 have:=one1_ok h2
 simp only at this
 subst this
 obtain⟨h1,h2,h3⟩:=an3 h
 exact⟨x,w,q,q',rfl,h1,bq h2,h3⟩
theorem iX{p:Str}{f g:Ck}{N:List Str}{sc:Scope}(h:l9 t p f g N sc e=true):∃x z w q q',e=.Call (.Name x q) [z,w] [] q'/\sJ t sc x p=true/\isStar z=false/\isStar w=false/\f N sc z=true/\g N sc w=true:=by
 obtain⟨z,h1,h⟩:=anyT h
 obtain⟨w,h2,h⟩:=anyT h
 obtain⟨q,q',rfl⟩:=jK h1
 obtain⟨x,xs⟩:=z
 have:=two2_ok h2
 simp only at this
 subst this
 obtain⟨h1,h2,h3,h4,h5⟩:=an5 h
 exact⟨x,_,_,q,q',rfl,h1,bq h2,bq h3,h4,h5⟩
theorem ckBo_ok{b:BoolOp->Bool}{f g:Ck}{N:List Str}{sc:Scope}(h:sU b f g N sc e=true):∃o x y es p,e=.BoolOp o (x::y::es) p/\b o=true/\f N sc x=true/\((es=[]/\g N sc y=true)\/g N sc (.BoolOp o (y::es) p)=true):=by
 obtain⟨z,h1,h⟩:=anyT h
 have:=vR h1
 subst this
 obtain⟨h2,h⟩:=an2 h
 obtain⟨x,h3,h⟩:=anyT h
 obtain⟨y,h4,h⟩:=anyT h
 obtain⟨h5,h⟩:=an2 h
 obtain⟨o,xs,p⟩:=z
 obtain⟨x,xs'⟩:=x
 obtain⟨y,es⟩:=y
 have e1:=con1_ok h3
 have e2:=con1_ok h4
 simp only at e1 e2
 subst e2
 subst e1
 cases es with
 | nil=>exact⟨o,x,y,[],p,rfl,h2,h5,.inl ⟨rfl,h⟩⟩
 | cons a es=>exact⟨o,x,y,a::es,p,rfl,h2,h5,.inr h⟩
theorem zR{a b c:Expr}{ma mb mc:E}{pos:Pos}{o o':Co}(hu:X.A.units + 64 < cLine)(hm:lastMarks [coOf o,coOf o'] [b,c]=false)(h1:PDe X a (aD C ma))(h2:PDe X b (aD C mb))(h3:PDe X c (aD C mc)):PDt X (.Compare a [coOf o,coOf o'] [b,c] pos) (gy C (.cmp2 o o' ma mb mc)):=by
 obtain⟨r2,ho,hr⟩:=g6 hu o
 obtain⟨r2',ho',hr'⟩:=g6 hu o'
 refine (pO ho hr ho' hr' hm h1 h2 h3).imp fun ρ Q hq=>?_
 obtain⟨x,h,k0,hk0,q⟩:=jG (m:=.cmp2 o o' ma mb mc) rfl (fun ρ x h=>by
  obtain⟨xa,e1,h⟩:=bnd h
  obtain⟨xb,e2,h⟩:=bnd h
  obtain⟨dx,e3,h⟩:=bnd h
  obtain⟨dy,e4,h⟩:=bnd h
  obtain⟨k,e5,h⟩:=bnd h
  cases k with
  | false=>rw[if_neg aae]at h;cases h;exact⟨_,rfl⟩
  | true =>
   rw[if_pos rfl]at h
   obtain⟨xc,e6,h⟩:=bnd h
   obtain⟨dy',e7,h⟩:=bnd h
   obtain⟨dz,e8,h⟩:=bnd h
   obtain⟨k',e9,h⟩:=bnd h
   cases h
   exact⟨_,rfl⟩) ρ Q hq
 obtain⟨xa,e1,h⟩:=bnd h
 obtain⟨xb,e2,h⟩:=bnd h
 obtain⟨dx,e3,h⟩:=bnd h
 obtain⟨dy,e4,h⟩:=bnd h
 obtain⟨k,e5,h⟩:=bnd h
 refine⟨xa,e1,xb,e2,dx,dy,e3,e4,k,e5,k,rfl,?_⟩
 cases k with
 | false=>rw[if_neg aae]at h;cases h;rw[if_neg aae];exact⟨k0,hk0,q⟩
 | true =>
  rw[if_pos rfl]at h ⊢
  obtain⟨xc,e6,h⟩:=bnd h
  obtain⟨dy',e7,h⟩:=bnd h
  obtain⟨dz,e8,h⟩:=bnd h
  obtain⟨k',e9,h⟩:=bnd h
  cases h
  exact⟨xc,e6,dy',dz,e7,e8,k',e9,k0,hk0,q⟩
theorem mf {x:Str} {T:String} {p:Pos} (hg:Gl X x) (hm:X.mg x=none) (hv:bootBuiltins x=some (.type T)) (hn:x≠"__name__") (hd:(x == ("__debug__":Str))=false):PE X (.Name x p) (tC (.ty T)):=uv hg hm hv rfl hn hd
theorem zT {z w:Expr} {x:Str} {q q':Pos} {k:Knd} {ma:E} (c:Cy t C X) (h1:sJ t X.env.scope x "isinstance"=true) (h2:isStar z=false) (h3:CL t k X.N X.env.scope w=true) (ha:PDe X z (aD C ma)):PDe X (.Call (.Name x q) [z,w] [] q') (aD C (.isi k ma)):=by
 obtain⟨g1,g2,g3⟩:=blB_ok c h1
 subst g1
 have nmd:∀{T:Str},((bH w).any fun u=>sJ t X.env.scope u T)=true->∃p,w=.Name T p/\Gl X T/\X.mg T=none:=fun {T} h=>by
  obtain⟨u,a1,a2⟩:=anyT h
  obtain⟨p,rfl⟩:=asNm_ok a1
  obtain⟨f1,f2,f3⟩:=blB_ok c a2
  subst f1
  exact⟨p,rfl,f2,f3⟩
 cases k with
 | int=>obtain⟨p,rfl,f2,f3⟩:=nmd h3;exact g7 (T:="int") rfl (mf f2 f3 qZ (by decide) (by decide)) g2 g3 h2 rfl ha
 | bool=>obtain⟨p,rfl,f2,f3⟩:=nmd h3;exact g7 (T:="bool") rfl (mf f2 f3 uP (by decide) (by decide)) g2 g3 h2 rfl ha
 | str=>obtain⟨p,rfl,f2,f3⟩:=nmd h3;exact g7 (T:="str") rfl (mf f2 f3 yK (by decide) (by decide)) g2 g3 h2 rfl ha
 | list=>obtain⟨p,rfl,f2,f3⟩:=nmd h3;exact g7 (T:="list") rfl (mf f2 f3 jo (by decide) (by decide)) g2 g3 h2 rfl ha
 | tuple=>obtain⟨p,rfl,f2,f3⟩:=nmd h3;exact g7 (T:="tuple") rfl (mf f2 f3 gM (by decide) (by decide)) g2 g3 h2 rfl ha
 | seq =>
  obtain⟨zs,a1,h3⟩:=anyT h3
  obtain⟨w',a2,h3⟩:=anyT h3
  obtain⟨b1,b2⟩:=an2 h3
  obtain⟨u,c1,c2⟩:=anyT b1
  obtain⟨v,d1,d2⟩:=anyT b2
  obtain⟨k1,p1,rfl⟩:=asTup_ok a1
  have:=two2_ok a2
  subst this
  obtain⟨w1,w2⟩:=w'
  obtain⟨p2,e2⟩:=asNm_ok c1
  obtain⟨p3,e3⟩:=asNm_ok d1
  simp only at e2 e3
  subst e2 e3
  obtain⟨f1,f2,f3⟩:=blB_ok c c2
  obtain⟨l1,l2,l3⟩:=blB_ok c d2
  subst f1 l1
  exact zw (mf f2 f3 jo (by decide) (by decide)) (mf l2 l3 gM (by decide) (by decide)) g2 g3 h2 rfl rfl ha
mutual
theorem ba:∀m:E,EOk t C m
 | .nm i=>aF rfl rfl fun X e c h=>by
  obtain⟨x,p,rfl,h⟩:=hU h
  obtain⟨h1,h2,h3,h4⟩:=bY h
  exact Ew h1 h2 h3 h4
 | .int k=>aF rfl rfl fun X e c h=>by
  obtain⟨j,h1,h⟩:=anyT h
  obtain⟨_,_,rfl⟩:=asInt_ok h1
  have:=of_decide_eq_true h
  subst this
  exact BL
 | .str k=>aF rfl rfl fun X e c h=>by
  obtain⟨j,h1,h⟩:=anyT h
  obtain⟨_,_,rfl⟩:=asStr_ok h1
  have:=bI h
  subst this
  exact BM
 | .bl k=>aF rfl rfl fun X e c h=>by
  obtain⟨j,h1,h⟩:=anyT h
  obtain⟨_,_,rfl⟩:=asBl_ok h1
  have:=of_decide_eq_true h
  subst this
  exact Ex
 | .gc g=>aF rfl rfl fun X e c h=>by
  obtain⟨x,h1,h⟩:=anyT h
  obtain⟨_,rfl⟩:=asNm_ok h1
  obtain⟨v,u,g1,g2,g3⟩:=c.hgc _ _ (of_decide_eq_true (an2 h).1)
  exact Ey (cv (an2 h).2).1 g1 g2 g3 (cv (an2 h).2).2
 | .bop o a b=>aF rfl rfl fun X e c h=>by
  obtain⟨x,o',y,p,rfl,h1,h2,h3⟩:=ckBin_ok h
  have:=l8 h1
  subst this
  exact BI ((ba a).v X _ c h2) ((ba b).v X _ c h3)
 | .cat a b=>aF rfl rfl fun X e c h=>by
  obtain⟨x,o',y,p,rfl,h1,h2,h3⟩:=ckBin_ok h
  have:=vX h1
  subst this
  exact BY ((ba a).v X _ c h2) ((ba b).v X _ c h3)
 | .cmp o a b=>fU (fun X e hb=>qa (f:=(aP t (.cmp o a b)).2) hb fun _ _ _=>rfl) (fun X e c h=>by
  obtain⟨x,y,p,rfl,h2,h3,h4⟩:=cE h
  exact BJ c.units (dA _ h2) ((ba a).v X _ c h3) ((ba b).v X _ c h4)) fun X e c h=>by
  obtain⟨x,y,p,rfl,h2,h3,h4⟩:=cE h
  exact BK c.units (dA _ h2) ((ba a).v X _ c h3) ((ba b).v X _ c h4)
 | .cmp2 o o' a b d=>fU (fun X e hb=>qa (f:=(aP t (.cmp2 o o' a b d)).2) hb fun _ _ _=>rfl) (fun X e c h=>by
  obtain⟨z,h1,h⟩:=anyT h
  obtain⟨p,rfl⟩:=nU h1
  obtain⟨a1,a2,a3,a4⟩:=an4 h
  obtain⟨b1,b2,b3⟩:=an3 a4
  rw[hV a1,hV a2]
  exact zo c.units (dA _ (bq a3)) ((ba a).v X _ c b1) ((ba b).v X _ c b2) ((ba d).v X _ c b3)) fun X e c h=>by
  obtain⟨z,h1,h⟩:=anyT h
  obtain⟨p,rfl⟩:=nU h1
  obtain⟨a1,a2,a3,a4⟩:=an4 h
  obtain⟨b1,b2,b3⟩:=an3 a4
  rw[hV a1,hV a2]
  exact zR c.units (dA _ (bq a3)) ((ba a).v X _ c b1) ((ba b).v X _ c b2) ((ba d).v X _ c b3)
 | .isn neg a=>fU (fun X e hb=>qa (f:=(aP t (.isn neg a)).2) hb fun _ _ _=>rfl) (fun X e c h=>by
  obtain⟨z,h1,h⟩:=anyT h
  obtain⟨p,rfl⟩:=jL h1
  obtain⟨a1,a2,a3⟩:=an3 h
  obtain⟨_,_,e2⟩:=kR a2
  rw[nV a1,e2]
  exact BN ((ba a).v X _ c a3)) fun X e c h=>by
  obtain⟨z,h1,h⟩:=anyT h
  obtain⟨p,rfl⟩:=jL h1
  obtain⟨a1,a2,a3⟩:=an3 h
  obtain⟨_,_,e2⟩:=kR a2
  rw[nV a1,e2]
  exact BO ((ba a).v X _ c a3)
 | .and a b=>by
  have hw:∀X e,Cy t C X->(aP t (.and a b)).2 X.N X.env.scope e=true->PDw X e (gy C (.and a b)):=fun X e c h=>by
   obtain⟨o,x,y,es,p,rfl,h1,h2,h3⟩:=ckBo_ok h
   have:=nW h1
   subst this
   refine BQ ((ba a).t X _ c h2) ?_
   rcases h3 with ⟨rfl,h3⟩ | h3
   ·exact rD ((ba b).t X _ c h3)
   ·exact (ba b).w X _ c rfl h3
  refine⟨fun X e c h=>?_,fun X e c _ h=>hw X e c h,fun X e c h=>(hw X e c h).pt⟩
  obtain⟨o,x,y,es,p,rfl,h1,h2,h3⟩:=ckBo_ok h
  have:=nW h1
  subst this
  refine v_and ((ba a).v X _ c h2) ?_
  rcases h3 with ⟨rfl,h3⟩ | h3
  ·exact rB ((ba b).v X _ c h3)
  ·exact (ba b).v X _ c h3
 | .or a b=>by
  have hw:∀X e,Cy t C X->(aP t (.or a b)).2 X.N X.env.scope e=true->PDw X e (gy C (.or a b)):=fun X e c h=>by
   obtain⟨o,x,y,es,p,rfl,h1,h2,h3⟩:=ckBo_ok h
   have:=sP h1
   subst this
   refine Ez ((ba a).t X _ c h2) ?_
   rcases h3 with ⟨rfl,h3⟩ | h3
   ·exact vd ((ba b).t X _ c h3)
   ·exact (ba b).w X _ c rfl h3
  refine⟨fun X e c h=>?_,fun X e c _ h=>hw X e c h,fun X e c h=>(hw X e c h).pt⟩
  obtain⟨o,x,y,es,p,rfl,h1,h2,h3⟩:=ckBo_ok h
  have:=sP h1
  subst this
  refine v_or ((ba a).v X _ c h2) ?_
  rcases h3 with ⟨rfl,h3⟩ | h3
  ·exact rB ((ba b).v X _ c h3)
  ·exact (ba b).v X _ c h3
 | .not a=>fU (fun X e hb=>qa (f:=(aP t (.not a)).2) hb fun _ _ _=>rfl) (fun X e c h=>by
  obtain⟨o,x,p,rfl,h1,h2⟩:=ckUn_ok h
  have:=nY h1
  subst this
  exact v_not ((ba a).v X _ c h2)) fun X e c h=>by
  obtain⟨o,x,p,rfl,h1,h2⟩:=ckUn_ok h
  have:=nY h1
  subst this
  exact BR ((ba a).t X _ c h2)
 | .neg a=>aF rfl rfl fun X e c h=>by
  obtain⟨o,x,p,rfl,h1,h2⟩:=ckUn_ok h
  have:=nQ h1
  subst this
  exact BP ((ba a).v X _ c h2)
 | .ife z a b=>aF rfl rfl fun X e c h=>by
  obtain⟨q,h1,h⟩:=anyT h
  obtain⟨p,rfl⟩:=vT h1
  obtain⟨a1,a2,a3⟩:=an3 h
  exact BS ((ba z).t X _ c a1) ((ba a).v X _ c a2) ((ba b).v X _ c a3)
 | .tup es=>aF rfl rfl fun X e c h=>by
  obtain⟨q,h1,h⟩:=anyT h
  obtain⟨_,_,rfl⟩:=asTup_ok h1
  exact BV (uq es X _ c h)
 | .lst es=>aF rfl rfl fun X e c h=>by
  obtain⟨q,h1,h⟩:=anyT h
  obtain⟨_,rfl⟩:=sF h1
  exact BW (uq es X _ c h)
 | .ix a b=>aF rfl rfl fun X e c h=>by
  obtain⟨q,h1,h⟩:=anyT h
  obtain⟨_,rfl⟩:=bX h1
  obtain⟨a1,a2,a3⟩:=an3 h
  exact EA (bq a1) ((ba a).v X _ c a2) ((ba b).v X _ c a3)
 | .sll a lo hi=>aF rfl rfl fun X e c h=>by
  obtain⟨q,h1,h⟩:=anyT h
  obtain⟨_,_,rfl⟩:=sQ h1
  obtain⟨a1,a2,a3⟩:=an3 h
  exact BX ((ba a).v X _ c a1) (Fw lo X _ c a2) (Fw hi X _ c a3)
 | .call f es=>aF rfl rfl fun X e c h=>by
  obtain⟨x,z,zs,q,q',rfl,h1,h2,h3,h4,h5⟩:=dS (p:=fun x=>decide (t.fn f=some x)) (f:=fe t es) (N:=X.N) (sc:=X.env.scope) (e:=e) h
  obtain⟨k,fa,fd,ps,g1,g2,g3,g4,g5⟩:=c.hfn _ _ (of_decide_eq_true h1)
  exact zp g1 g2 (cv h2).1 g3 g4 g5 (cv h2).2 h3 h4 (uq es X _ c h5)
 | .callS f es=>aF rfl rfl fun X e c h=>by
  obtain⟨x,z,zs,q,q',rfl,h1,h2,h3,h4,h5⟩:=dS (p:=fun x=>decide (t.fn f=some x)) (f:=fe t es) (N:=X.N) (sc:=X.env.scope) (e:=e) h
  obtain⟨k,fa,fd,ps,g1,g2,g3,g4,g5⟩:=c.hfn _ _ (of_decide_eq_true h1)
  exact vI g1 g2 (cv h2).1 g3 g4 g5 (cv h2).2 h3 h4 (uq es X _ c h5)
 | .blt f es=>aF rfl rfl fun X e c h=>by
  obtain⟨x,z,zs,q,q',rfl,h1,h2,h3,h4,h5⟩:=dS (p:=fun x=>sEq x (zt f) && t.nog x) (f:=fe t es) (N:=X.N) (sc:=X.env.scope) (e:=e) h
  have:=bI (an2 h1).1
  subst this
  exact BZ c.calm (cv h2).1 (c.hng _ (an2 h1).2) h3 h4 (uq es X _ c h5)
 | .bnw f a=>aF rfl rfl fun X e c h=>by
  obtain⟨x,z,q,q',rfl,h1,h2,h3⟩:=dU h
  obtain⟨g1,g2,g3⟩:=blB_ok c h1
  subst g1
  cases f with
  | list=>exact zu g2 g3 h2 ((ba a).v X _ c h3)
  | tuple=>exact vJ g2 g3 h2 ((ba a).v X _ c h3)
 | .isi k a=>aF rfl rfl fun X e c h=>by
  obtain⟨x,z,w,q,q',rfl,h1,h2,h3,h4,h5⟩:=iX h
  exact zT c h1 h2 h5 ((ba a).v X _ c h4)
 | .dnew=>aF rfl rfl fun X e c h=>by
  obtain⟨_,rfl⟩:=sI h
  exact zq
 | .pg i ps=>aF rfl rfl fun X e c h=>EJ (aT c ps _ h)
 | .pf i ps=>aF rfl rfl fun X e c h=>EK (aT c ps _ h)
 | .pl i ps=>aF rfl rfl fun X e c h=>by
  obtain⟨x,z,q,q',rfl,h1,h2,h3⟩:=dU (t:=t) (p:="len") (f:=fun N sc e=>cx t N sc i ps e) (N:=X.N) (sc:=X.env.scope) (e:=e) h
  obtain⟨g1,g2,g3⟩:=blB_ok c h1
  subst g1
  exact EL g2 g3 h2 (aT c ps _ h3)
 | .pt i ps=>⟨fun X e c h=>absurd h aae,fun X e c hb h=>by
   obtain⟨o,xs,p,rfl⟩:=jM hb
   exact absurd h aae,fun X e c h=>EM (an2 h).1 (aT c ps _ (an2 h).2)⟩
 | .pin neg a i ps=>fU (fun X e hb=>qa (f:=(aP t (.pin neg a i ps)).2) hb fun _ _ _=>rfl) (fun X e c h=>by
  obtain⟨x,y,p,rfl,h2,h3,h4⟩:=cE (o:=if neg then .nin else .inn) (f:=(aP t a).1) (g:=fun N sc e=>cx t N sc i ps e) (N:=X.N) (sc:=X.env.scope) (e:=e) h
  exact (sq c.units (dA _ h2) ((ba a).v X _ c h3) (aT c ps _ h4)).1) fun X e c h=>by
  obtain⟨x,y,p,rfl,h2,h3,h4⟩:=cE (o:=if neg then .nin else .inn) (f:=(aP t a).1) (g:=fun N sc e=>cx t N sc i ps e) (N:=X.N) (sc:=X.env.scope) (e:=e) h
  exact (sq c.units (dA _ h2) ((ba a).v X _ c h3) (aT c ps _ h4)).2
 | .din neg a i ps=>fU (fun X e hb=>qa (f:=(aP t (.din neg a i ps)).2) hb fun _ _ _=>rfl) (fun X e c h=>by
  obtain⟨x,y,p,rfl,h2,h3,h4⟩:=cE (o:=if neg then .nin else .inn) (f:=(aP t a).1) (g:=fun N sc e=>cx t N sc i ps e) (N:=X.N) (sc:=X.env.scope) (e:=e) h
  exact (sr (by have:=c.units;omega) (dA _ h2) ((ba a).v X _ c h3) (aT c ps _ h4)).1) fun X e c h=>by
  obtain⟨x,y,p,rfl,h2,h3,h4⟩:=cE (o:=if neg then .nin else .inn) (f:=(aP t a).1) (g:=fun N sc e=>cx t N sc i ps e) (N:=X.N) (sc:=X.env.scope) (e:=e) h
  exact (sr (by have:=c.units;omega) (dA _ h2) ((ba a).v X _ c h3) (aT c ps _ h4)).2
 | .comp nt fr it tg ifs elt=>aF rfl rfl fun X e c h=>by
  obtain⟨z,h1,h⟩:=anyT h
  have:=ib h1
  subst this
  obtain⟨a1,a2,a3,a4,a5⟩:=an5 h
  obtain⟨b1,b2,b3⟩:=an3 a5
  exact zz c.calm (fc a1) (jI (bq a3)) (Dp it X _ _ c a4) (fun q=>fb (X:=eG X _ z.2.2.2.2.1 q) (fn:=false) c.calm (of_decide_eq_true a2) (fun z=>by cases z) (fun _ _ z=>z) b1) fun q=>EZ ifs (eG X _ z.2.2.2.2.1 q) _ _ c.comp (ba elt) b2 b3
 | .compB i nt fr tg ifs elt=>aF rfl rfl fun X e c h=>by
  obtain⟨z,h1,h⟩:=anyT h
  have:=ib h1
  subst this
  obtain⟨a1,a2,a3,a5⟩:=an4 h
  obtain⟨b1,b2,b3⟩:=an3 a5
  obtain⟨x,p,e0,h0⟩:=hU a3
  obtain⟨n1,n2,n3,n4⟩:=bY h0
  rw[e0]
  exact vP n1 n2 n3 n4 c.calm (fc a1) (fun q=>fb (X:=eG X _ z.2.2.2.2.1 q) (fn:=false) c.calm (of_decide_eq_true a2) (fun z=>by cases z) (fun _ _ z=>z) b1) fun q=>EZ ifs (eG X _ z.2.2.2.2.1 q) _ _ c.comp (ba elt) b2 b3
 | .meth cn m f i es=>aF rfl rfl fun X e c h=>by
  obtain⟨z,h1,h⟩:=anyT h
  obtain⟨p,rfl⟩:=vY h1
  obtain⟨a1,a2,a3,a4,a5⟩:=an5 h
  obtain⟨b1,b2,b3⟩:=an3 a5
  obtain⟨x,m',zs,ap,q⟩:=z
  have:=bI a2
  simp only at this
  subst this
  obtain⟨g0,k,fa,fd,ps,g1,g2,g3,g4⟩:=c.hme _ _ _ (of_decide_eq_true a1)
  obtain⟨n1,n2,n3,n4⟩:=bY a3
  cases zs with
  | nil =>
   cases es with
   | nil=>exact vO g0 g1 g2 g3 g4 n1 n2 n3 n4 b2
   | cons a es=>cases b3
  | cons z zs =>
   have:=bq a4
   rw[aaO,abQ]at this
   exact zG g0 g1 g2 g3 g4 n1 n2 n3 n4 this.1 this.2 b1 b2 (uq es X _ c b3)
 | .make cn f es=>aF rfl rfl fun X e c h=>by
  obtain⟨x,z,zs,q,q',rfl,h1,h2,h3,h4,h5⟩:=dS (p:=fun x=>decide (t.mk' f=some cn) && sEq x cn) (f:=fe t es) (N:=X.N) (sc:=X.env.scope) (e:=e) h
  have:=bI (an2 h1).2
  subst this
  obtain⟨k,fa,fd,ps,g1,g2,g3,g4,g5⟩:=c.hmk _ _ (of_decide_eq_true (an2 h1).1)
  exact zH g1 g2 g3 (cv h2).1 g4 g5 (cv h2).2 h3 h4 (uq es X _ c h5)
theorem uq:∀(m:Es) X xs,Cy t C X->fe t m X.N X.env.scope xs=true->PDa X xs (eK C m)
 | .nil,X,xs,c,h=>by
  cases xs with
  | nil=>exact fQ
  | cons _ _=>cases h
 | .cons a es,X,xs,c,h=>by
  obtain⟨z,h1,h⟩:=anyT h
  have:=con1_ok h1
  subst this
  obtain⟨a1,a2,a3⟩:=an3 h
  exact cN (bq a1) ((ba a).v X _ c a2) (uq es X _ c a3)
theorem Fw:∀(m:Eo) X o,Cy t C X->zO t m X.N X.env.scope o=true->PDo X o (sm C m)
 | .none,X,o,c,h=>by
  cases o with
  | none=>exact vG
  | some _=>cases h
 | .some a,X,o,c,h=>by
  obtain⟨z,h1,h⟩:=anyT h
  subst h1
  exact vH ((ba a).v X _ c h)
theorem EZ:∀(m:Eo) {elt:E} X fs x,Cy t C X->EOk t C elt->zQ t m X.N X.env.scope fs=true->(aP t elt).1 X.N X.env.scope x=true->PDc X fs x (xj C m elt)
 | .none,elt,X,fs,x,c,he,h,h'=>by
  cases fs with
  | nil=>exact vK (he.v X _ c h')
  | cons _ _=>cases h
 | .some a,elt,X,fs,x,c,he,h,h'=>by
  obtain⟨z,h1,h⟩:=anyT h
  have:=one1_ok h1
  subst this
  exact zy ((ba a).t X _ c h) (he.v X _ c h')
theorem Dp:∀(m:It') X g e,Cy t C X->v4 t m X.N X.env.scope g e=true->PDi X g e (gZ C m)
 | .seq a,X,g,e,c,h=>B6 ((ba a).v X _ c h)
 | .rg1 a,X,g,e,c,h=>by
  obtain⟨x,z,q,q',rfl,h1,h2,h3⟩:=dU h
  obtain⟨g1,g2,g3⟩:=blB_ok c h1
  subst g1
  exact B7 g2 g3 h2 ((ba a).v X _ c h3)
 | .enm a,X,g,e,c,h=>by
  obtain⟨h0,h⟩:=an2 h
  obtain⟨xs,k,p,rfl⟩:=eZ h0
  obtain⟨x,z,q,q',rfl,h1,h2,h3⟩:=dU h
  obtain⟨g1,g2,g3⟩:=blB_ok c h1
  subst g1
  exact B8 g2 g3 h2 ((ba a).v X _ c h3)
 | .zip a b,X,g,e,c,h=>by
  obtain⟨h0,h⟩:=an2 h
  obtain⟨xs,k,p,rfl⟩:=eZ h0
  obtain⟨x,z,w,q,q',rfl,h1,h2,h3,h4,h5⟩:=iX h
  obtain⟨g1,g2,g3⟩:=blB_ok c h1
  subst g1
  exact B9 g2 g3 h2 h3 ((ba a).v X _ c h4) ((ba b).v X _ c h5)
end
end
end
section
def bkS(sc:Scope):ScopeKind:=if sc.kind.isAnnotationScope then .function else sc.kind
def qb(ts:List Expr)(sc:Scope):List Str:=ts.filterMap fun
  | .Name id pos=>if sc.names.lookup id == some .local && pos.line == (ts.head?.map (·.pos.line)).getD 0 then some id else none
  | _=>none
def Dq(ts vs:List Expr)(sc:Scope):Option (Option (List Str)) :=
 if !(ts.length == 2 || ts.length == 3) || vs.length != ts.length || bkS sc != .function then some none
 else if (vs.any fun | .Starred ..=>true | _=>false) then some none
 else if (qb ts sc).length != ts.length || (qb ts sc).eraseDups.length != (qb ts sc).length then some none
 else if vs.all (foldedForSure 8) then some none
 else if vs.all (constantsAlone 8) then none
 else some (some (qb ts sc))
theorem mj(h:Dq ts vs env.scope=some r):swappedStores [.Tuple ts k p] (.Tuple vs k2 p2) env=pure r:=by
 unfold Dq at h
 unfold swappedStores
 split at h
 ·rename_i hc
  cases h
  show (if (!(ts.length == 2 || ts.length == 3) || vs.length != ts.length || env.blockKind != .function)=true then _ else _)=_
  rw[if_pos (show (!(ts.length == 2 || ts.length == 3) || vs.length != ts.length || env.blockKind != .function)=true from hc)]
 ·rename_i hc
  show (if (!(ts.length == 2 || ts.length == 3) || vs.length != ts.length || env.blockKind != .function)=true then _ else _)=_
  rw[if_neg (show ¬ (!(ts.length == 2 || ts.length == 3) || vs.length != ts.length || env.blockKind != .function)=true from hc)]
  split at h
  ·rename_i hc2
   cases h
   show (if (vs.any fun | .Starred ..=>true | _=>false)=true then _ else _)=_
   rw[if_pos hc2]
  ·rename_i hc2
   show (if (vs.any fun | .Starred ..=>true | _=>false)=true then _ else _)=_
   rw[if_neg hc2]
   split at h
   ·rename_i hc3
    cases h
    show (if ((qb ts env.scope).length != ts.length || (qb ts env.scope).eraseDups.length != (qb ts env.scope).length)=true then _ else _)=_
    rw[if_pos hc3]
   ·rename_i hc3
    show (if ((qb ts env.scope).length != ts.length || (qb ts env.scope).eraseDups.length != (qb ts env.scope).length)=true then _ else _)=_
    rw[if_neg hc3]
    split at h
    ·rename_i hc4
     cases h
     show (if vs.all (foldedForSure 8)=true then _ else _)=_
     rw[if_pos hc4]
    ·rename_i hc4
     show (if vs.all (foldedForSure 8)=true then _ else _)=_
     rw[if_neg hc4]
     split at h
     ·cases h
     ·rename_i hc5
      cases h
      show (if vs.all (constantsAlone 8)=true then _ else _)=_
      rw[if_neg hc5]
      rfl
def xu(tg e:Expr)(sc:Scope):Bool:=(bW tg).any fun ts=>(bW e).all fun vs=>decide (Dq ts vs sc=some none)
theorem sW(h:xu tg e env.scope=true):swappedStores [tg] e env=pure none:=by
 obtain⟨ts,h1,h2⟩:=anyT h
 clear h
 obtain⟨k,p,rfl⟩:=asTup_ok h1
 cases he:bW e with
 | some vs =>
  obtain⟨k2,p2,rfl⟩:=asTup_ok he
  rw[he]at h2
  exact mj (of_decide_eq_true h2)
 | none=>cases e<;>first | rfl | cases he
def swC(sc:Scope)(t:Str)(pos p:Pos)(s:Scope):Bool:=bkS sc == .function && sc.names.lookup t == some .local && pos.line == p.line && !(s.names.any fun (n,k)=>n == t && (k == .local || k == .cell))
theorem sX:swapsWith (.ListComp elt gs s p) (some (.Name t pos)) l env=pure (swC env.scope t pos p s):=rfl
inductive PDx (X:Cx)(i:Nat)(st:Stmt)(de:DE):Prop | mk (te:TE) (h:PS X st (qt te (kc i))) (s:cm X.K te de)
section
variable{X:Cx}{W:Nat->Prop}{m:Nat}{C:Ct}{e:Expr}{ma:E}{pos p p1 p2 p3 pos' spos py:Pos}{x y:Str}{i:Nat}{st:Stmt}
theorem PDx.imp:PDx X i st d->(∀ρ Q,d' ρ Q->d ρ Q)->PDx X i st d'
 | ⟨te,h,s⟩,f=>⟨te,h,fun b F σ H ρ τ θ Qd Q hK R hd q=>s b F σ H ρ τ θ Qd Q hK R (f _ _ hd) q⟩
theorem zU{mt:Tg}(hN:X.N.Nodup)(hy:X.N[i]?=some y)(hl:X.env.scope.names.lookup y=some .local)(hc:X.calm=true)(S:CompScope N nt fr X.N scope X.env.scope)(hs:∀x,foldedSetIterable iter X.env x=pure x)(hi:PDi X tg iter (gZ C mi))(hg:∀c:CC,PDg (eG X N scope c) Ff nt tg (fR mt))(ha:∀c:CC,PDc (eG X N scope c) ifs elt (xj C mif me))
  (hsw:swapsWith (.ListComp elt [⟨tg,iter,ifs,0⟩] scope pos) (some (.Name y py)) spos.line X.env=pure true):PDx X i (.Assign [.Name y py] (.ListComp elt [⟨tg,iter,ifs,0⟩] scope pos) spos) (aD C (.comp nt fr mi mt mif me)):=by
 have h0:PDx X i (.Assign [.Name y py] (.ListComp elt [⟨tg,iter,ifs,0⟩] scope pos) spos) (nq (gZ C mi) nt fr (fR mt) (xj C mif me)):=by
  obtain⟨wi,h1,s1⟩:=hi
  obtain⟨g,hg'⟩:=PDg.ex (Y:=fun c=>eG X N scope c) (fun _=>rfl) hg
  obtain⟨tc,hc'⟩:=PDc.ex (Y:=fun c=>eG X N scope c) (fun _=>rfl) ha
  exact⟨_,uM hN hy hl hc S h1 (fun c=>(hg' c).1) (fun c D=>(hc' c).1 D) hs hsw,kG s1 (fun c=>(hg' c).2) fun c=>(hc' c).2⟩
 exact h0.imp (nG C)
theorem CM(hw:¬ W i)(hN:X.N.Nodup)(hy:X.N[i]?=some y)(hl:X.env.scope.names.lookup y=some .local)(hc:X.calm=true)(S:CompScope N nt fr X.N scope X.env.scope)(hs:∀x,foldedSetIterable iter X.env x=pure x)
  (hsw:swapsWith (.DictComp kx vx [⟨tg,iter,ifs,0⟩] scope pos) (some (.Name y py)) spos.line X.env=pure true):PDi X tg iter (gZ C mi)->PDs X W (.Assign [.Name y py] (.DictComp kx vx [⟨tg,iter,ifs,0⟩] scope pos) spos) (gB C (.sdz i nt fr mi))
 | ⟨_,h1,s1⟩=>⟨_,rj hN hy hl hc S h1 (g:=fun _ _ _ _ _=>False) (tc:=fun _ _ _ _ _=>False) (fun _ _ _ _ _ _ _ _ _ _ z=>z.elim) (fun _ _ _ _ _ _ _ _ z=>z.elim) hs hsw,fun b F σ H ρ τ θ Dd D hK n R ⟨z,h,q⟩ E=>by
  obtain⟨w,e1,h⟩:=bnd h
  obtain⟨_,e2,h⟩:=bnd h
  obtain⟨_,hi,h⟩:=bnd h
  cases h
  refine s1 b F σ H ρ τ θ (fun ds ρ'=>ds=w.1/\ρ'=w.2) _ hK R ⟨w,e1,rfl,rfl⟩ fun J H1 ds ρ1 vs rs el nr R1 it hZ=>?_
  obtain⟨h1,h2⟩:=hZ
  subst h1 h2
  intro c a hD
  have R2:Rel b F σ (upd H1 a (.dK [])) w.2 (.ref a::(vs++τ)) (.val (.dic [] [])::(rs++θ)):=R1.push (R1.wd.newDic hD)
  refine⟨fun k m σ' H'=>k=0/\H'=upd H1 a (.dK []),⟨0,rfl,rfl⟩,fun k m σ' H' hk=>.inl ?_⟩
  obtain⟨hk,hH⟩:=hk
  subst hk hH
  refine⟨(it F σ _ _ τ θ R2.drop 0).2 (by rw[List.isEmpty_iff.mp (gd_ok e2)];rfl),?_⟩
  exact E.nx _ _ _ (Rel.store (Rel.drops (Rel.tor R2 el) el) n (gd_ok hi) hw) q⟩
theorem zV(hw:¬ W i):PDx X i st (aD C ma)->PDs X W st (gB C (.set i ma))
 | ⟨_,h,s⟩=>⟨_,h,fun b F σ H ρ τ θ Dd D hK n R ⟨y,h,q⟩ E=>by
  obtain⟨z,e1,h⟩:=bnd h
  obtain⟨o,e2,h⟩:=bnd h
  obtain⟨_,hi,h⟩:=bnd h
  cases h
  refine s b F σ H ρ τ θ (fun r ρ'=>r=z.1/\ρ'=z.2) _ hK R ⟨z,e1,rfl,rfl⟩ fun v H' r ρ' R' hZ=>?_
  obtain⟨h1,h2⟩:=hZ
  subst h1 h2
  exact E.nx _ H' _ ((R'.own1 e2).store n (gd_ok hi) hw) q⟩
end
theorem Wd.closeAt(w:Wd b H ([u].zip [y]++((v,x)::L)))(e:x.at ks=some (.hole u)):Wd b H ((v,OD.put y ks x)::L):=by
 obtain⟨S,uh,B,C,ch,hy,hz,nd,hS,al,nt,fi,go⟩:=Wd.mutC w rfl e
 cases hy with
 | hole eu =>
  subst eu
  exact go (fun _ _=>rfl) (fun c hc=>by cases hc) (by simpa using nd) (fun c hc=>.inr hc) fun S' hS' _=>Ow.sub nt hS' hz.one
theorem Wd.hole(w:Wd b H L):Wd b H ((u,.hole u)::L):=by
 obtain⟨A,h0,nd,new⟩:=w.out
 exact⟨⟨A,Ows.cons (.hole rfl) h0,nd,new⟩,w.fr,w.s0,w.nt⟩
theorem Rel.fill(R:Rel b F σ H ρ (u::τ) (.rf j::θ))(h:sj i ks j u ρ ρ'):Rel b F σ H ρ' τ θ:=by
 obtain⟨x,y,f1,f2,f3,f4,f5⟩:=h
 subst f5
 obtain⟨u',ev,R1⟩:=R.drop.moved f3
 have e1:σ[j]?=some (some u):=R.al.1
 rw[e1]at ev
 cases ev
 obtain⟨v,ev,w⟩:=Rel.open (us:=[u]) (zs:=[y]) R1 rfl (by rw[aaX f4];exact f1)
 exact Rel.close (Rel.rest (us:=[u]) (zs:=[y]) R1 rfl) ev (w.closeAt f2)
section
variable{X:Cx}{W:Nat->Prop}{C:Ct}{e:Expr}{pos pos' apos cpos:Pos}{x:Str}{i j:Nat}{ps:List Acc}{sts:List Stmt}{mss:Ss}
theorem zW (hb:attributeBase e "append" X.env (eval e X.env)=eval e X.env) (hline:(apos.endLine == cpos.line)=true) (hN:X.N[j]?=some x) (hv:Vis X.env.scope x) (hd:(x == ("__debug__":Str))=false) (hcd:(x == ("__classdict__":Str))=false) :
  PDp X e i ps->PDss X (fun k=>W k\/k=j) sts (jF C mss)->PDss X W (.Expr (.Call (.Attribute e "append" apos) [.Name x pos'] [] cpos) pos::sts) (jF C (.ali i ps j mss))
 | ⟨_,h0,s0⟩,⟨_,h2,s2⟩=>⟨_,j9 (gz (qP abV abW abX dM h0 (be (bG hN hv hd hcd) cJ (aA rfl)) hb (zF rfl) hline (aA rfl) (bi rfl)) rfl) h2,fun b F σ H ρ τ θ Dd D hK n R ⟨z,h,q⟩ E=>by
  obtain⟨r,e1,h⟩:=bnd h
  obtain⟨xs,ex,hz,hji,⟨o,eo⟩,ha⟩:=kI h
  obtain⟨g1,g2⟩:=path_at e1
  refine s0 b F σ H ρ τ θ _ r hK R e1 fun v u ev ch=>?_
  rw[ex]at g2 ch
  obtain⟨l0,vs0,rfl,hH0⟩:=R.cell g1 g2 ev ch
  refine⟨.inl ⟨rfl,vs0,SqL.of hH0⟩,?_⟩
  obtain⟨v1,ev1⟩:=R.wf.get (join_some eo)
  obtain⟨vs,hH,hl,R1⟩:=Rel.addAt (Rel.push R R.wd.hole) g1 g2 ev ch hz
  refine⟨v1,ev1,l0,vs,v1,rfl,rfl,hH,hl,?_⟩
  obtain⟨ρ2,e2,hc⟩:=ha v1
  obtain⟨fl,ρ3⟩:=z
  refine s2 b F σ _ _ (v1::τ) (.rf j::θ) ⟨fun ρ'=>fl=.nx/\ρ'=ρ2,fun o ρ'=>fl=.rt o/\ρ'=ρ2,fun ρ'=>fl=.bk/\ρ'=ρ2,fun ρ'=>fl=.ct/\ρ'=ρ2⟩ _ hK (fun r hr=>?_) ⟨R1.wf,⟨ev1,R1.al⟩,R1.wff,R1.wd⟩ ⟨(fl,ρ2),e2,by cases fl<;>exact⟨rfl,rfl⟩⟩ ⟨fun σ' H' ρ' R' ⟨h1,h2⟩=>?_,fun σ' H' ρ' R' ⟨h1,h2⟩=>?_,fun σ' H' ρ' R' ⟨h1,h2⟩=>?_,fun σ' H' ρ' v o R' ⟨h1,h2⟩=>?_⟩
  ·rcases aac.mp hr with rfl | hr
   ·exact .inr ⟨j,.inr rfl,rfl⟩
   ·exact (n r hr).imp id fun ⟨k,wk,ek⟩=>⟨k,.inl wk,ek⟩
  ·subst h1 h2;exact E.nx σ' H' _ (R'.fill hc) q
  ·subst h1 h2;exact E.bk σ' H' _ (R'.fill hc) q
  ·subst h1 h2;exact E.ct σ' H' _ (R'.fill hc) q
  ·subst h1 h2
   exact E.rt σ' H' _ v o (Rel.fill (Rel.rot (vs:=[v]) (rs:=[.val o]) R' rfl) hc) q⟩
end
end
section
section
variable(t:Tb)
mutual
def sY:E->Ck
 | .nm i=>fun N sc e=>xo N sc i e
 | .int k=>fun N sc e=>(kQ e).any fun j=>decide (j=k)
 | .ix a b=>fun N sc e=>(en e).any fun z=>!bw z.2 && sY a N sc z.1 && sY b N sc z.2
 | .tup es=>fun N sc e=>(bW e).any fun xs=>sZ es N sc xs
 | .pg i ps=>fun N sc e=>cx t N sc i ps e
 | _=>fun _ _ _=>false
def sZ:Es->List Str->Scope->List Expr->Bool
 | .nil=>fun N sc xs=>xs.isEmpty
 | .cons a es=>fun N sc xs=>(kS xs).any fun z=>!isStar z.1 && sY a N sc z.1 && sZ es N sc z.2
end
end
section
variable{t:Tb}{C:Ct}
mutual
theorem Dr:∀(m:E) X e,Cy t C X->sY t m X.N X.env.scope e=true->PDq X e (jC C m)
 | .nm i,X,e,c,h=>by
  obtain⟨x,p,rfl,h⟩:=hU h
  obtain⟨h1,h2,h3,h4⟩:=bY h
  exact EO h1 h2 h3 h4
 | .int k,X,e,c,h=>by
  obtain⟨j,h1,h⟩:=anyT h
  obtain⟨_,_,rfl⟩:=asInt_ok h1
  have:=of_decide_eq_true h
  subst this
  exact Cu
 | .ix a b,X,e,c,h=>by
  obtain⟨q,h1,h⟩:=anyT h
  obtain⟨_,rfl⟩:=bX h1
  obtain⟨a1,a2,a3⟩:=an3 h
  exact ER (jD (bq a1)) (Dr a X _ c a2) (Dr b X _ c a3)
 | .tup es,X,e,c,h=>by
  obtain⟨q,h1,h⟩:=anyT h
  obtain⟨_,_,rfl⟩:=asTup_ok h1
  exact Cv (CN es X _ c h)
 | .pg i ps,X,e,c,h=>EQ (aT c ps _ h)
 | .str _,X,e,c,h | .bl _,X,e,c,h | .gc _,X,e,c,h | .bop _ _ _,X,e,c,h | .cat _ _,X,e,c,h | .cmp _ _ _,X,e,c,h | .cmp2 _ _ _ _ _,X,e,c,h | .isn _ _,X,e,c,h | .and _ _,X,e,c,h | .or _ _,X,e,c,h | .not _,X,e,c,h | .neg _,X,e,c,h | .ife _ _ _,X,e,c,h | .lst _,X,e,c,h | .sll _ _ _,X,e,c,h | .call _ _,X,e,c,h | .callS _ _,X,e,c,h | .blt _ _,X,e,c,h | .bnw _ _,X,e,c,h | .isi _ _,X,e,c,h | .dnew,X,e,c,h | .pf _ _,X,e,c,h | .pl _ _,X,e,c,h | .pt _ _,X,e,c,h | .pin _ _ _ _,X,e,c,h | .din _ _ _ _,X,e,c,h | .comp _ _ _ _ _ _,X,e,c,h | .compB _ _ _ _ _ _,X,e,c,h | .meth _ _ _ _ _,X,e,c,h | .make _ _ _,X,e,c,h=>absurd h aae
theorem CN:∀(m:Es) X xs,Cy t C X->sZ t m X.N X.env.scope xs=true->PDqs X xs (l5 C m)
 | .nil,X,xs,c,h=>by
  cases xs with
  | nil=>exact zD
  | cons _ _=>cases h
 | .cons a es,X,xs,c,h=>by
  obtain⟨z,h1,h⟩:=anyT h
  have:=con1_ok h1
  subst this
  obtain⟨a1,a2,a3⟩:=an3 h
  exact vM (bq a1) (Dr a X _ c a2) (CN es X _ c a3)
end
end
def tf(e:PySem.Stmt):Option (Expr):=if h:e.ctorIdx=24 then some (@PySem.Stmt.Expr.elim (fun _=>Expr) e h fun x _=>x) else none
theorem nZ{e:PySem.Stmt}{z:Expr}(h:tf e=some z):∃p,e=.Expr z p:=by
 by_cases hc:e.ctorIdx=24
 ·revert h
  exact @PySem.Stmt.Expr.elim (fun e=>tf e=some z->∃p,e=.Expr z p) e hc fun x p h=>by cases h;exact⟨p,rfl⟩
 ·rw[tf,dif_neg hc]at h;cases h
def v6(e:PySem.Stmt):Option (List Expr × Expr):=if h:e.ctorIdx=5 then some (@PySem.Stmt.Assign.elim (fun _=>List Expr × Expr) e h fun ts x _=>(ts,x)) else none
theorem asAs_ok{e:PySem.Stmt}{z:List Expr × Expr}(h:v6 e=some z):∃p,e=.Assign z.1 z.2 p:=by
 by_cases hc:e.ctorIdx=5
 ·revert h
  exact @PySem.Stmt.Assign.elim (fun e=>v6 e=some z->∃p,e=.Assign z.1 z.2 p) e hc fun ts x p h=>by cases h;exact⟨p,rfl⟩
 ·rw[v6,dif_neg hc]at h;cases h
def tj(e:PySem.Stmt):Option (Expr × Operator × Expr):=if h:e.ctorIdx=7 then some (@PySem.Stmt.AugAssign.elim (fun _=>Expr × Operator × Expr) e h fun t o x _=>(t,o,x)) else none
theorem asAu_ok{e:PySem.Stmt}{z:Expr × Operator × Expr}(h:tj e=some z):∃p,e=.AugAssign z.1 z.2.1 z.2.2 p:=by
 by_cases hc:e.ctorIdx=7
 ·revert h
  exact @PySem.Stmt.AugAssign.elim (fun e=>tj e=some z->∃p,e=.AugAssign z.1 z.2.1 z.2.2 p) e hc fun t o x p h=>by cases h;exact⟨p,rfl⟩
 ·rw[tj,dif_neg hc]at h;cases h
def v7(e:PySem.Stmt):Option (Option Expr):=if h:e.ctorIdx=3 then some (@PySem.Stmt.Return.elim (fun _=>Option Expr) e h fun o _=>o) else none
theorem v8{e:PySem.Stmt}{z:Option Expr}(h:v7 e=some z):∃p,e=.Return z p:=by
 by_cases hc:e.ctorIdx=3
 ·revert h
  exact @PySem.Stmt.Return.elim (fun e=>v7 e=some z->∃p,e=.Return z p) e hc fun o p h=>by cases h;exact⟨p,rfl⟩
 ·rw[v7,dif_neg hc]at h;cases h
def v9(e:PySem.Stmt):Option (Expr × List Stmt × List Stmt):=if h:e.ctorIdx=12 then some (@PySem.Stmt.If.elim (fun _=>Expr × List Stmt × List Stmt) e h fun c a b _=>(c,a,b)) else none
theorem wa{e:PySem.Stmt}{z:Expr × List Stmt × List Stmt}(h:v9 e=some z):∃p,e=.If z.1 z.2.1 z.2.2 p:=by
 by_cases hc:e.ctorIdx=12
 ·revert h
  exact @PySem.Stmt.If.elim (fun e=>v9 e=some z->∃p,e=.If z.1 z.2.1 z.2.2 p) e hc fun c a b p h=>by cases h;exact⟨p,rfl⟩
 ·rw[v9,dif_neg hc]at h;cases h
def wb(e:PySem.Stmt):Option (Expr × Expr × List Stmt × List Stmt):=if h:e.ctorIdx=9 then some (@PySem.Stmt.For.elim (fun _=>Expr × Expr × List Stmt × List Stmt) e h fun g i a b _=>(g,i,a,b)) else none
theorem wc{e:PySem.Stmt}{z:Expr × Expr × List Stmt × List Stmt}(h:wb e=some z):∃p,e=.For z.1 z.2.1 z.2.2.1 z.2.2.2 p:=by
 by_cases hc:e.ctorIdx=9
 ·revert h
  exact @PySem.Stmt.For.elim (fun e=>wb e=some z->∃p,e=.For z.1 z.2.1 z.2.2.1 z.2.2.2 p) e hc fun g i a b p h=>by cases h;exact⟨p,rfl⟩
 ·rw[wb,dif_neg hc]at h;cases h
def CO(s:Stmt):Bool:=decide (s.ctorIdx=27)
theorem we{s:Stmt}(h:CO s=true):∃p,s=.Continue p:=@Stmt.Continue.elim (fun s=>∃p,s=.Continue p) s (of_decide_eq_true h) fun p=>⟨p,rfl⟩
def kU(s:Stmt):Option (Expr × Expr):=(v6 s).bind fun z=>(eJ z.1).bind fun t=>some (t,z.2)
theorem asg1_ok{s:Stmt}{z}(h:kU s=some z):∃p,s=.Assign [z.1] z.2 p:=by
 obtain⟨c,h1,h⟩:=bnd h
 obtain⟨t,h2,h⟩:=bnd h
 cases h
 obtain⟨ts,e⟩:=c
 obtain⟨p,rfl⟩:=asAs_ok h1
 have:=one1_ok h2
 simp only at this
 subst this
 exact⟨p,rfl⟩
def n5(s:Stmt):Option (Expr × Expr × Pos × Pos):=(tf s).bind fun e=>(fS e).bind fun z=>(gf z.1).bind fun a=>(eJ z.2.1).bind fun x=>if z.2.2.1.isEmpty && sEq a.2.1 "append" then some (a.1,x,a.2.2,z.2.2.2) else none
theorem ii{s:Stmt}{z}(h:n5 s=some z):∃p,s=.Expr (.Call (.Attribute z.1 "append" z.2.2.1) [z.2.1] [] z.2.2.2) p:=by
 obtain⟨e,h1,h⟩:=bnd h
 obtain⟨c,h2,h⟩:=bnd h
 obtain⟨a,h3,h⟩:=bnd h
 obtain⟨x,h4,h⟩:=bnd h
 obtain⟨f,xs,ks,q⟩:=c
 obtain⟨o,m,ap⟩:=a
 cases hc:(ks.isEmpty && sEq m "append") with
 | false=>simp only[hc]at h;cases h
 | true =>
  simp only[hc]at h
  cases h
  have e3:=asAtt_ok h3
  have e4:=one1_ok h4
  have e5:=bI (an2 hc).2
  cases ks with
  | cons _ _=>cases hc
  | nil =>
   simp only at e3 e4
   subst e5
   subst e4
   subst e3
   obtain⟨p,rfl⟩:=nZ h1
   exact⟨p,by rw[fT h2]⟩
def cmpE:E->Bool
 | .comp _ _ _ _ _ _=>true | _=>false
def setB(t:Tb)(ok:Nat->Bool)(N:List Str)(sc:Scope)(i:Nat)(m:E)(x:Str)(p:Pos)(e:Expr):Bool:=kT ok N sc true N.length i x && (aP t m).1 N sc e && match l7 e with
 | some z=>!swC sc x p z.2.2.2 z.2.2.1 || cmpE m
 | none=>!eM e
def tm(e:PySem.Expr):Option (Str × Pos):=if h:e.ctorIdx=23 then some (@PySem.Expr.Name.elim (fun _=>Str × Pos) e h fun x p=>(x,p)) else none
theorem n6{e:PySem.Expr}{z:Str × Pos}(h:tm e=some z):e=.Name z.1 z.2:=by
 by_cases hc:e.ctorIdx=23
 ·revert h
  exact @PySem.Expr.Name.elim (fun e=>tm e=some z->e=.Name z.1 z.2) e hc fun x p h=>by cases h;exact rfl
 ·rw[tm,dif_neg hc]at h;cases h
section
variable(t:Tb)
mutual
def CP(ok:Nat->Bool):S'->List Str->Scope->Stmt->Bool
 | .ex m=>fun N sc s=>(tf s).any fun e=>!eM e && (aP t m).1 N sc e
 | .set i m=>fun N sc s=>(kU s).any fun z=>(tm z.1).any fun x=>setB t ok N sc i m x.1 x.2 z.2
 | .asg g m=>fun N sc s=>(kU s).any fun z=>isTup z.1 && xu z.1 z.2 sc && (aP t m).1 N sc z.2 && sN ok N sc true N.length g z.1
 | .par is ms=>fun N sc s=>(kU s).any fun z=>(bW z.1).any fun ts=>(bW z.2).any fun vs=>fe t ms N sc vs && decide (Dq ts vs sc=some (some (qb ts sc))) && (match is with
  | [i,j]=>(gX ts).any fun w=>(gX vs).any fun _=>(bH w.1).any fun x=>(bH w.2).any fun y=>decide (qb ts sc=[x,y]) && decide (i≠j) && (decide (N[i]?=some x) && decide (N[j]?=some y)) && (kindB sc x .local && kindB sc y .local) && (ok i && ok j)
  | [i,j,k]=>(vD ts).any fun w=>(vD vs).any fun _=>(bH w.1).any fun x=>(bH w.2.1).any fun y=>(bH w.2.2).any fun z=>decide (qb ts sc=[x,y,z]) && (decide (i≠j) && decide (i≠k) && decide (j≠k)) && (decide (N[i]?=some x) && decide (N[j]?=some y) && decide (N[k]?=some z)) && (kindB sc x .local && kindB sc y .local && kindB sc z .local) && (ok i && ok j && ok k)
  | _=>false)
 | .aug i o m=>fun N sc s=>(tj s).any fun z=>(bH z.1).any fun x=>Dn o z.2.1 && kT ok N sc true N.length i x && (aP t m).1 N sc z.2.2
 | .ret m=>fun N sc s=>(v7 s).any fun o=>o.any fun e=>(aP t m).1 N sc e
 | .iff c a b=>fun N sc s=>(v9 s).any fun z=>(aP t c).2 N sc z.1 && ij ok a N sc z.2.1 && ij ok b N sc z.2.2
 | .fr g it b=>fun N sc s=>(wb s).any fun z=>!gg z.2.1 && v4 t it N sc z.1 z.2.1 && sN ok N sc true N.length g z.1 && ij ok b N sc z.2.2.1 && z.2.2.2.isEmpty
 | .cont=>fun N sc s=>CO s
 | .app i m=>fun N sc s=>(n5 s).any fun z=>(bH z.1).any fun x=>uo N sc i x && (z.2.2.1.endLine == z.2.2.2.line) && !isStar z.2.1 && (aP t m).1 N sc z.2.1
 | .apd i ps m=>fun N sc s=>(n5 s).any fun z=>!isCall z.1 && (z.2.2.1.endLine == z.2.2.2.line) && !isStar z.2.1 && cx t N sc i ps z.1 && sY t m N sc z.2.1
 | .sti i k m=>fun N sc s=>(kU s).any fun z=>(en z.1).any fun w=>(bH w.1).any fun x=>uo N sc i x && !bw w.2 && !eM z.2 && (aP t m).1 N sc z.2 && (aP t k).1 N sc w.2
 | .std i ps j m=>fun N sc s=>(kU s).any fun z=>(en z.1).any fun w=>!eM z.2 && cx t N sc i ps w.1 && xo N sc j w.2 && (aP t m).1 N sc z.2
 | .sdz i nt fr it=>fun N sc s=>(kU s).any fun z=>(tm z.1).any fun x=>(xq z.2).any fun w=>kT ok N sc true N.length i x.1 && compB (zK w.2.2.1++fr.filterMap fun j=>N[j]?) nt fr N w.2.2.2.2.2.1 sc && !gg w.2.2.2.1 && v4 t it N sc w.2.2.1 w.2.2.2.1 && swC sc x.1 x.2 w.2.2.2.2.2.2 w.2.2.2.2.2.1
 | .stf i c f m=>fun N sc s=>(kU s).any fun z=>(gf z.1).any fun w=>(bH w.1).any fun x=>sEq w.2.1 f && uo N sc i x && t.fld c f && !eM z.2 && (aP t m).1 N sc z.2
 | .agf i c f o m=>fun N sc s=>(tj s).any fun z=>(gf z.1).any fun w=>(bH w.1).any fun x=>sEq w.2.1 f && Dn o z.2.1 && uo N sc i x && t.fld c f && (aP t m).1 N sc z.2.2
def ij(ok:Nat->Bool):Ss->List Str->Scope->List Stmt->Bool
 | .nil=>fun N sc s=>s.isEmpty
 | .cons m ms=>fun N sc s=>(kS s).any fun z=>CP ok m N sc z.1 && ij ok ms N sc z.2
 | .ali i ps j ms=>fun N sc s=>(kS s).any fun y=>(n5 y.1).any fun z=>(bH z.2.1).any fun x=>!isCall z.1 && (z.2.2.1.endLine == z.2.2.2.line) && cx t N sc i ps z.1 && uo N sc j x && ij (fun k=>ok k && !decide (k=j)) ms N sc y.2
end
end
structure Cs (t:Tb)(C:Ct)(W:Nat->Prop)(ok:Nat->Bool)(X:Cx):Prop where
 c:Cy t C X
 nd:X.N.Nodup
 fn:∀x,X.fn x=true
 pass:PassesOwn (model X.prog X.w) X.A X.env X.xe
 hw:∀i,ok i=true->¬ W i
section
variable{t:Tb}{C:Ct}
theorem CQ{e o i:Expr}{p:Pos}{env:Env}:swappedStores [.Subscript o i p] e env=pure none:=by cases e<;>rfl
theorem n8{X:Cx}{is:List Nat}{ms:Es}{st:Stmt}{W:Nat->Prop}(h:PDs X W st (y9 is (eK C ms))):PDs X W st (gB C (.par is ms)):=h.imp fun D ρ ⟨y,h,q⟩=>by
 obtain⟨z,e1,h⟩:=bnd h
 obtain⟨o,e2,h⟩:=bnd h
 obtain⟨_,hz,h⟩:=bnd h
 have hz:=gd_ok hz
 cases h
 exact⟨z,e1,o.1,o.2,e2,hz.1,hz.2,q⟩
theorem zX{X:Cx}{W:Nat->Prop}{ok:Nat->Bool}(c:Cs t C W ok X){i:Nat}{x:Str}{p pos:Pos}{e:Expr}{z}(he:l7 e=some z)(s:Sto X W X.N.length i x)(hsw:swC X.env.scope x p z.2.2.2 z.2.2.1=true){nt:Nat}{fr:List Nat}{it:It'}{tg:Tg}{ifs:Eo}{el:E}
  (h:(aP t (.comp nt fr it tg ifs el)).1 X.N X.env.scope e=true):PDx X i (.Assign [.Name x p] e pos) (aD C (.comp nt fr it tg ifs el)):=by
 have hl:X.env.scope.names.lookup x=some .local:=by
  unfold swC at hsw
  have:=(an4 hsw).2.1
  simpa using this
 obtain⟨w,h1,h⟩:=anyT h
 have e1:=ib h1
 subst e1
 cases he
 obtain⟨a1,a2,a3,a4,a5⟩:=an5 h
 obtain⟨b1,b2,b3⟩:=an3 a5
 exact zU c.nd s.hN hl c.c.calm (fc a1) (jI (bq a3)) (Dp it X _ _ c.c a4) (fun q=>fb (X:=eG X _ w.2.2.2.2.1 q) (fn:=false) c.c.calm (of_decide_eq_true a2) (fun z=>by cases z) (fun _ _ z=>z) b1) (fun q=>EZ ifs (eG X _ w.2.2.2.2.1 q) _ _ c.c.comp (ba el) b2 b3) (by rw[sX,hsw])
theorem wg{X:Cx}{W:Nat->Prop}{ok:Nat->Bool}(c:Cs t C W ok X){i:Nat}{m:E}{x:Str}{p pos:Pos}{e:Expr}(h:setB t ok X.N X.env.scope i m x p e=true):PDs X W (.Assign [.Name x p] e pos) (gB C (.set i m)):=by
 obtain⟨h1,h2,h3⟩:=an3 h
 have s:=dR (W:=W) (fun _=>c.fn) c.hw h1
 cases he:l7 e with
 | none =>
  rw[he]at h3
  exact xk c.nd s (g8 (bq h3)) ((ba m).v X _ c.c h2)
 | some z =>
  rw[he]at h3
  cases hsw:swC X.env.scope x p z.2.2.2 z.2.2.1 with
  | false =>
   have e1:=nO he
   exact xk c.nd s (by rw[e1,sX,hsw]) ((ba m).v X _ c.c h2)
  | true =>
   have h3:(!swC X.env.scope x p z.2.2.2 z.2.2.1 || cmpE m)=true:=h3
   rw[hsw]at h3
   have h3:cmpE m=true:=h3
   cases m with
   | comp nt fr it tg ifs el=>exact zV s.nw (zX c he s hsw h2)
   | _=>cases h3
mutual
theorem FS{W:Nat->Prop}{ok:Nat->Bool}:∀(m:S') X s,Cs t C W ok X->CP t ok m X.N X.env.scope s=true->PDs X W s (gB C m)
 | .ex m,X,s,c,h=>by
  obtain⟨e,h1,k'⟩:=anyT h
  obtain⟨p,rfl⟩:=nZ h1
  exact ED (bq (an2 k').1) ((ba m).v X _ c.c (an2 k').2)
 | .set i m,X,s,c,h=>by
  obtain⟨z,h1,k'⟩:=anyT h
  obtain⟨x,h2,k'⟩:=anyT k'
  obtain⟨p,rfl⟩:=asg1_ok h1
  rw[n6 h2]
  exact wg c k'
 | .asg g m,X,s,c,h=>by
  obtain⟨z,h1,k'⟩:=anyT h
  obtain⟨p,rfl⟩:=asg1_ok h1
  obtain⟨a1,a3,a4,a5⟩:=an4 k'
  refine Cc ?_ (sW a3) ?_ ((ba m).v X _ c.c a4) (fb c.c.calm c.nd (fun _=>c.fn) c.hw a5)
  ·obtain⟨_,_,_,e⟩:=eZ a1
   rw[e]
   cases z.2<;>rfl
  obtain⟨_,_,_,e⟩:=eZ a1
  rw[e];rfl
 | .par is ms,X,s,c,h=>by
  obtain⟨z,h1,k'⟩:=anyT h
  obtain⟨ts,h2,k'⟩:=anyT k'
  obtain⟨vs,h3,k'⟩:=anyT k'
  obtain⟨p,rfl⟩:=asg1_ok h1
  obtain⟨z1,z2⟩:=z
  obtain⟨k1,p1,e1⟩:=asTup_ok h2
  obtain⟨k2,p2,e2⟩:=asTup_ok h3
  simp only at e1 e2
  subst e1 e2
  obtain⟨a1,a2,k'⟩:=an3 k'
  have hsw:=of_decide_eq_true a2
  match is,k' with
  | [i,j],k' =>
   obtain⟨w,b1,k'⟩:=anyT k'
   obtain⟨u,b2,k'⟩:=anyT k'
   obtain⟨x,b3,k'⟩:=anyT k'
   obtain⟨y,b4,k'⟩:=anyT k'
   have e3:=two2_ok b1
   have e4:=two2_ok b2
   obtain⟨w1,w2⟩:=w
   obtain⟨q1,e5⟩:=asNm_ok b3
   obtain⟨q2,e6⟩:=asNm_ok b4
   simp only at e3 e4 e5 e6
   subst e5 e6
   subst e3 e4
   obtain⟨c1,c2,c3,c4,c5⟩:=an5 k'
   rw[of_decide_eq_true c1]at hsw
   refine n8 (vo (fun k hk=>?_) c.c.calm c.nd (of_decide_eq_true (an2 c3).1) (of_decide_eq_true (an2 c3).2) (of_decide_eq_true c2) (aE (an2 c4).1) (aE (an2 c4).2) (mj hsw) rfl (uq ms X _ c.c a1))
   rcases aac.mp hk with rfl | hk
   ·exact c.hw _ (an2 c5).1
   ·rw[aat.mp hk];exact c.hw _ (an2 c5).2
  | [i,j,k],k' =>
   obtain⟨w,b1,k'⟩:=anyT k'
   obtain⟨u,b2,k'⟩:=anyT k'
   obtain⟨x,b3,k'⟩:=anyT k'
   obtain⟨y,b4,k'⟩:=anyT k'
   obtain⟨z,b5,k'⟩:=anyT k'
   have e3:=thr3_ok b1
   have e4:=thr3_ok b2
   obtain⟨w1,w2,w3⟩:=w
   obtain⟨q1,e5⟩:=asNm_ok b3
   obtain⟨q2,e6⟩:=asNm_ok b4
   obtain⟨q3,e7⟩:=asNm_ok b5
   simp only at e3 e4 e5 e6 e7
   subst e5 e6 e7
   subst e3 e4
   obtain⟨c1,c2,c3,c4,c5⟩:=an5 k'
   obtain⟨d1,d2,d3⟩:=an3 c2
   obtain⟨d4,d5,d6⟩:=an3 c3
   obtain⟨d7,d8,d9⟩:=an3 c4
   obtain⟨f1,f2,f3⟩:=an3 c5
   rw[of_decide_eq_true c1]at hsw
   refine n8 (rN (fun k hk=>?_) c.c.calm c.nd (of_decide_eq_true d4) (of_decide_eq_true d5) (of_decide_eq_true d6) (of_decide_eq_true d1) (of_decide_eq_true d2) (of_decide_eq_true d3) (aE d7) (aE d8) (aE d9) (mj hsw) rfl (uq ms X _ c.c a1))
   rcases aac.mp hk with rfl | hk
   ·exact c.hw _ f1
   ·rcases aac.mp hk with rfl | hk
    ·exact c.hw _ f2
    ·rw[aat.mp hk];exact c.hw _ f3
  | [],k'=>exact absurd k' aae
  | [_],k'=>exact absurd k' aae
  | _::_::_::_::_,k'=>exact absurd k' aae
 | .aug i o m,X,s,c,h=>by
  obtain⟨z,h1,k'⟩:=anyT h
  obtain⟨x,h2,k'⟩:=anyT k'
  obtain⟨p,rfl⟩:=asAu_ok h1
  obtain⟨q,e⟩:=asNm_ok h2
  obtain⟨a1,a2,a3⟩:=an3 k'
  rw[e,l8 a1]
  exact Ce c.nd (dR (fun _=>c.fn) c.hw a2) ((ba m).v X _ c.c a3)
 | .ret m,X,s,c,h=>by
  obtain⟨o,h1,k'⟩:=anyT h
  obtain⟨e,h2,k'⟩:=anyT k'
  obtain⟨p,rfl⟩:=v8 h1
  subst h2
  exact Cb ((ba m).v X _ c.c k')
 | .iff z a b,X,s,c,h=>by
  obtain⟨q,h1,k'⟩:=anyT h
  obtain⟨p,rfl⟩:=wa h1
  obtain⟨a1,a2,a3⟩:=an3 k'
  exact EE ((ba z).t X _ c.c a1) (qc a X _ c a2) (qc b X _ c a3)
 | .fr g it b,X,s,c,h=>by
  obtain⟨q,h1,k'⟩:=anyT h
  obtain⟨p,rfl⟩:=wc h1
  obtain⟨a1,a2,a3,a4,a5⟩:=an5 k'
  obtain⟨q1,q2,q3,q4⟩:=q
  cases q4 with
  | nil=>exact Cd c.pass c.c.calm (jI (bq a1)) (Dp it X _ _ c.c a2) (fb c.c.calm c.nd (fun _=>c.fn) c.hw a3) (qc b X _ c a4)
  | cons _ _=>cases a5
 | .cont,X,s,c,h=>by
  obtain⟨p,rfl⟩:=we h
  exact zB
 | .app i m,X,s,c,h=>by
  obtain⟨z,h1,k'⟩:=anyT h
  obtain⟨x,h2,k'⟩:=anyT k'
  obtain⟨p,rfl⟩:=ii h1
  obtain⟨q,e⟩:=asNm_ok h2
  obtain⟨a1,a2,a3,a4⟩:=an4 k'
  obtain⟨n1,n2,n3,n4⟩:=bY a1
  rw[e]
  exact Cw n1 n2 n3 n4 a2 (bq a3) ((ba m).v X _ c.c a4)
 | .apd i ps m,X,s,c,h=>by
  obtain⟨z,h1,k'⟩:=anyT h
  obtain⟨p,rfl⟩:=ii h1
  obtain⟨a1,a2,a3,a4,a5⟩:=an5 k'
  exact Cz (jJ (bq a1)) a2 (bq a3) (aT c.c ps _ a4) (Dr m X _ c.c a5)
 | .sti i k m,X,s,c,h=>by
  obtain⟨z,h1,k'⟩:=anyT h
  obtain⟨w,h2,k'⟩:=anyT k'
  obtain⟨x,h3,k'⟩:=anyT k'
  obtain⟨p,rfl⟩:=asg1_ok h1
  obtain⟨q,e⟩:=bX h2
  obtain⟨q',e'⟩:=asNm_ok h3
  obtain⟨a1,a2,a3,a4,a5⟩:=an5 k'
  obtain⟨n1,n2,n3,n4⟩:=bY a1
  rw[e,e']
  exact CA n1 n2 n3 n4 (bq a2) (g8 (bq a3)) CQ ((ba m).v X _ c.c a4) ((ba k).v X _ c.c a5)
 | .std i ps j m,X,s,c,h=>by
  obtain⟨z,h1,k'⟩:=anyT h
  obtain⟨w,h2,k'⟩:=anyT k'
  obtain⟨p,rfl⟩:=asg1_ok h1
  obtain⟨q,e⟩:=bX h2
  obtain⟨a1,a2,a3,a4⟩:=an4 k'
  rw[e]
  exact CB (by have:=c.c.units;omega) (g8 (bq a1)) (aT c.c ps _ a2) (sM a3).1 ((ba m).v X _ c.c a4)
 | .sdz i nt fr it,X,s,c,h=>by
  obtain⟨z,h1,k'⟩:=anyT h
  obtain⟨x,h2,k'⟩:=anyT k'
  obtain⟨w,h3,k'⟩:=anyT k'
  obtain⟨p,rfl⟩:=asg1_ok h1
  obtain⟨a1,a2,a3,a4,a5⟩:=an5 k'
  have s:=dR (W:=W) (fun _=>c.fn) c.hw a1
  have hl:X.env.scope.names.lookup x.1=some .local:=by
   unfold swC at a5
   have:=(an4 a5).2.1
   simpa using this
  rw[n6 h2,sR h3]
  exact CM s.nw c.nd s.hN hl c.c.calm (fc a2) (jI (bq a3)) (by show pure (swC X.env.scope x.1 x.2 w.2.2.2.2.2.2 w.2.2.2.2.2.1)=_;rw[a5]) (Dp it X _ _ c.c a4)
 | .stf i cn f m,X,s,c,h=>by
  obtain⟨z,h1,k'⟩:=anyT h
  obtain⟨w,h2,k'⟩:=anyT k'
  obtain⟨x,h3,k'⟩:=anyT k'
  obtain⟨p,rfl⟩:=asg1_ok h1
  have e:=asAtt_ok h2
  obtain⟨q',e'⟩:=asNm_ok h3
  obtain⟨a1,a2,a3,a4,a5⟩:=an5 k'
  obtain⟨n1,n2,n3,n4⟩:=bY a2
  rw[e,e',bI a1]
  exact CD n1 n2 n3 n4 (c.c.hfl _ _ a3).1 (c.c.hfl _ _ a3).2 (g8 (bq a4)) ((ba m).v X _ c.c a5)
 | .agf i cn f o m,X,s,c,h=>by
  obtain⟨z,h1,k'⟩:=anyT h
  obtain⟨w,h2,k'⟩:=anyT k'
  obtain⟨x,h3,k'⟩:=anyT k'
  obtain⟨p,rfl⟩:=asAu_ok h1
  have e:=asAtt_ok h2
  obtain⟨q',e'⟩:=asNm_ok h3
  obtain⟨a1,a2,a3,a4,a5⟩:=an5 k'
  obtain⟨n1,n2,n3,n4⟩:=bY a3
  rw[e,e',bI a1,l8 a2]
  exact CF n1 n2 n3 n4 (c.c.hfl _ _ a4).1 (c.c.hfl _ _ a4).2 ((ba m).v X _ c.c a5)
theorem qc{W:Nat->Prop}{ok:Nat->Bool}:∀(m:Ss) X s,Cs t C W ok X->ij t ok m X.N X.env.scope s=true->PDss X W s (jF C m)
 | .nil,X,s,c,h=>by
  cases s with
  | nil=>exact zA
  | cons _ _=>cases h
 | .cons m ms,X,s,c,h=>by
  obtain⟨z,h1,k'⟩:=anyT h
  have:=con1_ok h1
  subst this
  exact vL (FS m X _ c (an2 k').1) (qc ms X _ c (an2 k').2)
 | .ali i ps j ms,X,s,c,h=>by
  obtain⟨y,h0,k'⟩:=anyT h
  obtain⟨z,h1,k'⟩:=anyT k'
  obtain⟨x,h2,k'⟩:=anyT k'
  have:=con1_ok h0
  subst this
  obtain⟨p,e1⟩:=ii h1
  obtain⟨q,e⟩:=asNm_ok h2
  obtain⟨a1,a2,a3,a4,a5⟩:=an5 k'
  obtain⟨n1,n2,n3,n4⟩:=bY a4
  rw[e1,e]
  exact zW (jJ (bq a1)) a2 n1 n2 n3 n4 (aT c.c ps _ a3) (qc ms X _ ⟨c.c,c.nd,c.fn,c.pass,fun k hk z=>z.elim (c.hw k (an2 hk).1) (of_decide_eq_false (bq (an2 hk).2))⟩ a5)
end
end
end
section
structure Df where
 name:Str
 qual:Str
 st:Stmt
 ps:List Str
 N:List Str
 fn:Fn
def zY(N ps:List Str)(sc:Scope):Bool:=decide (sc.kind=.function) && !sc.isCoroutine && !sc.isGenerator && decide N.Nodup && decide (N.take ps.length=ps) && ps.all (fun x=>vU sc x) && sc.names.all fun y=>!decide (y.2=.free)
theorem wm(h:zY N ps sc=true):FnScope N ps sc:=by
 unfold zY at h
 simp only[aaB,aaU,abz,decide_eq_true_eq,decide_eq_false_iff_not]at h
 obtain⟨⟨⟨⟨⟨⟨h1,h2⟩,h3⟩,h4⟩,h5⟩,h6⟩,h7⟩:=h
 exact⟨h1,h2,h3,h4,h5,fun x hx=>nP (h6 x hx),h7⟩
def mo(ios:List Bool)(i:Nat):Bool:=!decide (ios[i]?=some true)
def wo(t:Tb)(d:Df):Bool:=zY d.N d.ps (aH d.st) && decide (d.fn.io.length=d.ps.length) && decide (d.fn.n=d.N.length) && ij t (mo d.fn.io) d.fn.body d.N (aH d.st) (bO d.st)
structure Md (K:WF)(mg:Str->Option Value)(t:Tb)(p:Pg)(D:Nat->Option Df):Prop where
 df:∀j d,D j=some d->p.F j=some d.fn/\wo t d=true/\∃f fd,Fun K d.name d.qual d.st f fd/\Binds K fd d.ps [] /\
  (∀nm,t.fn j=some nm->mg nm=some (.ref f)/\PySem.W.keepIn K (.ref f)=true)/\(∀c m,t.me j=some (c,m)->Cls K (am K c)/\Meth K (am K c) m f)/\(∀c,t.mk' j=some c->Mk K (am K c) f/\mg c=some (.ref (am K c)))
 all:∀j,((t.fn j).isSome || (t.me j).isSome || (t.mk' j).isSome)=true->(D j).isSome=true
 gc:∀g nm,t.gc g=some nm->∃v u,mg nm=some u/\RelV v u/\∀S H,Fz K S H v (p.gv g)
 ng:∀x,t.nog x=true->mg x=none
 fl:∀c f,t.fld c f=true->Cls K (am K c)/\NoAttr K (am K c) f
section
variable{P:Program}{w:World}{K:WF}{mg:Str->Option Value}{base:Heap}{t:Tb}{p:Pg}{D:Nat->Option Df}
theorem kW(h:∀xs Q,¬ sp xs Q):FnD P w K mg base k f fd ps sp:=by
 have h':∀vs H Q E,¬ toSp K sp vs H Q E:=fun vs H Q E ⟨S,xs,A,_,_,_,_,z⟩=>h _ _ z
 exact⟨⟨fun vs H Q E z=>(h' _ _ _ _ z).elim,fun A outer s H args us vs Q E _ _ _ _ z=>(h' _ _ _ _ z).elim⟩,fun xs P R _ z=>(h _ _ z).elim⟩
theorem kX(h:∀xs,g xs=none):∀xs Q,¬ spC g xs Q:=fun xs Q ⟨w,e,_⟩=>by rw[h]at e;cases e
theorem Md.ok(M:Md K mg t p D):∀(n:Nat),(∀(j:Nat) (d:Df),D j=some d->∀(f:Addr) (fd:FuncData),Fun K d.name d.qual d.st f fd->FnD P w K mg base (n + 1) f fd d.ps (spC (p.call n j))) /\
  (∀(j:Nat) (d:Df),D j=some d->∀(f:Addr) (fd:FuncData),Fun K d.name d.qual d.st f fd->FnD P w K mg base n f fd d.ps (spC (p.mak n j)))
 | 0=>⟨fun j d _ f fd _=>kW (kX fun _=>rfl),fun j d _ f fd _=>kW (kX fun _=>rfl)⟩
 | n + 1=>by
  obtain⟨ih1,ih2⟩:=Md.ok M n
  refine⟨fun j d hj f fd F=>?_,fun j d hj f fd F=>ih1 j d hj f fd F⟩
  obtain⟨h1,h2,_⟩:=M.df j d hj
  unfold wo at h2
  simp only[aaB,decide_eq_true_eq]at h2
  obtain⟨⟨⟨g1,g2⟩,g3⟩,g4⟩:=h2
  have S:=wm g1
  refine F.okD S (sv _) g2 (fun xs Q ⟨z,e,_⟩=>?_) fun cdv A outer s H E hr xs Q ⟨z,e,q⟩=>?_
  ·rw[Pg.call_succ,h1]at e
   simp only at e
   split at e
   ·rename_i hl;rw[hl];exact g2
   ·cases e
  ·have c:Cy t (p.ct n) (ji CX0 P w K mg base d.N d.qual (aH d.st) f cdv A outer s H E).nox:=by
    refine⟨rfl,hr.units,fun j' nm h=>?_,fun j' c m h=>?_,fun j' c h=>?_,M.gc,M.ng,M.fl⟩
    ·obtain⟨d',hd'⟩:=aa6.mp (M.all j' (by rw[h];rfl))
     obtain⟨_,_,f',fd',F',B',q1,_,_⟩:=M.df j' d' hd'
     exact⟨n + 1,f',fd',d'.ps,ih1 j' d' hd' f' fd' F',hr,(q1 nm h).1,(q1 nm h).2,B'⟩
    ·obtain⟨d',hd'⟩:=aa6.mp (M.all j' (by rw[h];simp))
     obtain⟨_,_,f',fd',F',B',_,q2,_⟩:=M.df j' d' hd'
     exact⟨(q2 c m h).1,n + 1,f',fd',d'.ps,(q2 c m h).2,ih1 j' d' hd' f' fd' F',hr,B'⟩
    ·obtain⟨d',hd'⟩:=aa6.mp (M.all j' (by rw[h];simp))
     obtain⟨_,_,f',fd',F',B',_,_,q3⟩:=M.df j' d' hd'
     exact⟨n,f',fd',d'.ps,(q3 c h).1,ih2 j' d' hd' f' fd' F',hr,(q3 c h).2,B'⟩
   have cs:Cs t (p.ct n) (WS d.fn.io) (mo d.fn.io) (ji CX0 P w K mg base d.N d.qual (aH d.st) f cdv A outer s H E).nox :=
    ⟨c,S.nd,fun _=>rfl,PassesOwn.never,fun i hi z=>by
     unfold mo at hi
     simp only[abz,decide_eq_false_iff_not]at hi
     exact hi z⟩
   refine⟨_,qc d.fn.body _ _ cs g4,?_⟩
   rw[Pg.call_succ,h1]at e
   simp only at e
   split at e
   ·unfold sk at e
    obtain⟨x,e1,e⟩:=bnd e
    rw[g3]at e1
    refine⟨x,e1,?_⟩
    obtain⟨fl,ρ⟩:=x
    cases fl with
    | nx =>
     obtain⟨ys,e2,e⟩:=bnd e
     cases e
     exact⟨ys,e2,q⟩
    | rt o =>
     obtain⟨ys,e2,e⟩:=bnd e
     cases e
     exact⟨ys,e2,q⟩
    | bk=>cases e
    | ct=>cases e
   ·cases e
theorem Md.law(M:Md K mg t p D)(hj:D j=some d)(F:Fun K d.name d.qual d.st f fd)
  (h:∀ns:List Int,ns.length≤63->∃ys,p.call n j [.fz (.list (ns.map PyData.int))]=some (.fz (.bool true),ys)) :
  FnOk P w K mg base CX0 (n + 1) f fd d.ps (fun vs H Q _=>∃(a:Addr) (ns:List Int),vs=[.ref a]/\SqL K H a (ns.map V.int)/\ns.length≤63/\∀H',Q (.bl true) H'):=by
 refine ((M.ok n).1 j d hj f fd F).ok.imp fun vs H Q E hq=>?_
 obtain⟨a,ns,rfl,hS,hl,q⟩:=hq
 obtain⟨ys,hy⟩:=h ns hl
 refine⟨fun _=>False,[.fz (.list (ns.map PyData.int))],[],fun a z=>z.elim,fun _ _ _ z=>z,Ows.cons (.fz ((Fz.of0 (.lst hS (DtAll.ints ns))).sub fun c z=>z.elim (fun z=>by cases z) id)) .nil,aa8,_,hy,fun v H' B _ hO _ _=>?_⟩
 cases hO with
 | cons r _ =>
  cases r with
  | fz f=>cases f;exact q H'
end
end
section
inductive Kd where | fn | me (c:Str) | ini (c:Str)
def Kd.fn?(d:Df):Kd->Option Str | .fn=>some d.name | _=>none
def Kd.me?(d:Df):Kd->Option (Str × Str) | .me c=>some (c,d.name) | _=>none
def Kd.ini?:Kd->Option Str | .ini c=>some c | _=>none
structure Pl where
 ds:List (Df × Kd)
 cs:List (Str × PyData)
 nog:List Str
 fld:List (Str × Str)
def Pl.tb(P:Pl):Tb where
 fn j:=(P.ds[j]?).bind fun z=>z.2.fn? z.1
 me j:=(P.ds[j]?).bind fun z=>z.2.me? z.1
 mk' j:=(P.ds[j]?).bind fun z=>z.2.ini?
 gc g:=(P.cs[g]?).map (·.1)
 nog x:=P.nog.any fun y=>sEq x y
 fld c f:=P.fld.any fun y=>sEq c y.1 && sEq f y.2
def Pl.pg(P:Pl):Pg where
 F j:=(P.ds[j]?).map (·.1.fn)
 gv g:=((P.cs[g]?).map (·.2)).getD .none
 wf:=100000
def Pl.D(P:Pl)(j:Nat):Option Df:=(P.ds[j]?).map (·.1)
def CS(K:WF)(mg:Str->Option Value)(d:Df)(f:Addr):Kd->Prop
 | .fn=>mg d.name=some (.ref f)/\PySem.W.keepIn K (.ref f)=true
 | .me c=>Cls K (am K c)/\Meth K (am K c) d.name f
 | .ini c=>Mk K (am K c) f/\mg c=some (.ref (am K c))
def xw(K:WF)(mg:Str->Option Value)(z:Df × Kd):Prop:=∃f fd,Fun K z.1.name z.1.qual z.1.st f fd/\Binds K fd z.1.ps []/\CS K mg z.1 f z.2
section
variable{K:WF}{mg:Str->Option Value}{P:Pl}
theorem mp{α β:Type}{o:Option α}{f:α->β}{b:β}(h:o.map f=some b):∃a,o=some a/\f a=b:=by
 cases o with
 | none=>cases h
 | some a=>exact⟨a,rfl,aaA h⟩
theorem Pl.md(h1:(P.ds.all fun z=>wo P.tb z.1)=true)(h2:∀z∈P.ds,xw K mg z)(h3:∀z∈P.cs,∃v u,mg z.1=some u/\RelV v u/\∀S H,Fz K S H v z.2)(h4:∀x∈P.nog,mg x=none)(h5:∀z∈P.fld,Cls K (am K z.1)/\NoAttr K (am K z.1) z.2):Md K mg P.tb P.pg P.D where
 df j d hj:=by
  obtain⟨z,e1,e2⟩:=mp hj
  subst e2
  have hm:=abp e1
  obtain⟨f,fd,a1,a2,a3⟩:=h2 z hm
  refine⟨by show (P.ds[j]?).map _=_;rw[e1];rfl,aaU.mp h1 z hm,f,fd,a1,a2,fun nm hn=>?_,fun c m hn=>?_,fun c hn=>?_⟩
  ·have hn:((P.ds[j]?).bind fun z=>z.2.fn? z.1)=some nm:=hn
   rw[e1]at hn
   obtain⟨d,k⟩:=z
   cases k<;>cases hn
   exact a3
  ·have hn:((P.ds[j]?).bind fun z=>z.2.me? z.1)=some (c,m):=hn
   rw[e1]at hn
   obtain⟨d,k⟩:=z
   cases k<;>cases hn
   exact a3
  ·have hn:((P.ds[j]?).bind fun z=>z.2.ini?)=some c:=hn
   rw[e1]at hn
   obtain⟨d,k⟩:=z
   cases k<;>cases hn
   exact a3
 all j h:=by
  show ((P.ds[j]?).map _).isSome=true
  cases e:P.ds[j]? with
  | none =>
   have h:((((P.ds[j]?).bind fun z=>z.2.fn? z.1).isSome || ((P.ds[j]?).bind fun z=>z.2.me? z.1).isSome) || ((P.ds[j]?).bind fun z=>z.2.ini?).isSome)=true:=h
   rw[e]at h
   cases h
  | some z=>rfl
 gc g nm h:=by
  obtain⟨z,e1,e2⟩:=mp h
  subst e2
  obtain⟨v,u,b1,b2,b3⟩:=h3 z (abp e1)
  have e3:P.pg.gv g=z.2:=by show ((P.cs[g]?).map _).getD _=_;rw[e1];rfl
  rw[e3]
  exact⟨v,u,b1,b2,b3⟩
 ng x h:=by
  obtain⟨y,hy,e⟩:=abY.mp h
  rw[bI e]
  exact h4 y hy
 fl c f h:=by
  obtain⟨y,hy,e⟩:=abY.mp h
  rw[bI (an2 e).1,bI (an2 e).2]
  exact h5 y hy
end
end
end L2
namespace L2
open PySem
theorem bs{α β:Type}{o:Option α}{f:α->Option β}{x:α}{r:Option β}(h:o=some x)(k:f x=r):o.bind f=r:=by rw[h];exact k
theorem FT{c:Prop}[Decidable c](h:c):gd c=some ():=if_pos h
theorem bg{β:Type}{c:Prop}[Decidable c]{f:Unit->Option β}{r:Option β}(h:c)(k:f ()=r):(gd c).bind f=r:=bs (FT h) k
section
variable{C:Ct}{a b c e:E}{es:Es}{ρ ρ1 ρ2 ρ3:DEnv}{x y:OR}{dx dy d:PyData}{k k1:Bool}{i j f:Nat}{n:Int}{rs:List OR}{xs ys zs:List OD}{z w:OD}{ds:List PyData}{s:S'}{ss sa sb:Ss}{fl:Fl}{r:Option (Fl × DEnv)}{rv:Option (OR × DEnv)}{rt:Option (Bool × DEnv)}{ps:List Acc}
theorem ah{o:Bo}(h1:ev C a ρ=some (x,ρ1))(h2:ev C b ρ1=some (y,ρ2))(hx:au ρ2 x=some dx)(hy:au ρ2 y=some dy)(h:vE o dx dy=some d):ev C (.bop o a b) ρ=some (.val (.fz d),ρ2):=bs h1 (bs h2 (bs hx (bs hy (bs h rfl))))
theorem av{o:Co}(h1:ev C a ρ=some (x,ρ1))(h2:ev C b ρ1=some (y,ρ2))(hx:au ρ2 x=some dx)(hy:au ρ2 y=some dy)(h:lZ o dx dy=some k):ev C (.cmp o a b) ρ=some (.val (.fz (.bool k)),ρ2):=bs h1 (bs h2 (bs hx (bs hy (bs h rfl))))
theorem aO(h1:ev C a ρ=some (x,ρ1))(h2:ev C b ρ1=some (y,ρ2))(hy:au ρ2 y=some (.int n))(h:bD ρ2 x n=some (z,ρ3)):ev C (.ix a b) ρ=some (.val z,ρ3):=bs h1 (bs h2 (bs hy (bs rfl (bs h rfl))))
theorem ab(h1:evs C es ρ=some (rs,ρ1))(h2:bc (C.io f) ρ1 rs=some (xs,ρ2))(h3:C.call f xs=some (w,ys))(h4:dv (C.io f) rs ys ρ2=ρ3):ev C (.call f es) ρ=some (.val w,ρ3):=bs h1 (bs h2 (bs h3 (by rw[<- h4])))
theorem n9(h1:evs C es ρ=some (rs,ρ1))(h2:cA ρ1 rs=some ds)(h3:C.call f (ds.map OD.fz)=some (.fz d,ys))(h4:Di d=true):ev C (.callS f es) ρ=some (.val (.fz d),ρ1):=bs h1 (bs h2 (bs h3 (bs rfl (bg h4 rfl))))
theorem oa(h:ev C (.callS f es) ρ=some (.val (.fz (.bool k)),ρ1)):aZ C (.callS f es) ρ=some (k,ρ1):=bs h rfl
theorem eN{cn m:Str}{ns:List Str}(h0:ρ[i]?.join=some (.obj cn ns zs))(hm:m ∉ ns)(h1:evs C es ρ=some (rs,ρ1))(h2:bc (C.io f) ρ1 (.rf i::rs)=some (xs,ρ2))(h3:C.call f xs=some (w,ys))(h4:dv (C.io f) (.rf i::rs) ys ρ2=ρ3):ev C (.meth cn m f i es) ρ=some (.val w,ρ3):=bs h0 (bs rfl (bg ⟨rfl,hm⟩ (bs h1 (bs h2 (bs h3 (by rw[<- h4]))))))
theorem zZ{cn:Str}(h1:evs C es ρ=some (rs,ρ1))(h2:bc (C.io f).tail ρ1 rs=some (xs,ρ2))(h3:C.mak f (.obj cn [] []::xs)=some (.fz .none,w::ys))(h4:dv (C.io f).tail rs ys ρ2=ρ3):ev C (.make cn f es) ρ=some (.val w,ρ3):=bs h1 (bs h2 (bs h3 (bs rfl (by rw[<- h4]))))
theorem fg(h1:evs C es ρ=some (rs,ρ1))(hl:Nat.ble rs.length 1000000=true)(h2:mapR own1 ρ1 rs=some (zs,ρ2)):ev C (.lst es) ρ=some (.val (.lst zs),ρ2):=bs h1 (bs h2 (bg (Nat.ble_eq.mp hl) rfl))
theorem dB(h1:evs C es ρ=some (rs,ρ1))(hl:Nat.ble rs.length 1000000=true)(h2:mapR own1 ρ1 rs=some (zs,ρ2))(h3:mkTup zs=z):ev C (.tup es) ρ=some (.val z,ρ2):=bs h1 (bs h2 (bg (Nat.ble_eq.mp hl) (by rw[<- h3])))
theorem af:evs C .nil ρ=some ([],ρ):=rfl
theorem aa(h1:ev C e ρ=some (x,ρ1))(h2:evs C es ρ1=some (rs,ρ2)):evs C (.cons e es) ρ=some (x::rs,ρ2):=bs h1 (bs h2 rfl)
theorem iY(h:aZ C c ρ=some (true,ρ1))(k:ev C a ρ1=rv):ev C (.ife c a b) ρ=rv:=bs h k
theorem og(h:aZ C c ρ=some (false,ρ1))(k:ev C b ρ1=rv):ev C (.ife c a b) ρ=rv:=bs h k
theorem aJ{g:Bl}(h1:evs C es ρ=some (rs,ρ1))(h2:cA ρ1 rs=some ds)(h3:vF g ds=some d):ev C (.blt g es) ρ=some (.val (.fz d),ρ1):=bs h1 (bs h2 (bs h3 rfl))
theorem wq(h1:ev C e ρ=some (x,ρ1))(h2:(dn ρ1 x).bind listOf=some ds):ev C (.bnw .tuple e) ρ=some (.val (.fz (.tuple ds)),ρ1):=bs h1 (bs h2 rfl)
theorem xx{dx dy:List PyData}(h1:ev C a ρ=some (x,ρ1))(h2:ev C b ρ1=some (y,ρ2))(hx:vg ρ2 x=some dx)(hy:vg ρ2 y=some dy)(hl:dx.length + dy.length≤1000000):ev C (.cat a b) ρ=some (.val (.lst ((dx++dy).map OD.fz)),ρ2):=bs h1 (bs h2 (bs hx (bs hy (bg hl rfl))))
theorem ax{o:Co}(h:ev C (.cmp o a b) ρ=some (.val (.fz (.bool k)),ρ1)):aZ C (.cmp o a b) ρ=some (k,ρ1):=bs h rfl
theorem aY(h:ev C (.call f es) ρ=some (.val (.fz (.bool k)),ρ1)):aZ C (.call f es) ρ=some (k,ρ1):=bs h rfl
theorem mq{cn m:Str}(h:ev C (.meth cn m f i es) ρ=some (.val (.fz (.bool k)),ρ1)):aZ C (.meth cn m f i es) ρ=some (k,ρ1):=bs h rfl
theorem E3(h:ev C (.ix a b) ρ=some (.val (.fz (.bool k)),ρ1)):aZ C (.ix a b) ρ=some (k,ρ1):=bs h rfl
theorem CT{g:Bl}(h:ev C (.blt g es) ρ=some (.val (.fz (.bool k)),ρ1)):aZ C (.blt g es) ρ=some (k,ρ1):=bs h rfl
theorem tq(h:aZ C a ρ=some (true,ρ1))(k:aZ C b ρ1=rt):aZ C (.and a b) ρ=rt:=bs h k
theorem tu(h:aZ C a ρ=some (false,ρ1)):aZ C (.and a b) ρ=some (false,ρ1):=bs h rfl
theorem ik(h:aZ C a ρ=some (true,ρ1)):aZ C (.or a b) ρ=some (true,ρ1):=bs h rfl
theorem bZ(h:aZ C a ρ=some (false,ρ1))(k:aZ C b ρ1=rt):aZ C (.or a b) ρ=rt:=bs h k
theorem bJ(h:aZ C a ρ=some (k,ρ1)):aZ C (.not a) ρ=some (!k,ρ1):=bs h rfl
theorem jN(h:ev C a ρ=some (.val (.fz (.bool true)),ρ1))(k:ev C b ρ1=rv):ev C (.and a b) ρ=rv:=bs h (bs rfl (bs rfl k))
theorem mr(h:ev C a ρ=some (.val (.fz (.bool false)),ρ1)):ev C (.and a b) ρ=some (.val (.fz (.bool false)),ρ1):=bs h rfl
theorem xy(h:ev C a ρ=some (.val (.fz (.bool true)),ρ1)):ev C (.or a b) ρ=some (.val (.fz (.bool true)),ρ1):=bs h rfl
theorem xA(h:ev C a ρ=some (.val (.fz (.bool false)),ρ1))(k:ev C b ρ1=rv):ev C (.or a b) ρ=rv:=bs h (bs rfl (bs rfl k))
theorem b9{p:OD × List Nat × OD}(h:ao ρ i ps=some p)(h2:p.2.2=.fz d):ev C (.pg i ps) ρ=some (.val (.fz d),ρ):=bs h (bs (show ql p.2.2=some d by rw[h2];rfl) rfl)
variable{p:OD × List Nat × OD}{cn fl':Str}{ns ns':List Str}{xs':List OD}
theorem z5(h:ao ρ i ps=some p)(hd:p.2.2.dat=some d)(hr:ρ.set i (some (OD.put (.fz d) p.2.1 p.1))=ρ1):ev C (.pf i ps) ρ=some (.val (.fz d),ρ1):=bs h (bs hd (by rw[<- hr]))
theorem CU{m:Nat}(h:ao ρ i ps=some p)(hd:p.2.2.dat=some d)(hl:jt d=some m):ev C (.pl i ps) ρ=some (.val (.fz (.int m)),ρ):=bs h (bs hd (bs hl rfl))
theorem iZ(h:ao ρ i ps=some p)(hd:p.2.2.dat=some d)(ht:jz d=some k):aZ C (.pt i ps) ρ=some (k,ρ):=bs h (bs hd (bs ht rfl))
theorem tw{neg:Bool}(h1:ev C e ρ=some (x,ρ1))(hx:au ρ1 x=some dx)(h:ao ρ1 i ps=some p)(hd:p.2.2.dat=some d)(hc:lZ (if neg then .nin else .inn) dx d=some k):aZ C (.pin neg e i ps) ρ=some (k,ρ1):=bs (bs h1 (bs hx (bs h (bs hd (bs hc rfl))))) rfl
theorem mw(h:ao ρ i ps=some p)(he:jC C e ρ=some d)(hx:p.2.2=.lst xs)(hl:xs.length < 1000000)(hr:ρ.set i (some (OD.put (.lst (xs++[.fz d])) p.2.1 p.1))=ρ1):cI C (.apd i ps e) ρ=some (.nx,ρ1):=bs h (bs he (bs (show vC p.2.2=some xs by rw[hx];rfl) (bg hl (by rw[<- hr]))))
theorem tx{kd:PyData}{kk:Key}{ks ks':List Key}(he:ev C e ρ=some (x,ρ1))(hf:frz1 ρ1 x=some (d,ρ2))(h:ao ρ2 i ps=some p)(hj:ρ2[j]?.join=some (.fz kd))(hk:keyOf kd=some kk)(hx:p.2.2=.dic ks xs)(hl:xs.length < 1000000)(hp:cM kk d ks xs=(ks',xs'))(hr:ρ2.set i (some (OD.put (.dic ks' xs') p.2.1 p.1))=ρ3):cI C (.std i ps j e) ρ=some (.nx,ρ3):=bs he (bs hf (bs h (bs hj (bs rfl (bs hk (bs (x:=(ks,xs)) (by rw[hx];rfl) (bg hl (by rw[<- hr];simp only[hp]))))))))
theorem bK(he:ev C e ρ=some (x,ρ1))(ho:own1 ρ1 x=some (z,ρ2))(h0:ρ2[i]?.join=some (.obj cn ns xs))(hl:Nat.blt xs.length 1000=true)(hp:bf fl' z ns xs=(ns',xs'))(hr:ρ2.set i (some (.obj cn ns' xs'))=ρ3):cI C (.stf i cn fl' e) ρ=some (.nx,ρ3):=bs he (bs ho (bs h0 (bs rfl (bg ⟨rfl,abA.mp hl⟩ (by rw[<- hr];simp only[hp])))))
theorem tz{o:Bo}{a r:Int}(h:ao ρ i [.fld cn fl']=some p)(hq:p.2.2=.fz (.int a))(he:ev C e ρ=some (x,ρ1))(hd:au ρ1 x=some d)(ha:kH o a d=some r)(h0:ρ1[i]?.join=some (.obj cn ns xs))(hl:Nat.blt xs.length 1000=true)(hp:bf fl' (.fz (.int r)) ns xs=(ns',xs'))(hr:ρ1.set i (some (.obj cn ns' xs'))=ρ3):cI C (.agf i cn fl' o e) ρ=some (.nx,ρ3):=bs h (bs (show ql p.2.2=some (.int a) by rw[hq];rfl) (bs rfl (bs he (bs hd (bs ha (bs h0 (bs rfl (bg ⟨rfl,abA.mp hl⟩ (by rw[<- hr];simp only[hp])))))))))
theorem ae(h:cI C s ρ=some (.nx,ρ1))(k:aN C ss ρ1=r):aN C (.cons s ss) ρ=r:=bs h k
theorem az(h:cI C s ρ=some (.rt z,ρ1)):aN C (.cons s ss) ρ=some (.rt z,ρ1):=bs h rfl
theorem E4(h:cI C s ρ=some (.ct,ρ1)):aN C (.cons s ss) ρ=some (.ct,ρ1):=bs h rfl
theorem aj(h:ev C e ρ=some (x,ρ1))(ho:own1 ρ1 x=some (z,ρ2))(hi:Nat.blt i ρ2.length=true)(hr:ρ2.set i (some z)=ρ3):cI C (.set i e) ρ=some (.nx,ρ3):=bs h (bs ho (bg (abA.mp hi) (by rw[<- hr])))
theorem ip{is:List Nat}(h:evs C es ρ=some (rs,ρ1))(ho:mapR own1 ρ1 rs=some (zs,ρ2))(hl:(zs.length == is.length && is.all fun i=>Nat.blt i ρ2.length)=true)(hr:dq is zs ρ2=ρ3):cI C (.par is es) ρ=some (.nx,ρ3):=bs h (bs ho (bg (by rw[aaB,aaU]at hl;exact⟨eq_of_beq hl.1,fun i hi=>abA.mp (hl.2 i hi)⟩) (by rw[<- hr])))
theorem tD(h:ev C e ρ=some (x,ρ1)):cI C (.ex e) ρ=some (.nx,ρ1):=bs h rfl
theorem ak(h:ev C e ρ=some (x,ρ1))(ho:mv1 ρ1 x=some (z,ρ2)):cI C (.ret e) ρ=some (.rt z,ρ2):=bs h (bs ho rfl)
theorem aR(h:aZ C c ρ=some (true,ρ1))(k:aN C sa ρ1=r):cI C (.iff c sa sb) ρ=r:=bs h k
theorem aB(h:aZ C c ρ=some (false,ρ1))(k:aN C sb ρ1=r):cI C (.iff c sa sb) ρ=r:=bs h k
theorem cb(h0:ρ[i]?.join=some (.lst ys))(h:ev C e ρ=some (x,ρ1))(ho:own1 ρ1 x=some (z,ρ2))(h1:ρ2[i]?.join=some (.lst xs))(hl:xs.length < 1000000)(hr:ρ2.set i (some (.lst (xs++[z])))=ρ3):cI C (.app i e) ρ=some (.nx,ρ3):=bs h0 (bs rfl (bs h (bs ho (bs h1 (bs rfl (bg hl (by rw[<- hr])))))))
theorem my{ke:E}{jj:Nat}(h:ev C e ρ=some (x,ρ1))(ho:own1 ρ1 x=some (z,ρ2))(h0:ρ2[i]?.join=some (.lst ys))(hk:ev C ke ρ2=some (y,ρ3))(hd:au ρ3 y=some (.int n))(h1:ρ3[i]?.join=some (.lst xs))(hn:ixN xs.length n=some jj){ρ4:DEnv}(hr:ρ3.set i (some (.lst (xs.set jj z)))=ρ4):cI C (.sti i ke e) ρ=some (.nx,ρ4):=bs h (bs ho (bs h0 (bs rfl (bs hk (bs hd (bs rfl (bs h1 (bs rfl (bs hn (by rw[<- hr]))))))))))
theorem cW{t:Tg}{it:It'}(h:lC C it ρ=some (ds,ρ1))(k:bj (fun d ρ'=>(bb t (.fz d) ρ').bind fun ρ1=>aN C ss ρ1) ds ρ1=r):cI C (.fr t it ss) ρ=r:=bs h k
theorem dD(h:ev C e ρ=some (x,ρ1))(hd:au ρ1 x=some (.int n))(h1:-(2 ^ 62)≤n/\n < 2 ^ 62):lC C (.rg1 e) ρ=some (bU 0 n.toNat,ρ1):=bs h (bs hd (bs rfl (bg h1 rfl)))
theorem cO(h:ev C e ρ=some (x,ρ1))(hd:frz1 ρ1 x=some (d,ρ2))(hs:um d=some ds):lC C (.seq e) ρ=some (ds,ρ2):=bs h (bs hd (bs hs rfl))
theorem jO(h:ev C e ρ=some (x,ρ1))(hd:frz1 ρ1 x=some (.list ds,ρ2)):lC C (.enm e) ρ=some (cC ds,ρ2):=bs h (bs hd (bs rfl rfl))
theorem mz{es':List PyData}(h:ev C a ρ=some (x,ρ1))(h':ev C b ρ1=some (y,ρ2))(hd:frz1 ρ2 x=some (dx,ρ3)){ρ4:DEnv}(hd':frz1 ρ3 y=some (dy,ρ4))(hs:um dx=some ds)(hs':um dy=some es'):lC C (.zip a b) ρ=some (eh ds es',ρ4):=bs h (bs h' (bs hd (bs hd' (bs hs (bs hs' rfl)))))
theorem bL{nt:Nat}{fr:List Nat}{it:It'}{tg:Tg}{ifs:Eo}{elt:E}{zc:DEnv × DEnv}{out:List PyData}{ρ':DEnv}(h1:lC C it ρ=some (ds,ρ1))(hz:ds.length < 1000000)(hc:cK ρ1 fr=some zc)(hl:aU (aV C tg ifs elt) ds [] (List.replicate nt none++zc.1)=some (out,ρ'))(hr:gU zc.2 fr (ρ'.drop nt)=ρ2):ev C (.comp nt fr it tg ifs elt) ρ=some (.val (.lst (out.map OD.fz)),ρ2):=bs h1 (bg hz (bs hc (bs (x:=(out,ρ')) hl (by rw[<- hr]))))
theorem wr{nt:Nat}{fr:List Nat}{tg:Tg}{ifs:Eo}{elt:E}{zc:DEnv × DEnv}{out:List PyData}{ρ':DEnv}(h0:ρ[i]?.join=some (.lst (ds.map OD.fz)))(hz:ds.length < 1000000)(hc:cK (ρ.set i none) fr=some zc)(hl:aU (aV C tg ifs elt) ds [] (List.replicate nt none++zc.1)=some (out,ρ'))(hr:(gU zc.2 fr (ρ'.drop nt)).set i (some (.lst (ds.map OD.fz)))=ρ2):ev C (.compB i nt fr tg ifs elt) ρ=some (.val (.lst (out.map OD.fz)),ρ2):=bs h0 (bs rfl (bs (eI ds) (bg hz (bs hc (bs (x:=(out,ρ')) hl (by rw[<- hr]))))))
theorem qd{tg:Tg}{ifs elt:E}(h0:bb tg (.fz d) ρ=some ρ1)(h1:aZ C ifs ρ1=some (true,ρ2))(h2:ev C elt ρ2=some (x,ρ3)){ρ4:DEnv}(h3:frz1 ρ3 x=some (dx,ρ4)):aV C tg (.some ifs) elt d ρ=some ([dx],ρ4):=bs h0 (bs h1 (bs h2 (bs h3 rfl)))
theorem qe{tg:Tg}{ifs elt:E}(h0:bb tg (.fz d) ρ=some ρ1)(h1:aZ C ifs ρ1=some (false,ρ2)):aV C tg (.some ifs) elt d ρ=some ([],ρ2):=bs h0 (bs h1 rfl)
theorem kY{tg:Tg}{elt:E}(h0:bb tg (.fz d) ρ=some ρ1)(h2:ev C elt ρ1=some (x,ρ3)){ρ4:DEnv}(h3:frz1 ρ3 x=some (dx,ρ4)):aV C tg .none elt d ρ=some ([dx],ρ4):=bs h0 (bs rfl (bs h2 (bs h3 rfl)))
end
theorem i3{step:PyData->DEnv->Option (Fl × DEnv)}(P:List PyData->DEnv->Prop)(h:∀d ds ρ,P (d::ds) ρ->∃fl ρ',step d ρ=some (fl,ρ')/\(fl=.nx\/fl=.ct)/\P ds ρ'):∀{ds:List PyData} {ρ:DEnv},P ds ρ->∃ρ',bj step ds ρ=some (.nx,ρ')/\P [] ρ':=by
 intro ds
 induction ds with
 | nil=>exact fun {ρ} hp=>⟨ρ,rfl,hp⟩
 | cons d ds ih =>
  intro ρ hp
  obtain⟨fl,ρ1,e1,hf,hp1⟩:=h d ds ρ hp
  obtain⟨ρ2,e2,hp2⟩:=ih hp1
  refine⟨ρ2,bs e1 ?_,hp2⟩
  rcases hf with rfl | rfl
  ·exact e2
  ·exact e2
theorem fV{step:PyData->DEnv->Option (List PyData × DEnv)}(P:List PyData->List PyData->DEnv->Prop)(h:∀d ds out ρ,P (d::ds) out ρ->∃o ρ',step d ρ=some (o,ρ')/\P ds (out++o) ρ'):∀{ds out:List PyData} {ρ:DEnv},P ds out ρ->∃out' ρ',aU step ds out ρ=some (out',ρ')/\P [] out' ρ':=by
 intro ds
 induction ds with
 | nil=>exact fun {out ρ} hp=>⟨out,ρ,rfl,hp⟩
 | cons d ds ih =>
  intro out ρ hp
  obtain⟨o,ρ1,e1,hp1⟩:=h d ds out ρ hp
  obtain⟨out',ρ2,e2,hp2⟩:=ih hp1
  exact⟨out',ρ2,bs e1 e2,hp2⟩
theorem ag{p:Pg}{n j:Nat}{fn:Fn}{xs:List OD}{ρ:DEnv}{r:OD}{ys:List OD}(hf:p.F j=some fn)(hl:xs.length=fn.io.length)(h:aN (p.ct n) fn.body (fN fn.n xs)=some (.rt r,ρ))(ho:aQ 0 fn.io xs ρ=some ys):p.call (n + 1) j xs=some (r,ys):=by
 rw[Pg.call_succ,hf]
 show (if xs.length=fn.io.length then sk (p.ct n) fn xs else none)=_
 rw[if_pos hl]
 exact bs h (bs ho rfl)
theorem cP{p:Pg}{n j:Nat}{fn:Fn}{xs:List OD}{ρ:DEnv}{ys:List OD}(hf:p.F j=some fn)(hl:xs.length=fn.io.length)(h:aN (p.ct n) fn.body (fN fn.n xs)=some (.nx,ρ))(ho:aQ 0 fn.io xs ρ=some ys):p.call (n + 1) j xs=some (.fz .none,ys):=by
 rw[Pg.call_succ,hf]
 show (if xs.length=fn.io.length then sk (p.ct n) fn xs else none)=_
 rw[if_pos hl]
 exact bs h (bs ho rfl)
theorem oh{n k:Nat}(h:k < n):ixN n (k:Int)=some k:=by
 unfold ixN
 rw[if_pos (by omega),if_pos (by omega)];rfl
theorem eA{α:Type}{xs:List α}{k:Nat}{x:α}(h:xs[k]?=some x):atI xs (k:Int)=some x:=bs (oh (aas.mp h).1) h
theorem jP{α:Type}{xs:List α}{i:Int}(h0:0≤i)(h1:i < xs.length):∃x,x∈xs/\atI xs i=some x:=by
 have e:i=(i.toNat:Int):=by omega
 have hl:i.toNat < xs.length:=by omega
 refine⟨xs[i.toNat],abR hl,?_⟩
 have:=eA (aar hl)
 rw[<- e]at this
 exact this
section
variable{ρ:DEnv}{ds:List PyData}{d:PyData}{i:Int}{xs:List OD}{x:OD}
theorem bM(h:atI ds i=some d):bD ρ (.val (.fz (.list ds))) i=some (.fz d,ρ):=by simp only[bD,itemO,h]
theorem cQ(h:atI ds i=some d):bD ρ (.val (.fz (.tuple ds))) i=some (.fz d,ρ):=by simp only[bD,itemO,h]
theorem cy(h:atI xs i=some x):bD ρ (.val (.lst xs)) i=some (x,ρ):=by simp only[bD,itemO,h]
end
end L2
namespace Np
open PySem L2
def top(i:Nat):Stmt:=PySem.Challenge.pw_nearpool_k20_rows_that_need_pools.main.body.getD i (.Pass ⟨0,0,0,0⟩)
def gi(j:Nat):Stmt->Stmt
 | .ClassDef _ _ _ body ..=>body.getD j (.Pass ⟨0,0,0,0⟩)
 | s=>s
def ci:Fn:=⟨[false,false],2,(.cons (.iff (.or (.isi .bool (.nm 0)) (.not (.isi .int (.nm 0)))) (.cons (.ret (.bl false)) .nil) .nil) (.cons (.ret (.cmp2 .le .lt (.int 0) (.nm 0) (.nm 1))) .nil))⟩
def iq:Fn:=⟨[false],1,(.cons (.ret (.and (.cmp .eq (.ix (.nm 0) (.int 0)) (.str "set")) (.cmp .gt (.ix (.nm 0) (.int 2)) (.gc 0)))) .nil)⟩
def gj:Fn:=⟨[false],1,(.cons (.ret (.comp 2 [] (.enm (.nm 0)) (.tp [0,1]) (.some (.call 1 (.cons (.nm 1) .nil))) (.nm 0))) .nil)⟩
def jQ:Fn:=⟨[false],1,(.cons (.ret (.and (.cmp .ne (.ix (.nm 0) (.int 0)) (.str "go")) (.cmp .ne (.ix (.nm 0) (.int 0)) (.str "stop")))) .nil)⟩
def dW:Fn:=⟨[false,false,false],3,(.cons (.ret (.ife (.or (.call 1 (.cons (.ix (.nm 0) (.nm 2)) .nil)) (.cmp .inn (.nm 2) (.nm 1))) (.int 2) (.int 1))) .nil)⟩
def eO:Fn:=⟨[false,false],2,(.cons (.ret (.or (.cmp .eq (.nm 1) (.int 0)) (.call 3 (.cons (.ix (.nm 0) (.bop .sub (.nm 1) (.int 1))) .nil)))) .nil)⟩
def cR:Fn:=⟨[false,false,false],3,(.cons (.iff (.call 5 (.cons (.nm 0) (.cons (.nm 1) .nil))) (.cons (.aug 2 .add (.gc 1)) .nil) .nil) (.cons (.ret (.bop .sub (.bop .add (.nm 2) (.int 2)) (.bop .mod (.nm 2) (.int 2)))) .nil))⟩
def F_placed:Fn:=⟨[false,false,false],8,(.cons (.sdz 3 2 [] (.seq (.nm 2))) (.cons (.set 4 (.lst .nil)) (.cons (.set 5 (.lst .nil)) (.cons (.set 6 (.int 0)) (.cons (.fr (.nm 7) (.rg1 (.bop .add (.blt .len (.cons (.nm 0) .nil)) (.int 1))) (.cons (.iff (.din false (.nm 7) 3 []) (.cons (.app 5 (.call 6 (.cons (.nm 0) (.cons (.nm 7) (.cons (.nm 6) .nil))))) (.cons (.set 6 (.bop .add (.ix (.nm 5) (.neg (.int 1))) (.bop .mul (.gc 2) (.pg 3 [.key 7])))) .nil)) .nil) (.cons (.iff (.cmp .lt (.nm 7) (.blt .len (.cons (.nm 0) .nil))) (.cons (.app 4 (.nm 6)) (.cons (.aug 6 .add (.call 4 (.cons (.nm 0) (.cons (.nm 1) (.cons (.nm 7) .nil))))) .nil)) .nil) .nil))) (.cons (.ret (.tup (.cons (.nm 4) (.cons (.nm 5) (.cons (.nm 6) .nil))))) .nil))))))⟩
def gk:Fn:=⟨[false,false,false,false],4,(.cons (.ret (.cmp .gt (.bop .sub (.ix (.nm 0) (.nm 3)) (.ix (.nm 0) (.nm 2))) (.bop .add (.ix (.nm 1) (.int 0)) (.ix (.nm 1) (.int 1))))) .nil)⟩
def eB:Fn:=⟨[false,false,false],8,(.cons (.asg (.tp [3,4,5]) (.call 7 (.cons (.nm 0) (.cons (.nm 1) (.cons (.lst .nil) .nil))))) (.cons (.set 6 (.lst .nil)) (.cons (.fr (.nm 7) (.seq (.call 2 (.cons (.nm 0) .nil))) (.cons (.iff (.or (.not (.nm 6)) (.call 8 (.cons (.nm 3) (.cons (.nm 2) (.cons (.ix (.nm 6) (.neg (.int 1))) (.cons (.nm 7) .nil)))))) (.cons (.app 6 (.nm 7)) .nil) .nil) .nil)) (.cons (.ret (.nm 6)) .nil))))⟩
def dE:Fn:=⟨[false,false,false,false],8,(.cons (.iff (.not (.isi .list (.nm 3))) (.cons (.ret (.bl false)) .nil) .nil) (.cons (.set 4 (.call 2 (.cons (.nm 0) .nil))) (.cons (.iff (.not (.blt .all (.cons (.comp 1 [4,0] (.seq (.nm 3)) (.nm 0) .none (.and (.call 0 (.cons (.nm 0) (.cons (.blt .len (.cons (.nm 2) .nil)) .nil))) (.cmp .inn (.nm 0) (.nm 1)))) .nil))) (.cons (.ret (.bl false)) .nil) .nil) (.cons (.asg (.tp [5,6,7]) (.call 7 (.cons (.nm 0) (.cons (.nm 1) (.cons (.lst .nil) .nil))))) (.cons (.ret (.blt .all (.cons (.comp 2 [5,2] (.zip (.nm 3) (.sll (.nm 3) (.some (.int 1)) .none)) (.tp [0,1]) .none (.call 8 (.cons (.nm 2) (.cons (.nm 3) (.cons (.nm 0) (.cons (.nm 1) .nil)))))) .nil))) .nil)))))⟩
def cF:Fn:=⟨[true,false,false,false],4,(.cons (.stf 0 "Going" "rows" (.nm 1)) (.cons (.stf 0 "Going" "longs" (.nm 2)) (.cons (.stf 0 "Going" "reach" (.nm 3)) (.cons (.stf 0 "Going" "place" (.int 0)) (.cons (.stf 0 "Going" "gaps" (.lst .nil)) (.cons (.stf 0 "Going" "words" (.lst .nil)) (.cons (.stf 0 "Going" "begin" (.int 0)) (.cons (.stf 0 "Going" "uses" (.dnew)) (.cons (.stf 0 "Going" "waiting" (.lst .nil)) .nil)))))))))⟩
def bo:Fn:=⟨[true,false],5,(.cons (.iff (.not (.pt 0 [.fld "Going" "waiting"])) (.cons (.ret (.bl false)) .nil) .nil) (.cons (.iff (.cmp .eq (.nm 1) (.blt .len (.cons (.pg 0 [.fld "Going" "rows"]) .nil))) (.cons (.ret (.bl true)) .nil) .nil) (.cons (.set 2 (.bop .add (.pg 0 [.fld "Going" "place"]) (.call 4 (.cons (.pg 0 [.fld "Going" "rows"]) (.cons (.pg 0 [.fld "Going" "longs"]) (.cons (.nm 1) .nil)))))) (.cons (.asg (.tp [3,4]) (.pg 0 [.ix (0),.fld "Going" "waiting"])) (.cons (.ret (.cmp .gt (.bop .sub (.call 6 (.cons (.pg 0 [.fld "Going" "rows"]) (.cons (.bop .add (.nm 1) (.int 1)) (.cons (.nm 2) .nil)))) (.nm 4)) (.ix (.pg 0 [.fld "Going" "reach"]) (.int 1)))) .nil)))))⟩
def F_Going_lay:Fn:=⟨[true,false],5,(.cons (.set 2 (.lst .nil)) (.cons (.fr (.tp [3,4]) (.seq (.pf 0 [.fld "Going" "waiting"])) (.cons (.std 0 [.fld "Going" "uses"] 3 (.pl 0 [.fld "Going" "gaps"])) (.cons (.iff (.cmp .nin (.ix (.ix (.pg 0 [.fld "Going" "rows"]) (.nm 3)) (.int 2)) (.nm 2)) (.cons (.app 2 (.ix (.ix (.pg 0 [.fld "Going" "rows"]) (.nm 3)) (.int 2))) .nil) .nil) .nil))) (.cons (.apd 0 [.fld "Going" "gaps"] (.nm 1)) (.ali 0 [.fld "Going" "words"] 2 (.cons (.stf 0 "Going" "begin" (.call 6 (.cons (.pg 0 [.fld "Going" "rows"]) (.cons (.nm 1) (.cons (.pg 0 [.fld "Going" "place"]) .nil))))) (.cons (.stf 0 "Going" "place" (.bop .add (.pg 0 [.fld "Going" "begin"]) (.bop .mul (.gc 2) (.blt .len (.cons (.nm 2) .nil))))) (.cons (.stf 0 "Going" "waiting" (.lst .nil)) .nil)))))))⟩
def bx:Fn:=⟨[true,false],2,(.cons (.iff (.or (.not (.pt 0 [.fld "Going" "words"])) (.pin true (.nm 1) 0 [.ix (-1),.fld "Going" "words"])) (.cons (.ret (.bl false)) .nil) .nil) (.cons (.ret (.cmp .le (.bop .sub (.pg 0 [.fld "Going" "place"]) (.pg 0 [.fld "Going" "begin"])) (.ix (.pg 0 [.fld "Going" "reach"]) (.int 0)))) .nil))⟩
def aW:Fn:=⟨[true,false],2,(.cons (.iff (.or (.not (.pt 0 [.fld "Going" "words"])) (.or (.pt 0 [.fld "Going" "waiting"]) (.pin false (.nm 1) 0 [.ix (-1),.fld "Going" "words"]))) (.cons (.ret (.bl false)) .nil) .nil) (.cons (.ret (.cmp .le (.bop .sub (.bop .add (.pg 0 [.fld "Going" "place"]) (.gc 2)) (.pg 0 [.fld "Going" "begin"])) (.ix (.pg 0 [.fld "Going" "reach"]) (.int 0)))) .nil))⟩
def bp:Fn:=⟨[true,false],3,(.cons (.set 2 (.ix (.ix (.pg 0 [.fld "Going" "rows"]) (.nm 1)) (.int 2))) (.cons (.iff (.meth "Going" "may_put" 15 0 (.cons (.nm 2) .nil)) (.cons (.apd 0 [.ix (-1),.fld "Going" "words"] (.nm 2)) (.cons (.agf 0 "Going" "place" .add (.gc 2)) .nil)) .nil) (.cons (.iff (.meth "Going" "finds" 14 0 (.cons (.nm 2) .nil)) (.cons (.std 0 [.fld "Going" "uses"] 1 (.bop .sub (.pl 0 [.fld "Going" "gaps"]) (.int 1))) .nil) (.cons (.apd 0 [.fld "Going" "waiting"] (.tup (.cons (.nm 1) (.cons (.pg 0 [.fld "Going" "place"]) .nil)))) .nil)) .nil)))⟩
def bz:Fn:=⟨[true,false],2,(.cons (.iff (.meth "Going" "is_due" 12 0 (.cons (.nm 1) .nil)) (.cons (.ex (.meth "Going" "lay" 13 0 (.cons (.nm 1) .nil))) .nil) .nil) (.cons (.iff (.cmp .lt (.nm 1) (.blt .len (.cons (.pg 0 [.fld "Going" "rows"]) .nil))) (.cons (.iff (.call 1 (.cons (.ix (.pg 0 [.fld "Going" "rows"]) (.nm 1)) .nil)) (.cons (.ex (.meth "Going" "come" 16 0 (.cons (.nm 1) .nil))) .nil) .nil) (.cons (.agf 0 "Going" "place" .add (.call 4 (.cons (.pg 0 [.fld "Going" "rows"]) (.cons (.pg 0 [.fld "Going" "longs"]) (.cons (.nm 1) .nil))))) .nil)) .nil) .nil))⟩
def fh:Fn:=⟨[true],2,(.cons (.set 1 (.comp 2 [] (.zip (.pf 0 [.fld "Going" "gaps"]) (.pf 0 [.fld "Going" "words"])) (.tp [0,1]) .none (.tup (.cons (.nm 0) (.cons (.bnw .tuple (.nm 1)) .nil))))) (.cons (.ret (.tup (.cons (.nm 1) (.cons (.comp 1 [0] (.seq (.call 2 (.cons (.pg 0 [.fld "Going" "rows"]) .nil))) (.nm 0) .none (.pg 1 [.key 0,.fld "Going" "uses"])) .nil)))) .nil))⟩
def gm:Fn:=⟨[false,false,false],5,(.cons (.set 3 (.make "Going" 11 (.cons (.nm 0) (.cons (.nm 1) (.cons (.nm 2) .nil))))) (.cons (.fr (.nm 4) (.rg1 (.bop .add (.blt .len (.cons (.nm 0) .nil)) (.int 1))) (.cons (.ex (.meth "Going" "cross" 17 3 (.cons (.nm 4) .nil))) .nil)) (.cons (.ret (.meth "Going" "plan" 18 3 .nil)) .nil)))⟩
def fW:Fn:=⟨[false,false],2,(.cons (.ret (.ife (.cmp .lt (.nm 1) (.blt .len (.cons (.nm 0) .nil))) (.ix (.nm 0) (.nm 1)) (.int 0))) .nil)⟩
def tE:Fn:=⟨[false,false],3,(.cons (.set 2 (.call 20 (.cons (.nm 0) (.cons (.nm 1) .nil)))) (.cons (.ret (.lst (.cons (.bop .mul (.blt .abs (.cons (.nm 2) .nil)) (.blt .int (.cons (.cmp .ge (.blt .abs (.cons (.nm 2) .nil)) (.bop .pow (.int 10) (.int 18))) .nil))) (.cons (.bop .mod (.bop .mul (.bop .add (.bop .add (.bop .mod (.nm 2) (.int 2147483647)) (.bop .mul (.int 7121) (.nm 1))) (.int 43)) (.int 48271)) (.int 2147483629)) (.cons (.int 0) .nil))))) .nil))⟩
def mB:Fn:=⟨[true,false],4,(.cons (.iff (.cmp .gt (.ix (.nm 0) (.int 0)) (.int 0)) (.cons (.set 2 (.bop .mod (.ix (.nm 0) (.int 0)) (.nm 1))) (.cons (.sti 0 (.int 0) (.bop .fdiv (.ix (.nm 0) (.int 0)) (.nm 1))) (.cons (.ret (.nm 2)) .nil))) .nil) (.cons (.sti 0 (.int 2) (.bop .add (.ix (.nm 0) (.int 2)) (.int 1))) (.cons (.set 3 (.bop .mod (.bop .mul (.bop .add (.ix (.nm 0) (.int 1)) (.bop .mul (.int 39373) (.ix (.nm 0) (.int 2)))) (.bop .add (.int 48271) (.ix (.nm 0) (.int 2)))) (.int 2147483647))) (.cons (.sti 0 (.int 1) (.bop .mod (.bop .add (.bop .mul (.nm 3) (.bop .add (.bop .mod (.nm 3) (.int 40009)) (.int 7))) (.ix (.nm 0) (.int 2))) (.int 2147483629))) (.cons (.ret (.bop .mod (.bop .fdiv (.bop .mod (.bop .mul (.ix (.nm 0) (.int 1)) (.bop .add (.bop .mod (.ix (.nm 0) (.int 1)) (.int 1009)) (.int 3))) (.int 998244353)) (.int 7)) (.nm 1))) .nil)))))⟩
def oi:Fn:=⟨[true],3,(.cons (.set 1 (.call 22 (.cons (.nm 0) (.cons (.int 4) .nil)))) (.cons (.set 2 (.bop .add (.int 100) (.call 22 (.cons (.nm 0) (.cons (.int 99999900) .nil))))) (.cons (.ret (.ix (.lst (.cons (.ix (.lst (.cons (.int 100) (.cons (.int 101) (.cons (.int 12345) (.cons (.int 10000) (.cons (.int 9999) .nil)))))) (.call 22 (.cons (.nm 0) (.cons (.int 5) .nil)))) (.cons (.bop .add (.int 100) (.call 22 (.cons (.nm 0) (.cons (.int 6) .nil)))) (.cons (.nm 2) (.cons (.int 99999999) .nil))))) (.nm 1))) .nil)))⟩
def F_rows:Fn:=⟨[true],11,(.cons (.set 1 (.ife (.cmp .eq (.call 22 (.cons (.nm 0) (.cons (.int 8) .nil))) (.int 0)) (.bop .add (.int 20) (.call 22 (.cons (.nm 0) (.cons (.int 41) .nil)))) (.call 22 (.cons (.nm 0) (.cons (.int 11) .nil))))) (.cons (.set 2 (.ix (.lst (.cons (.int 2) (.cons (.int 5) (.cons (.int 9) .nil)))) (.call 22 (.cons (.nm 0) (.cons (.int 3) .nil))))) (.cons (.set 3 (.lst .nil)) (.cons (.fr (.nm 4) (.rg1 (.nm 1)) (.cons (.par [5,6] (.cons (.call 22 (.cons (.nm 0) (.cons (.int 10) .nil))) (.cons (.call 22 (.cons (.nm 0) (.cons (.int 5) .nil))) .nil))) (.cons (.iff (.cmp .lt (.nm 5) (.nm 2)) (.cons (.app 3 (.tup (.cons (.str "set") (.cons (.nm 6) (.cons (.call 23 (.cons (.nm 0) .nil)) .nil))))) (.cons (.cont) .nil)) .nil) (.cons (.set 5 (.call 22 (.cons (.nm 0) (.cons (.int 9) .nil)))) (.cons (.par [7,8] (.cons (.call 22 (.cons (.nm 0) (.cons (.int 5) .nil))) (.cons (.call 22 (.cons (.nm 0) (.cons (.bop .add (.nm 1) (.int 1)) .nil))) .nil))) (.cons (.set 9 (.blt .max (.cons (.int 0) (.cons (.blt .min (.cons (.nm 1) (.cons (.bop .sub (.bop .add (.nm 4) (.call 22 (.cons (.nm 0) (.cons (.int 7) .nil)))) (.int 2)) .nil))) .nil)))) (.cons (.set 10 (.lst (.cons (.tup (.cons (.str "set") (.cons (.nm 6) (.cons (.call 22 (.cons (.nm 0) (.cons (.int 100) .nil))) .nil)))) (.cons (.tup (.cons (.str "sum") (.cons (.nm 6) (.cons (.nm 7) .nil)))) (.cons (.tup (.cons (.str "less") (.cons (.nm 6) (.cons (.nm 7) .nil)))) (.cons (.tup (.cons (.str "tell") (.cons (.nm 6) .nil))) (.cons (.tup (.cons (.str "go") (.cons (.nm 9) .nil))) .nil))))))) (.cons (.set 10 (.cat (.nm 10) (.lst (.cons (.tup (.cons (.str "nil") (.cons (.nm 6) (.cons (.nm 9) .nil)))) (.cons (.tup (.cons (.str "nil") (.cons (.nm 6) (.cons (.nm 8) .nil)))) (.cons (.tup (.cons (.str "tell") (.cons (.nm 6) .nil))) (.cons (.ix (.lst (.cons (.tup (.cons (.str "go") (.cons (.nm 8) .nil))) (.cons (.tup (.cons (.str "stop") .nil)) .nil))) (.call 22 (.cons (.nm 0) (.cons (.int 2) .nil)))) .nil))))))) (.cons (.app 3 (.ix (.nm 10) (.nm 5))) .nil))))))))) (.cons (.ret (.nm 3)) .nil)))))⟩
def oj:Fn:=⟨[true,false],4,(.cons (.set 2 (.call 22 (.cons (.nm 0) (.cons (.int 3) .nil)))) (.cons (.set 3 (.comp 2 [] (.enm (.nm 1)) (.tp [0,1]) (.some (.cmp .inn (.ix (.nm 1) (.int 0)) (.tup (.cons (.str "go") (.cons (.str "nil") .nil))))) (.nm 0))) (.cons (.ret (.comp 1 [2,0] (.seq (.nm 3)) (.nm 0) (.some (.ix (.lst (.cons (.bl false) (.cons (.cmp .eq (.call 22 (.cons (.nm 2) (.cons (.int 2) .nil))) (.int 0)) (.cons (.bl true) .nil)))) (.nm 1))) (.nm 0))) .nil)))⟩
def om:Fn:=⟨[true],3,(.cons (.set 1 (.bop .sub (.int 4999) (.bop .mul (.call 22 (.cons (.nm 0) (.cons (.int 2) .nil))) (.call 22 (.cons (.nm 0) (.cons (.int 4990) .nil)))))) (.cons (.set 2 (.ix (.lst (.cons (.int 0) (.cons (.bop .add (.int 1) (.call 22 (.cons (.nm 0) (.cons (.int 12) .nil)))) (.cons (.call 22 (.cons (.nm 0) (.cons (.int 80) .nil))) (.cons (.nm 1) .nil))))) (.call 22 (.cons (.nm 0) (.cons (.int 4) .nil))))) (.cons (.ret (.tup (.cons (.nm 2) (.cons (.ix (.lst (.cons (.int 6) (.cons (.bop .add (.int 7) (.call 22 (.cons (.nm 0) (.cons (.int 12) .nil)))) (.cons (.bop .add (.int 6) (.call 22 (.cons (.nm 0) (.cons (.int 80) .nil)))) (.cons (.nm 1) .nil))))) (.call 22 (.cons (.nm 0) (.cons (.int 4) .nil)))) .nil)))) .nil)))⟩
def fj:Fn:=⟨[false],1,(.cons (.ret (.and (.cmp .eq (.ix (.nm 0) (.int 0)) (.str "set")) (.cmp .gt (.ix (.nm 0) (.int 2)) (.int 99)))) .nil)⟩
def jR:Fn:=⟨[false,false,false],3,(.cons (.ret (.ife (.or (.call 27 (.cons (.ix (.nm 0) (.nm 2)) .nil)) (.cmp .inn (.nm 2) (.nm 1))) (.int 2) (.int 1))) .nil)⟩
def ir:Fn:=⟨[false,false,false],9,(.cons (.par [3,4,5] (.cons (.lst .nil) (.cons (.lst .nil) (.cons (.int 0) .nil)))) (.cons (.fr (.nm 6) (.rg1 (.bop .add (.blt .len (.cons (.nm 0) .nil)) (.int 1))) (.cons (.fr (.tp [7,8]) (.seq (.nm 2)) (.cons (.iff (.cmp .eq (.nm 7) (.nm 6)) (.cons (.set 5 (.bop .add (.nm 5) (.bop .mul (.int 2) (.blt .int (.cons (.or (.cmp .eq (.nm 6) (.int 0)) (.cmp .nin (.ix (.ix (.nm 0) (.bop .sub (.nm 6) (.int 1))) (.int 0)) (.tup (.cons (.str "go") (.cons (.str "stop") .nil))))) .nil))))) (.cons (.set 5 (.bop .sub (.bop .add (.nm 5) (.int 2)) (.bop .mod (.nm 5) (.int 2)))) (.cons (.app 4 (.nm 5)) (.cons (.set 5 (.bop .add (.nm 5) (.bop .mul (.int 2) (.blt .len (.cons (.nm 8) .nil))))) .nil)))) .nil) .nil)) (.cons (.iff (.cmp .lt (.nm 6) (.blt .len (.cons (.nm 0) .nil))) (.cons (.app 3 (.nm 5)) (.cons (.set 5 (.bop .add (.nm 5) (.call 28 (.cons (.nm 0) (.cons (.nm 1) (.cons (.nm 6) .nil)))))) .nil)) .nil) .nil))) (.cons (.ret (.tup (.cons (.nm 3) (.cons (.nm 4) (.cons (.nm 5) .nil))))) .nil)))⟩
def kZ:Fn:=⟨[false,false,false],7,(.cons (.par [3,4] (.cons (.ix (.call 29 (.cons (.nm 0) (.cons (.nm 1) (.cons (.lst .nil) .nil)))) (.int 0)) (.cons (.lst .nil) .nil))) (.cons (.fr (.tp [5,6]) (.enm (.nm 0)) (.cons (.iff (.and (.call 27 (.cons (.nm 6) .nil)) (.or (.cmp .eq (.nm 4) (.lst .nil)) (.cmp .gt (.bop .sub (.ix (.nm 3) (.nm 5)) (.ix (.nm 3) (.ix (.nm 4) (.neg (.int 1))))) (.nm 2)))) (.cons (.app 4 (.nm 5)) .nil) .nil) .nil)) (.cons (.ret (.nm 4)) .nil)))⟩
def F_sparse:Fn:=⟨[true],5,(.cons (.set 1 (.comp 1 [0] (.rg1 (.bop .add (.int 1) (.call 22 (.cons (.nm 0) (.cons (.int 3) .nil))))) (.nm 0) .none (.call 23 (.cons (.nm 1) .nil)))) (.cons (.set 2 (.ix (.lst (.cons (.int 3) (.cons (.int 8) (.cons (.int 20) .nil)))) (.call 22 (.cons (.nm 0) (.cons (.int 3) .nil))))) (.cons (.set 3 (.lst .nil)) (.cons (.fr (.nm 4) (.rg1 (.bop .add (.int 20) (.call 22 (.cons (.nm 0) (.cons (.ix (.lst (.cons (.int 30) (.cons (.int 101) .nil))) (.call 22 (.cons (.nm 0) (.cons (.int 2) .nil)))) .nil))))) (.cons (.iff (.and (.cmp .eq (.call 22 (.cons (.nm 0) (.cons (.nm 2) .nil))) (.int 0)) (.cmp .lt (.blt .len (.cons (.compB 3 1 [] (.nm 0) (.some (.call 27 (.cons (.nm 0) .nil))) (.nm 0)) .nil)) (.int 60))) (.cons (.app 3 (.tup (.cons (.str "set") (.cons (.call 22 (.cons (.nm 0) (.cons (.int 5) .nil))) (.cons (.ix (.nm 1) (.call 22 (.cons (.nm 0) (.cons (.blt .len (.cons (.nm 1) .nil)) .nil)))) .nil))))) .nil) (.cons (.app 3 (.ix (.lst (.cons (.tup (.cons (.str "tell") (.cons (.int 1) .nil))) (.cons (.tup (.cons (.str "nil") (.cons (.int 1) (.cons (.nm 4) .nil)))) (.cons (.tup (.cons (.str "stop") .nil)) (.cons (.tup (.cons (.str "set") (.cons (.int 0) (.cons (.int 99) .nil)))) (.cons (.tup (.cons (.str "go") (.cons (.nm 4) .nil))) .nil)))))) (.call 22 (.cons (.nm 0) (.cons (.int 5) .nil))))) .nil)) .nil)) (.cons (.ret (.nm 3)) .nil)))))⟩
def mC:Fn:=⟨[false,false],2,(.cons (.iff (.isi .seq (.nm 1)) (.cons (.iff (.or (.cmp .ne (.isi .list (.nm 0)) (.isi .list (.nm 1))) (.cmp .ne (.isi .tuple (.nm 0)) (.isi .tuple (.nm 1)))) (.cons (.ret (.bl false)) .nil) .nil) (.cons (.iff (.cmp .ne (.blt .len (.cons (.nm 0) .nil)) (.blt .len (.cons (.nm 1) .nil))) (.cons (.ret (.bl false)) .nil) .nil) (.cons (.ret (.blt .all (.cons (.comp 2 [] (.zip (.nm 0) (.nm 1)) (.tp [0,1]) .none (.call 32 (.cons (.nm 0) (.cons (.nm 1) .nil)))) .nil))) .nil))) .nil) (.cons (.iff (.or (.isn false (.nm 1)) (.isi .str (.nm 1))) (.cons (.ret (.and (.cmp .eq (.nm 0) (.nm 1)) (.cmp .eq (.isi .str (.nm 0)) (.isi .str (.nm 1))))) .nil) .nil) (.cons (.iff (.isi .bool (.nm 1)) (.cons (.ret (.and (.isi .bool (.nm 0)) (.cmp .eq (.nm 0) (.nm 1)))) .nil) .nil) (.cons (.ret (.and (.isi .int (.nm 0)) (.and (.not (.isi .bool (.nm 0))) (.cmp .eq (.nm 0) (.nm 1))))) .nil))))⟩
def mD:Fn:=⟨[true,false,false],9,(.cons (.set 3 (.ix (.call 29 (.cons (.nm 1) (.cons (.nm 2) (.cons (.lst .nil) .nil)))) (.int 0))) (.cons (.set 4 (.comp 2 [3] (.enm (.nm 1)) (.tp [0,1]) (.some (.call 27 (.cons (.nm 1) .nil))) (.ix (.nm 2) (.nm 0)))) (.cons (.iff (.cmp .lt (.blt .len (.cons (.nm 4) .nil)) (.int 2)) (.cons (.ret (.lst (.cons (.tup (.cons (.int 0) (.cons (.int 6) .nil))) .nil))) .nil) .nil) (.cons (.asg (.tp [5,6]) (.comp 1 [4,0] (.rg1 (.int 2)) (.nm 0) .none (.ix (.nm 1) (.call 22 (.cons (.nm 2) (.cons (.blt .len (.cons (.nm 1) .nil)) .nil)))))) (.cons (.set 7 (.blt .mx3 (.cons (.int 7) (.cons (.bop .sub (.nm 5) (.nm 6)) (.cons (.bop .sub (.nm 6) (.nm 5)) .nil))))) (.cons (.set 8 (.call 22 (.cons (.nm 0) (.cons (.bop .sub (.nm 7) (.int 6)) .nil)))) (.cons (.ret (.lst (.cons (.tup (.cons (.nm 8) (.cons (.bop .sub (.nm 7) (.nm 8)) .nil))) (.cons (.tup (.cons (.nm 8) (.cons (.bop .add (.bop .sub (.nm 7) (.nm 8)) (.int 1)) .nil))) (.cons (.tup (.cons (.nm 8) (.cons (.blt .max (.cons (.int 6) (.cons (.bop .sub (.bop .sub (.nm 7) (.nm 8)) (.int 1)) .nil))) .nil))) .nil))))) .nil)))))))⟩
def F_law:Fn:=⟨[false],10,(.cons (.fr (.nm 1) (.rg1 (.bop .add (.int 1) (.blt .min (.cons (.int 8) (.cons (.blt .len (.cons (.nm 0) .nil)) .nil))))) (.cons (.set 2 (.call 21 (.cons (.nm 0) (.cons (.nm 1) .nil)))) (.cons (.fr (.nm 3) (.seq (.tup (.cons (.call 24 (.cons (.nm 2) .nil)) (.cons (.call 31 (.cons (.nm 2) .nil)) .nil)))) (.cons (.set 4 (.call 25 (.cons (.nm 2) (.cons (.nm 3) .nil)))) (.cons (.set 5 (.tup (.cons (.bnw .list (.nm 3)) (.cons (.bnw .list (.nm 4)) .nil)))) (.cons (.fr (.nm 6) (.seq (.cat (.lst (.cons (.call 26 (.cons (.nm 2) .nil)) .nil)) (.call 33 (.cons (.nm 2) (.cons (.nm 3) (.cons (.nm 4) .nil)))))) (.cons (.set 7 (.call 30 (.cons (.nm 3) (.cons (.nm 4) (.cons (.blt .smt (.cons (.nm 6) .nil)) .nil))))) (.cons (.set 8 (.call 9 (.cons (.ix (.nm 5) (.int 0)) (.cons (.ix (.nm 5) (.int 1)) (.cons (.nm 6) .nil))))) (.cons (.iff (.or (.not (.callS 32 (.cons (.nm 8) (.cons (.nm 7) .nil)))) (.cmp .ne (.nm 5) (.tup (.cons (.nm 3) (.cons (.nm 4) .nil))))) (.cons (.ret (.bl false)) .nil) .nil) (.cons (.set 9 (.comp 1 [2] (.seq (.nm 7)) (.nm 0) (.some (.cmp .eq (.call 22 (.cons (.nm 1) (.cons (.int 2) .nil))) (.int 0))) (.nm 0))) (.cons (.iff (.or (.not (.call 10 (.cons (.nm 3) (.cons (.nm 4) (.cons (.nm 6) (.cons (.nm 7) .nil)))))) (.not (.call 10 (.cons (.nm 3) (.cons (.nm 4) (.cons (.nm 6) (.cons (.nm 9) .nil))))))) (.cons (.ret (.bl false)) .nil) .nil) (.cons (.iff (.cmp .lt (.blt .len (.cons (.ix (.call 19 (.cons (.nm 3) (.cons (.nm 4) (.cons (.nm 6) .nil)))) (.int 0)) .nil)) (.blt .len (.cons (.nm 7) .nil))) (.cons (.ret (.bl false)) .nil) .nil) (.cons (.app 8 (.int 0)) (.cons (.iff (.not (.callS 32 (.cons (.call 9 (.cons (.nm 3) (.cons (.nm 4) (.cons (.nm 6) .nil)))) (.cons (.nm 7) .nil)))) (.cons (.ret (.bl false)) .nil) .nil) .nil))))))))) .nil)))) .nil))) (.cons (.ret (.bl true)) .nil))⟩
def cj:Df:=⟨"is_number_below","is_number_below",top 2,["thing","limit"],["thing","limit"],ci⟩
def iu:Df:=⟨"is_great","is_great",top 3,["row"],["row"],iq⟩
def gn:Df:=⟨"greats_of","greats_of",top 4,["rows"],["rows"],gj⟩
def oo:Df:=⟨"falls","falls",top 5,["row"],["row"],jQ⟩
def i4:Df:=⟨"size_of","size_of",top 9,["rows","longs","at"],["rows","longs","at"],dW⟩
def iw:Df:=⟨"has_over","has_over",top 10,["rows","gap"],["rows","gap"],eO⟩
def fq:Df:=⟨"first_word","first_word",top 11,["rows","gap","place"],["rows","gap","place"],cR⟩
def k4:Df:=⟨"placed","placed",top 12,["rows","longs","pools"],["rows","longs","pools","words","places","begins","place","gap"],F_placed⟩
def gp:Df:=⟨"are_apart","are_apart",top 14,["places","reach","one","other"],["places","reach","one","other"],gk⟩
def eC:Df:=⟨"needed_rows","needed_rows",top 15,["rows","longs","reach"],["rows","longs","reach","places","begins","end","needed","at"],eB⟩
def dF:Df:=⟨"shows_needed","shows_needed",top 16,["rows","longs","reach","thing"],["rows","longs","reach","thing","greats","places","begins","end"],dE⟩
def cG:Df:=⟨"__init__","Going.__init__",gi 0 (top 18),["self","rows","longs","reach"],["self","rows","longs","reach"],cF⟩
def dG:Df:=⟨"is_due","Going.is_due",gi 1 (top 18),["self","gap"],["self","gap","behind","first","place"],bo⟩
def gq:Df:=⟨"lay","Going.lay",gi 2 (top 18),["self","gap"],["self","gap","numbers","at","place"],F_Going_lay⟩
def eD:Df:=⟨"finds","Going.finds",gi 3 (top 18),["self","number"],["self","number"],bx⟩
def cX:Df:=⟨"may_put","Going.may_put",gi 4 (top 18),["self","number"],["self","number"],aW⟩
def ft:Df:=⟨"come","Going.come",gi 5 (top 18),["self","at"],["self","at","number"],bp⟩
def eE:Df:=⟨"cross","Going.cross",gi 6 (top 18),["self","gap"],["self","gap"],bz⟩
def fu:Df:=⟨"plan","Going.plan",gi 7 (top 18),["self"],["self","pools"],fh⟩
def gu:Df:=⟨"pools_for","pools_for",top 19,["rows","longs","reach"],["rows","longs","reach","going","gap"],gm⟩
def i5:Df:=⟨"_law_cell_at","_law_cell_at",top 21,["_law_script","_law_k"],["_law_script","_law_k"],fW⟩
def tF:Df:=⟨"_law_tape","_law_tape",top 22,["_law_script","_law_k"],["_law_script","_law_k","_law_cell"],tE⟩
def tG:Df:=⟨"_law_take","_law_take",top 23,["_law_tape_here","_law_many"],["_law_tape_here","_law_many","_law_found","_law_once"],mB⟩
def oq:Df:=⟨"_law_great","_law_great",top 24,["_law_tape_here"],["_law_tape_here","_law_way","_law_any_one"],oi⟩
def tH:Df:=⟨"_law_rows","_law_rows",top 25,["_law_tape_here"],["_law_tape_here","_law_many","_law_share","_law_made_rows","_law_number","_law_way","_law_r","_law_s","_law_t","_law_near_here","_law_some"],F_rows⟩
def ou:Df:=⟨"_law_longs","_law_longs",top 26,["_law_tape_here","_law_rows_here"],["_law_tape_here","_law_rows_here","_law_share","_law_jumps"],oj⟩
def ow:Df:=⟨"_law_reach","_law_reach",top 27,["_law_tape_here"],["_law_tape_here","_law_any_one","_law_back"],om⟩
def fv:Df:=⟨"_law_is_great","_law_is_great",top 28,["_law_row"],["_law_row"],fj⟩
def tI:Df:=⟨"_law_size","_law_size",top 29,["_law_rows_here","_law_longs_here","_law_k"],["_law_rows_here","_law_longs_here","_law_k"],jR⟩
def iy:Df:=⟨"_law_placed","_law_placed",top 30,["_law_rows_here","_law_longs_here","_law_pools"],["_law_rows_here","_law_longs_here","_law_pools","_law_places","_law_begins","_law_place","_law_gap","_law_at","_law_numbers"],ir⟩
def k5:Df:=⟨"_law_needed","_law_needed",top 31,["_law_rows_here","_law_longs_here","_law_far"],["_law_rows_here","_law_longs_here","_law_far","_law_places","_law_found","_law_k","_law_row"],kZ⟩
def k6:Df:=⟨"_law_sparse","_law_sparse",top 32,["_law_tape_here"],["_law_tape_here","_law_numbers","_law_share","_law_found","_law_k"],F_sparse⟩
def tJ:Df:=⟨"_law_same","_law_same",top 33,["_law_found","_law_due"],["_law_found","_law_due"],mC⟩
def tK:Df:=⟨"_law_near","_law_near",top 34,["_law_tape_here","_law_rows_here","_law_longs_here"],["_law_tape_here","_law_rows_here","_law_longs_here","_law_places","_law_spots","_law_one","_law_other","_law_far","_law_back"],mD⟩
def D_law:Df:=⟨"law","law",top 35,["_law_script"],["_law_script","_law_k","_law_tape_here","_law_rows_here","_law_longs_here","_law_handed","_law_reach_here","_law_due","_law_found","_law_part"],F_law⟩
def pl:Pl where
 ds:=[(cj,.fn),(iu,.fn),(gn,.fn),(oo,.fn),(i4,.fn),(iw,.fn),(fq,.fn),(k4,.fn),(gp,.fn),(eC,.fn),(dF,.fn),(cG,.ini "Going"),(dG,.me "Going"),(gq,.me "Going"),(eD,.me "Going"),(cX,.me "Going"),(ft,.me "Going"),(eE,.me "Going"),(fu,.me "Going"),(gu,.fn),(i5,.fn),(tF,.fn),(tG,.fn),(oq,.fn),(tH,.fn),(ou,.fn),(ow,.fn),(fv,.fn),(tI,.fn),(iy,.fn),(k5,.fn),(k6,.fn),(tJ,.fn),(tK,.fn),(D_law,.fn)]
 cs:=[("GREATEST_SMALL",.int 99),("OVER_CELLS",.int 2),("WORD_CELLS",.int 2)]
 nog:=["abs","all","bool","enumerate","int","isinstance","len","list","max","min","range","str","sum","tuple","zip"]
 fld:=[("Going","begin"),("Going","gaps"),("Going","longs"),("Going","place"),("Going","reach"),("Going","rows"),("Going","uses"),("Going","waiting"),("Going","words")]
abbrev CV:Nat:=34
theorem CW:(pl.ds.all fun z=>wo pl.tb z.1)=true:=by decide +kernel
abbrev It(i:Int):OD:=.fz (.int i)
abbrev Tp(a b c:Int):OD:=.lst [It a,It b,It c]
structure TpOk (b c:Int)(n:Nat):Prop where
 b0:0≤b
 b1:b < 2147483629
 c0:0≤c
 c1:c≤n
theorem eF{i j:Int}(h:(-(2 ^ 64) < i/\i < 2 ^ 64)\/(-(2 ^ 64) < j/\j < 2 ^ 64)):vE .mul (.int i) (.int j)=some (.int (i * j)):=bs rfl (bs rfl (bs (bg h rfl) rfl))
theorem cY{i j:Int}(h:0 < j):vE .mod (.int i) (.int j)=some (.int (i % j)):=bs rfl (bs rfl (bs (bg h rfl) rfl))
theorem xB{i j:Int}(h:0 < j/\j < 1073741824):vE .fdiv (.int i) (.int j)=some (.int (i / j)):=bs rfl (bs rfl (bs (bg h rfl) rfl))
theorem CY{x m:Int}(h0:0 < m)(h:m≤2 ^ 64):-(2 ^ 64) < x % m/\x % m < 2 ^ 64:=by
 have h1:=abf x (show m≠0 by omega)
 have h2:=abg x h0
 omega
theorem up{m a k b:Nat}(h:m≤a)(e:Nat.ble (a + k) b=true):m + k≤b:=aan (abZ h k) (acj e)
theorem upA{m k b:Nat}(e:Nat.ble k b=true):m + k≤m + b:=aa4 (acj e) m
theorem aq{n m:Nat}{a b c many:Int}(h:TpOk b c m)(hm:m≤1000000)(h0:0 < many)(h1:many < 1073741824):∃x a' b' c',pl.pg.call (n + 1) 22 [Tp a b c,It many]=some (It x,[Tp a' b' c',It many])/\0≤x/\x < many/\TpOk b' c' (m + 1):=by
 have hb:=h.b0
 have hb1:=h.b1
 have hc:=h.c0
 have hc1:=h.c1
 by_cases ha:0 < a
 ·refine⟨a % many,a / many,b,c,?_,abf _ (by omega),abg _ h0,⟨h.b0,h.b1,h.c0,by omega⟩⟩
  refine ag (fn:=mB) (ρ:=[some (Tp (a / many) b c),some (It many),some (It (a % many)),none]) rfl rfl ?_ rfl
  refine az (aR (ax (av rfl rfl rfl rfl (show some (decide (0 < a))=some true by rw[decide_eq_true ha]))) ?_)
  refine ae (aj (ah rfl rfl rfl rfl (cY h0)) rfl rfl rfl) ?_
  refine ae (my (ah rfl rfl rfl rfl (xB ⟨h0,h1⟩)) rfl rfl rfl rfl rfl rfl rfl) rfl
 ·exact⟨_,a,_,c + 1,ag (fn:=mB) rfl rfl (ae (aB (ax (av rfl rfl rfl rfl (show some (decide (0 < a))=some false by rw[decide_eq_false ha]))) rfl) (ae (my rfl rfl rfl rfl rfl rfl rfl rfl) (ae (aj (ah (ah (ah rfl (ah rfl rfl rfl rfl (eF (.inl (by decide)))) rfl rfl rfl) (ah rfl rfl rfl rfl rfl) rfl rfl (eF (.inr (by omega)))) rfl rfl rfl (cY (by decide))) rfl rfl rfl) (ae (my (ah (ah (ah rfl (ah (ah rfl rfl rfl rfl (cY (by decide))) rfl rfl rfl rfl) rfl rfl (eF (.inl (CY (by decide) (by decide))))) rfl rfl rfl rfl) rfl rfl rfl (cY (by decide))) rfl rfl rfl rfl rfl rfl rfl) (az (ak (ah (ah (ah (ah rfl (ah (ah rfl rfl rfl rfl (cY (by decide))) rfl rfl rfl rfl) rfl rfl (eF (.inl (CY (by decide) (by decide))))) rfl rfl rfl (cY (by decide))) rfl rfl rfl (xB (by decide))) rfl rfl rfl (cY h0)) rfl)))))) rfl,abf _ (by omega),abg _ h0,⟨abf _ (by decide),abg _ (by decide),by omega,by omega⟩⟩
theorem z6{n:Nat}{ns:List Int}{k:Nat}:∃x,pl.pg.call (n + 1) 20 [.fz (.list (ns.map PyData.int)),It k]=some (It x,[.fz (.list (ns.map PyData.int)),It k]):=by
 by_cases hk:(k:Int) < ns.length
 ·have hk':k < ns.length:=by omega
  refine⟨ns[k],ag (fn:=fW) rfl rfl (az (ak (iY (ax (av rfl rfl rfl rfl (k:=true) ?_)) (aO rfl rfl rfl (bM (eA (x:=.int ns[k]) ?_)))) rfl)) rfl⟩
  ·show some (decide ((k:Int) < ((ns.map PyData.int).length:Nat)))=some true
   rw[aaa,decide_eq_true hk]
  ·rw[aau,aar hk'];rfl
 ·refine⟨0,ag (fn:=fW) rfl rfl (az (ak (og (ax (av rfl rfl rfl rfl (k:=false) ?_)) rfl) rfl)) rfl⟩
  show some (decide ((k:Int) < ((ns.map PyData.int).length:Nat)))=some false
  rw[aaa,decide_eq_false hk]
theorem z7{n:Nat}{ns:List Int}{k:Nat}(hk:k≤8):∃a b,pl.pg.call (n + 2) 21 [.fz (.list (ns.map PyData.int)),It k]=some (Tp a b 0,[.fz (.list (ns.map PyData.int)),It k])/\TpOk b 0 0:=by
 obtain⟨x,hx⟩:=z6 (n:=n) (ns:=ns) (k:=k)
 refine⟨_,_,ag (fn:=tE) rfl rfl (ae (aj (ab rfl rfl hx rfl) rfl rfl rfl) (az (ak (fg (aa (ah rfl (aJ (aa (av rfl (ah rfl rfl rfl rfl rfl) rfl rfl rfl) af) rfl rfl) rfl rfl (eF (.inr ?_))) (aa (ah (ah (ah (ah (ah rfl rfl rfl rfl (cY (by decide))) (ah rfl rfl rfl rfl (eF (.inl (by decide)))) rfl rfl rfl) rfl rfl rfl rfl) rfl rfl rfl (eF (.inr (by decide)))) rfl rfl rfl (cY (by decide))) (aa rfl af))) rfl rfl) rfl))) rfl,abf _ (by decide),abg _ (by decide),aa5 _,aa5 _⟩
 exact (show ∀q:Bool,-(2 ^ 64) < (if q=true then (1:Int) else 0)/\(if q=true then (1:Int) else 0) < 2 ^ 64 by decide) _
theorem bQ{ks:List Int}{i:Int}(h0:0≤i)(h1:i < ks.length):∃k,k∈ks/\atI (ks.map It) i=some (It k):=by
 obtain⟨x,hx,e⟩:=jP (xs:=ks.map It) h0 (by rw[aaa];exact h1)
 obtain⟨k,hk,rfl⟩:=aaN.mp hx
 exact⟨k,hk,e⟩
theorem TpOk.up{b c:Int}{m m':Nat}(h:TpOk b c m)(hm:m≤m'):TpOk b c m':=⟨h.b0,h.b1,h.c0,by have:=h.c1;omega⟩
theorem ox{n m:Nat}{a b c:Int}(h:TpOk b c m)(hm:m≤900000):∃k a' b' c',pl.pg.call (n + 2) 23 [Tp a b c]=some (It k,[Tp a' b' c'])/\100≤k/\TpOk b' c' (m + 4):=by
 obtain⟨w,a1,b1,c1,e1,w0,w1,t1⟩:=aq (n:=n) (a:=a) (many:=4) h (up (k:=0) hm rfl) (by decide) (by decide)
 obtain⟨x2,a2,b2,c2,e2,x20,_,t2⟩:=aq (n:=n) (a:=a1) (many:=99999900) t1 (up (k:=1) hm rfl) (by decide) (by decide)
 obtain⟨x3,a3,b3,c3,e3,x30,x31,t3⟩:=aq (n:=n) (a:=a2) (many:=5) t2 (up (k:=2) hm rfl) (by decide) (by decide)
 obtain⟨x4,a4,b4,c4,e4,x40,x41,t4⟩:=aq (n:=n) (a:=a3) (many:=6) t3 (up (k:=3) hm rfl) (by decide) (by decide)
 obtain⟨g,hg,eg⟩:=bQ (ks:=[100,101,12345,10000,9999]) x30 x31
 obtain⟨k,hk,ek⟩:=bQ (ks:=[g,100 + x4,100 + x2,99999999]) w0 w1
 refine⟨k,a4,b4,c4,ag (fn:=oi) rfl rfl (ae (aj (ab rfl rfl e1 rfl) rfl rfl rfl) (ae (aj (ah rfl (ab rfl rfl e2 rfl) rfl rfl rfl) rfl rfl rfl) (az (ak (aO (fg (aa (aO rfl (ab rfl rfl e3 rfl) rfl (cy eg)) (aa (ah rfl (ab rfl rfl e4 rfl) rfl rfl rfl) (aa rfl (aa rfl af)))) rfl rfl) rfl rfl (cy ek)) rfl)))) rfl,?_,t4⟩
 have hg':100≤g:=(show ∀x∈[100,101,12345,10000,9999],(100:Int)≤x by decide) g hg
 rcases aac.mp hk with rfl | hk
 ·exact hg'
 rcases aac.mp hk with rfl | hk
 ·exact ack x40
 rcases aac.mp hk with rfl | hk
 ·exact ack x20
 rw[aat.mp hk]
 decide
theorem wu{n m:Nat}{a b c:Int}(h:TpOk b c m)(hm:m≤900000):∃r0 r1 a' b' c',pl.pg.call (n + 2) 26 [Tp a b c]=some (.fz (.tuple [.int r0,.int r1]),[Tp a' b' c'])/\TpOk b' c' (m + 8)/\6≤r1/\r1≤10000/\0≤r0/\r0≤10000:=by
 obtain⟨x1,a1,b1,c1,e1,x10,x11,t1⟩:=aq (n:=n) (a:=a) (many:=2) h (up (k:=0) hm rfl) (by decide) (by decide)
 obtain⟨x2,a2,b2,c2,e2,x20,x21,t2⟩:=aq (n:=n) (a:=a1) (many:=4990) t1 (up (k:=1) hm rfl) (by decide) (by decide)
 obtain⟨x3,a3,b3,c3,e3,x30,x31,t3⟩:=aq (n:=n) (a:=a2) (many:=12) t2 (up (k:=2) hm rfl) (by decide) (by decide)
 obtain⟨x4,a4,b4,c4,e4,x40,x41,t4⟩:=aq (n:=n) (a:=a3) (many:=80) t3 (up (k:=3) hm rfl) (by decide) (by decide)
 obtain⟨x5,a5,b5,c5,e5,x50,x51,t5⟩:=aq (n:=n) (a:=a4) (many:=4) t4 (up (k:=4) hm rfl) (by decide) (by decide)
 obtain⟨x6,a6,b6,c6,e6,x60,x61,t6⟩:=aq (n:=n) (a:=a5) (many:=12) t5 (up (k:=5) hm rfl) (by decide) (by decide)
 obtain⟨x7,a7,b7,c7,e7,x70,x71,t7⟩:=aq (n:=n) (a:=a6) (many:=80) t6 (up (k:=6) hm rfl) (by decide) (by decide)
 obtain⟨x8,a8,b8,c8,e8,x80,x81,t8⟩:=aq (n:=n) (a:=a7) (many:=4) t7 (up (k:=7) hm rfl) (by decide) (by decide)
 obtain⟨g,hg,eg⟩:=bQ (ks:=[0,1 + x3,x4,4999 - x1 * x2]) x50 x51
 obtain⟨k,hk,ek⟩:=bQ (ks:=[6,7 + x6,6 + x7,4999 - x1 * x2]) x80 x81
 have hx:x1=0\/x1=1:=by omega
 have hm0:0≤x1 * x2/\x1 * x2 < 4990:=by
  rcases hx with rfl | rfl
  ·rw[Int.zero_mul];omega
  ·rw[Int.one_mul];omega
 have h6:6≤k/\k≤10000:=by
  rcases aac.mp hk with rfl | hk
  ·omega
  rcases aac.mp hk with rfl | hk
  ·omega
  rcases aac.mp hk with rfl | hk
  ·omega
  rw[aat.mp hk];omega
 have h0:0≤g/\g≤10000:=by
  rcases aac.mp hg with rfl | hg
  ·omega
  rcases aac.mp hg with rfl | hg
  ·omega
  rcases aac.mp hg with rfl | hg
  ·omega
  rw[aat.mp hg];omega
 exact⟨g,k,a8,b8,c8,ag (fn:=om) rfl rfl (ae (aj (ρ3:=[some (Tp a2 b2 c2),some (It (4999 - x1 * x2)),none]) (ah rfl (ah (ab (ρ3:=[some (Tp a1 b1 c1),none,none]) rfl rfl e1 rfl) (ab (ρ3:=[some (Tp a2 b2 c2),none,none]) rfl rfl e2 rfl) rfl rfl (eF (.inl (by omega)))) rfl rfl rfl) rfl rfl rfl) (ae (aj (ρ3:=[some (Tp a5 b5 c5),some (It (4999 - x1 * x2)),some (It g)]) (aO (fg (zs:=[It 0,It (1 + x3),It x4,It (4999 - x1 * x2)]) (aa rfl (aa (ah rfl (ab (ρ3:=[some (Tp a3 b3 c3),some (It (4999 - x1 * x2)),none]) rfl rfl e3 rfl) rfl rfl rfl) (aa (ab (ρ3:=[some (Tp a4 b4 c4),some (It (4999 - x1 * x2)),none]) rfl rfl e4 rfl) (aa rfl af)))) rfl rfl) (ab (ρ3:=[some (Tp a5 b5 c5),some (It (4999 - x1 * x2)),none]) rfl rfl e5 rfl) rfl (cy eg)) rfl rfl rfl) (az (ak (dB (aa rfl (aa (aO (fg (zs:=[It 6,It (7 + x6),It (6 + x7),It (4999 - x1 * x2)]) (aa rfl (aa (ah rfl (ab (ρ3:=[some (Tp a6 b6 c6),some (It (4999 - x1 * x2)),some (It g)]) rfl rfl e6 rfl) rfl rfl rfl) (aa (ah rfl (ab (ρ3:=[some (Tp a7 b7 c7),some (It (4999 - x1 * x2)),some (It g)]) rfl rfl e7 rfl) rfl rfl rfl) (aa rfl af)))) rfl rfl) (ab (ρ3:=[some (Tp a8 b8 c8),some (It (4999 - x1 * x2)),some (It g)]) rfl rfl e8 rfl) rfl (cy ek)) af)) rfl rfl rfl) rfl)))) rfl,t8,h6.1,h6.2,h0.1,h0.2⟩
inductive R where | st (r k:Int) | ot (w:Str) (xs:List Int) (h:w≠"set"/\PyData.strOk w=true)
abbrev mF(a b:Int):R:=.ot "sum" [a,b] (by decide +kernel)
abbrev iz(a b:Int):R:=.ot "less" [a,b] (by decide +kernel)
abbrev cZ(a:Int):R:=.ot "tell" [a] (by decide +kernel)
abbrev oGo(a:Int):R:=.ot "go" [a] (by decide +kernel)
abbrev jS(a b:Int):R:=.ot "nil" [a,b] (by decide +kernel)
abbrev xC:R:=.ot "stop" [] (by decide +kernel)
def R.d:R->PyData | .st r k=>.tuple [.str "set",.int r,.int k] | .ot w xs _=>.tuple (.str w::xs.map PyData.int)
abbrev Rs(rs:List R):OD:=.lst (rs.map fun r=>.fz r.d)
theorem tL{rs:List R}{i:Int}(h0:0≤i)(h1:i < rs.length):∃r,r∈rs/\atI (rs.map fun r=>OD.fz r.d) i=some (.fz r.d):=by
 obtain⟨x,hx,e⟩:=jP (xs:=rs.map fun r=>OD.fz r.d) h0 (by rw[aaa];exact h1)
 obtain⟨r,hr,rfl⟩:=aaN.mp hx
 exact⟨r,hr,e⟩
theorem ww{ρ:DEnv}{j:Nat}{rs:List R}{i:Int}{r:R}(h:ρ[j]?.join=some (Rs rs))(h1:atI (rs.map fun r=>OD.fz r.d) i=some (.fz r.d)):bD ρ (.rf j) i=some (.fz r.d,ρ):=by
 obtain⟨k,e1,e2⟩:=bnd h1
 have e3:itemS (Rs rs) i=some (r.d,Rs rs):=by
  simp only[Rs,itemS,e1,e2,OD.dat]
  rw[bC e2]
 simp only[bD,h,e3]
 rw[set_self (join_some h)]
theorem jT{rs:List R}{r:R}:Rs (rs++[r])=.lst ((rs.map fun r=>OD.fz r.d)++[.fz r.d]):=by rw[Rs,aax];rfl
theorem qf{n m:Nat}{a b c many share i:Int}{rs:List R}{o4 o5 o6 o7 o8 o9 o10:Option OD}(h:TpOk b c m)(hm:m≤100000)(hl:rs.length≤1000)(m0:0≤many)(m1:many≤100) :
  ∃fl ρ',((bb (.nm 4) (.fz (.int i)) [some (Tp a b c),some (It many),some (It share),some (Rs rs),o4,o5,o6,o7,o8,o9,o10]).bind fun ρ1=>aN (pl.pg.ct (n + 2)) (match F_rows.body with | .cons _ (.cons _ (.cons _ (.cons (.fr _ _ b) _)))=>b | _=>.nil) ρ1)=some (fl,ρ')/\(fl=.nx\/fl=.ct)/\∃(r:R) (a' b' c':Int) (p4 p5 p6 p7 p8 p9 p10:Option OD),ρ'=[some (Tp a' b' c'),some (It many),some (It share),some (Rs (rs++[r])),p4,p5,p6,p7,p8,p9,p10]/\TpOk b' c' (m + 8):=by
 obtain⟨x1,a1,b1,c1,e1,x10,x11,t1⟩:=aq (n:=n + 1) (a:=a) (many:=10) h (up (k:=0) hm rfl) (by decide) (by decide)
 obtain⟨x2,a2,b2,c2,e2,x20,x21,t2⟩:=aq (n:=n + 1) (a:=a1) (many:=5) t1 (up (k:=1) hm rfl) (by decide) (by decide)
 by_cases hw:x1 < share
 ·obtain⟨g,a3,b3,c3,e3,g0,t3⟩:=ox (n:=n) (a:=a2) t2 (up (k:=2) hm rfl)
  refine⟨.ct,_,bs rfl (ae (ip (ρ3:=[some (Tp a2 b2 c2),some (It many),some (It share),some (Rs rs),some (It i),some (It x1),some (It x2),o7,o8,o9,o10]) (aa (ab (ρ3:=[some (Tp a1 b1 c1),some (It many),some (It share),some (Rs rs),some (It i),o5,o6,o7,o8,o9,o10]) rfl rfl e1 rfl) (aa (ab (ρ3:=[some (Tp a2 b2 c2),some (It many),some (It share),some (Rs rs),some (It i),o5,o6,o7,o8,o9,o10]) rfl rfl e2 rfl) af)) rfl rfl rfl) (E4 (aR (ax (av rfl rfl rfl rfl (show some (decide (x1 < share))=some true by rw[decide_eq_true hw]))) (ae (cb (ρ3:=[some (Tp a3 b3 c3),some (It many),some (It share),some (Rs (rs++[.st x2 g])),some (It i),some (It x1),some (It x2),o7,o8,o9,o10]) (xs:=rs.map fun r=>.fz r.d) rfl (dB (z:=.fz (R.st x2 g).d) (aa rfl (aa rfl (aa (ab (ρ3:=[some (Tp a3 b3 c3),some (It many),some (It share),some (Rs rs),some (It i),some (It x1),some (It x2),o7,o8,o9,o10]) rfl rfl e3 rfl) af))) rfl rfl rfl) rfl rfl (by rw[aaa];omega) (by rw[jT];rfl)) rfl)))),.inr rfl,.st x2 g,a3,b3,c3,some (It i),some (It x1),some (It x2),o7,o8,o9,o10,rfl,t3.up (upA (k:=6) rfl)⟩
 ·obtain⟨x3,a3,b3,c3,e3,x30,x31,t3⟩:=aq (n:=n + 1) (a:=a2) (many:=9) t2 (up (k:=2) hm rfl) (by decide) (by decide)
  obtain⟨x4,a4,b4,c4,e4,x40,x41,t4⟩:=aq (n:=n + 1) (a:=a3) (many:=5) t3 (up (k:=3) hm rfl) (by decide) (by decide)
  obtain⟨x5,a5,b5,c5,e5,x50,x51,t5⟩:=aq (n:=n + 1) (a:=a4) (many:=many + 1) t4 (up (k:=4) hm rfl) (by omega) (by omega)
  obtain⟨x6,a6,b6,c6,e6,x60,x61,t6⟩:=aq (n:=n + 1) (a:=a5) (many:=7) t5 (up (k:=5) hm rfl) (by decide) (by decide)
  obtain⟨x7,a7,b7,c7,e7,x70,x71,t7⟩:=aq (n:=n + 1) (a:=a6) (many:=100) t6 (up (k:=6) hm rfl) (by decide) (by decide)
  obtain⟨x8,a8,b8,c8,e8,x80,x81,t8⟩:=aq (n:=n + 1) (a:=a7) (many:=2) t7 (up (k:=7) hm rfl) (by decide) (by decide)
  obtain⟨r8,_,e9⟩:=tL (rs:=[oGo x5,xC]) x80 x81
  obtain⟨nr,enr⟩:∃nr:Int,nr=(if (if i + x6 - 2 < many then i + x6 - 2 else many) > 0 then (if i + x6 - 2 < many then i + x6 - 2 else many) else 0):=⟨_,rfl⟩
  obtain⟨r,_,e10⟩:=tL (rs:=[.st x2 x7,mF x2 x4,iz x2 x4,cZ x2,oGo nr,jS x2 nr,jS x2 x5,cZ x2,r8]) x30 x31
  refine⟨.nx,_,bs rfl (ae (ip (ρ3:=[some (Tp a2 b2 c2),some (It many),some (It share),some (Rs rs),some (It i),some (It x1),some (It x2),o7,o8,o9,o10]) (aa (ab (ρ3:=[some (Tp a1 b1 c1),some (It many),some (It share),some (Rs rs),some (It i),o5,o6,o7,o8,o9,o10]) rfl rfl e1 rfl) (aa (ab (ρ3:=[some (Tp a2 b2 c2),some (It many),some (It share),some (Rs rs),some (It i),o5,o6,o7,o8,o9,o10]) rfl rfl e2 rfl) af)) rfl rfl rfl) (ae (aB (ax (av rfl rfl rfl rfl (show some (decide (x1 < share))=some false by rw[decide_eq_false hw]))) rfl) ?_)),.inl rfl,r,a8,b8,c8,some (It i),some (It x3),some (It x2),some (It x4),some (It x5),some (It nr),some (Rs [.st x2 x7,mF x2 x4,iz x2 x4,cZ x2,oGo nr,jS x2 nr,jS x2 x5,cZ x2,r8]),rfl,t8⟩
  refine ae (aj (ρ3:=[some (Tp a3 b3 c3),some (It many),some (It share),some (Rs rs),some (It i),some (It x3),some (It x2),o7,o8,o9,o10]) (ab (ρ3:=[some (Tp a3 b3 c3),some (It many),some (It share),some (Rs rs),some (It i),some (It x1),some (It x2),o7,o8,o9,o10]) rfl rfl e3 rfl) rfl rfl rfl) ?_
  refine ae (ip (ρ3:=[some (Tp a5 b5 c5),some (It many),some (It share),some (Rs rs),some (It i),some (It x3),some (It x2),some (It x4),some (It x5),o9,o10]) (aa (ab (ρ3:=[some (Tp a4 b4 c4),some (It many),some (It share),some (Rs rs),some (It i),some (It x3),some (It x2),o7,o8,o9,o10]) rfl rfl e4 rfl) (aa (ab (ρ3:=[some (Tp a5 b5 c5),some (It many),some (It share),some (Rs rs),some (It i),some (It x3),some (It x2),o7,o8,o9,o10]) rfl rfl e5 rfl) af)) rfl rfl rfl) ?_
  refine ae (aj (ρ3:=[some (Tp a6 b6 c6),some (It many),some (It share),some (Rs rs),some (It i),some (It x3),some (It x2),some (It x4),some (It x5),some (It nr),o10]) (aJ (aa rfl (aa (aJ (aa rfl (aa (ah (ah rfl (ab (ρ3:=[some (Tp a6 b6 c6),some (It many),some (It share),some (Rs rs),some (It i),some (It x3),some (It x2),some (It x4),some (It x5),o9,o10]) rfl rfl e6 rfl) rfl rfl rfl) rfl rfl rfl rfl) af)) rfl rfl) af)) rfl (show _=some (PyData.int nr) by rw[enr];rfl)) rfl rfl rfl) ?_
  refine ae (aj (ρ3:=[some (Tp a7 b7 c7),some (It many),some (It share),some (Rs rs),some (It i),some (It x3),some (It x2),some (It x4),some (It x5),some (It nr),some (Rs [.st x2 x7,mF x2 x4,iz x2 x4,cZ x2,oGo nr])]) (fg (zs:=[.fz (R.st x2 x7).d,.fz (mF x2 x4).d,.fz (iz x2 x4).d,.fz (cZ x2).d,.fz (oGo nr).d]) (aa (dB (z:=.fz (R.st x2 x7).d) (aa rfl (aa rfl (aa (ab (ρ3:=[some (Tp a7 b7 c7),some (It many),some (It share),some (Rs rs),some (It i),some (It x3),some (It x2),some (It x4),some (It x5),some (It nr),o10]) rfl rfl e7 rfl) af))) rfl rfl rfl) (aa rfl (aa rfl (aa rfl (aa rfl af))))) rfl rfl) rfl rfl rfl) ?_
  refine ae (aj (ρ3:=[some (Tp a8 b8 c8),some (It many),some (It share),some (Rs rs),some (It i),some (It x3),some (It x2),some (It x4),some (It x5),some (It nr),some (Rs [.st x2 x7,mF x2 x4,iz x2 x4,cZ x2,oGo nr,jS x2 nr,jS x2 x5,cZ x2,r8])]) (xx rfl (fg (aa rfl (aa rfl (aa rfl (aa (aO rfl (ab (ρ3:=[some (Tp a8 b8 c8),some (It many),some (It share),some (Rs rs),some (It i),some (It x3),some (It x2),some (It x4),some (It x5),some (It nr),some (Rs [.st x2 x7,mF x2 x4,iz x2 x4,cZ x2,oGo nr])]) rfl rfl e8 rfl) rfl (cy e9)) af)))) rfl rfl) rfl rfl (show 9≤1000000 by decide)) rfl rfl rfl) ?_
  exact ae (cb (ρ3:=[some (Tp a8 b8 c8),some (It many),some (It share),some (Rs (rs++[r])),some (It i),some (It x3),some (It x2),some (It x4),some (It x5),some (It nr),some (Rs [.st x2 x7,mF x2 x4,iz x2 x4,cZ x2,oGo nr,jS x2 nr,jS x2 x5,cZ x2,r8])]) (xs:=rs.map fun r=>.fz r.d) rfl (aO rfl rfl rfl (ww rfl e10)) rfl rfl (by rw[aaa];omega) (by rw[jT];rfl)) rfl
theorem i6{lo:Int}{n:Nat}:∀d∈bU lo n,∃i,d=.int i:=fun d hd=>by
 obtain⟨i,_,rfl⟩:=aaN.mp hd
 exact⟨_,rfl⟩
theorem qg{n m:Nat}{a b c many sh:Int}(h:TpOk b c (m + 3))(hm:m≤90000)(m0:0≤many)(m1:many≤60):∃(rs:List R) (a' b' c':Int) (o4 o5 o6 o7 o8 o9 o10:Option OD),bj (fun d ρ'=>(bb (.nm 4) (.fz d) ρ').bind fun ρ1=>aN (pl.pg.ct (n + 2)) (match F_rows.body with | .cons _ (.cons _ (.cons _ (.cons (.fr _ _ b) _)))=>b | _=>.nil) ρ1) (bU 0 many.toNat) [some (Tp a b c),some (It many),some (It sh),some (Rs []),none,none,none,none,none,none,none]=some (.nx,[some (Tp a' b' c'),some (It many),some (It sh),some (Rs rs),o4,o5,o6,o7,o8,o9,o10])/\rs.length≤60/\TpOk b' c' (m + 500):=by
 have hM:many.toNat≤60:=by omega
 have hM2:many≤100:=Int.le_trans m1 (by decide)
 obtain⟨ρ',e2,rs,a2,b2,c2,o4,o5,o6,o7,o8,o9,o10,rfl,hl,_,t2⟩:=i3 (step:=fun d ρ'=>(bb (.nm 4) (.fz d) ρ').bind fun ρ1=>aN (pl.pg.ct (n + 2)) (match F_rows.body with | .cons _ (.cons _ (.cons _ (.cons (.fr _ _ b) _)))=>b | _=>.nil) ρ1)
  (fun ds ρ=>∃(rs:List R) (a b c:Int) (o4 o5 o6 o7 o8 o9 o10:Option OD),ρ=[some (Tp a b c),some (It many),some (It sh),some (Rs rs),o4,o5,o6,o7,o8,o9,o10]/\rs.length + ds.length=many.toNat/\(∀d∈ds,∃i,d=.int i)/\TpOk b c (m + 3 + 8 * rs.length)) (fun d ds ρ=>by
   rintro⟨rs,a,b,c,o4,o5,o6,o7,o8,o9,o10,rfl,hl,hd,t⟩
   obtain⟨i,rfl⟩:=hd _ aaj
   have hr:rs.length≤60:=aan (ab0 hl) hM
   obtain⟨fl,ρ',e,hf,r,a',b',c',p4,p5,p6,p7,p8,p9,p10,rfl,t'⟩:=qf (n:=n) (share:=sh) (i:=i) (a:=a) (o4:=o4) (o5:=o5) (o6:=o6) (o7:=o7) (o8:=o8) (o9:=o9) (o10:=o10) t (aan (Nat.add_le_add (abZ hm 3) (abb 8 hr)) (by decide)) (aan hr (by decide):rs.length≤1000) m0 hM2
   have el:(rs++[r]).length=rs.length + 1:=aam
   exact⟨fl,_,e,hf,rs++[r],a',b',c',p4,p5,p6,p7,p8,p9,p10,rfl,by rw[el,ab1];exact hl,fun d hd'=>hd d (aag _ hd'),t'.up (by rw[el];exact aaf _)⟩)
  (ds:=bU 0 many.toNat) (ρ:=[some (Tp a b c),some (It many),some (It sh),some (Rs []),none,none,none,none,none,none,none]) ⟨[],a,b,c,none,none,none,none,none,none,none,rfl,by rw[dr,aaL,aaK],i6,h⟩
 have hl:rs.length=many.toNat:=hl
 exact⟨rs,a2,b2,c2,o4,o5,o6,o7,o8,o9,o10,e2,hl ▸ hM,t2.up (aan (aa4 (abb 8 (hl ▸ hM)) (m + 3)) (aa4 (show 3 + 8 * 60≤500 by decide) m))⟩
theorem z8{n m:Nat}{a b c:Int}(h:TpOk b c m)(hm:m≤90000):∃(rs:List R) (a' b' c':Int),pl.pg.call (n + 3) 24 [Tp a b c]=some (Rs rs,[Tp a' b' c'])/\rs.length≤60/\TpOk b' c' (m + 500):=by
 have key:∀(a b c many:Int),TpOk b c (m + 2)->0≤many->many≤60->∃(rs:List R) (a' b' c':Int) (ρ:DEnv),aN (pl.pg.ct (n + 2)) (match F_rows.body with | .cons _ ss=>ss | _=>.nil) [some (Tp a b c),some (It many),none,none,none,none,none,none,none,none,none]=some (.rt (Rs rs),some (Tp a' b' c')::ρ)/\rs.length≤60/\TpOk b' c' (m + 500):=by
  intro a b c many h m0 m1
  obtain⟨x1,a1,b1,c1,e1,x10,x11,t1⟩:=aq (n:=n + 1) (a:=a) (many:=3) h (up (k:=2) hm rfl) (by decide) (by decide)
  obtain⟨sh,_,es⟩:=bQ (ks:=[2,5,9]) x10 x11
  obtain⟨rs,a2,b2,c2,o4,o5,o6,o7,o8,o9,o10,e2,hl,t2⟩:=qg (n:=n) (a:=a1) (sh:=sh) t1 hm m0 m1
  exact⟨rs,a2,b2,c2,_,ae (aj (ρ3:=[some (Tp a1 b1 c1),some (It many),some (It sh),none,none,none,none,none,none,none,none]) (aO rfl (ab (ρ3:=[some (Tp a1 b1 c1),some (It many),none,none,none,none,none,none,none,none,none]) rfl rfl e1 rfl) rfl (cy es)) rfl rfl rfl) (ae (aj (ρ3:=[some (Tp a1 b1 c1),some (It many),some (It sh),some (Rs []),none,none,none,none,none,none,none]) rfl rfl rfl rfl) (ae (cW (dD rfl rfl (by omega)) e2) (az (ak rfl rfl)))),hl,t2⟩
 obtain⟨x1,a1,b1,c1,e1,x10,x11,t1⟩:=aq (n:=n + 1) (a:=a) (many:=8) h (up (k:=0) hm rfl) (by decide) (by decide)
 by_cases h8:x1=0
 ·obtain⟨x2,a2,b2,c2,e2,x20,x21,t2⟩:=aq (n:=n + 1) (a:=a1) (many:=41) t1 (up (k:=1) hm rfl) (by decide) (by decide)
  obtain⟨rs,a3,b3,c3,ρ,e3,hl,t3⟩:=key a2 b2 c2 (20 + x2) t2 (by omega) (by omega)
  exact⟨rs,a3,b3,c3,ag (fn:=F_rows) rfl rfl (ae (aj (ρ3:=[some (Tp a2 b2 c2),some (It (20 + x2)),none,none,none,none,none,none,none,none,none]) (iY (ax (av (ab (ρ3:=[some (Tp a1 b1 c1),none,none,none,none,none,none,none,none,none,none]) rfl rfl e1 rfl) rfl rfl rfl (show some (decide (x1=0))=some true by rw[decide_eq_true h8]))) (ah rfl (ab (ρ3:=[some (Tp a2 b2 c2),none,none,none,none,none,none,none,none,none,none]) rfl rfl e2 rfl) rfl rfl rfl)) rfl rfl rfl) e3) rfl,hl,t3⟩
 ·obtain⟨x2,a2,b2,c2,e2,x20,x21,t2⟩:=aq (n:=n + 1) (a:=a1) (many:=11) t1 (up (k:=1) hm rfl) (by decide) (by decide)
  obtain⟨rs,a3,b3,c3,ρ,e3,hl,t3⟩:=key a2 b2 c2 x2 t2 (by omega) (by omega)
  exact⟨rs,a3,b3,c3,ag (fn:=F_rows) rfl rfl (ae (aj (ρ3:=[some (Tp a2 b2 c2),some (It x2),none,none,none,none,none,none,none,none,none]) (og (ax (av (ab (ρ3:=[some (Tp a1 b1 c1),none,none,none,none,none,none,none,none,none,none]) rfl rfl e1 rfl) rfl rfl rfl (show some (decide (x1=0))=some false by rw[decide_eq_false h8]))) (ab (ρ3:=[some (Tp a2 b2 c2),none,none,none,none,none,none,none,none,none,none]) rfl rfl e2 rfl)) rfl rfl rfl) e3) rfl,hl,t3⟩
def R.gr:R->Bool | .st _ k=>decide (99 < k) | .ot _ _ _=>false
def R.num:R->Int | .st _ k=>k | .ot _ _ _=>0
abbrev Rd(r:R):OD:=.fz r.d
abbrev Rl(rs:List R):OD:=.fz (.list (rs.map R.d))
theorem bF{α:Type}{x:α}{xs:List α}:atI (x::xs) 0=some x:=eA (k:=0) rfl
theorem z9{n:Nat}(r:R):pl.pg.call (n + 1) 1 [Rd r]=some (.fz (.bool r.gr),[Rd r]):=by
 cases r with
 | st r k=>rfl
 | ot w xs h=>exact ag (fn:=iq) rfl rfl (az (ak (mr (av (aO rfl rfl rfl (cQ bF)) rfl rfl rfl (show some (decide (w="set"))=some false by rw[decide_eq_false h.1]))) rfl)) rfl
theorem k7{n:Nat}(r:R):pl.pg.call (n + 1) 27 [Rd r]=some (.fz (.bool r.gr),[Rd r]):=by
 cases r with
 | st r k=>rfl
 | ot w xs h=>exact ag (fn:=fj) rfl rfl (az (ak (mr (av (aO rfl rfl rfl (cQ bF)) rfl rfl rfl (show some (decide (w="set"))=some false by rw[decide_eq_false h.1]))) rfl)) rfl
theorem jU{n:Nat}{o:Option OD}:∀{rs:List R} {out:List PyData},∃o',aU (aV (pl.pg.ct (n + 1)) (.nm 0) (.some (.call 27 (.cons (.nm 0) .nil))) (.nm 0)) (rs.map R.d) out [o]=some (out++((rs.filter R.gr).map R.d),[o'])
 | [],out=>⟨o,by rw[List.filter_nil,aaG,aaq];rfl⟩
 | r::rs,out=>by
  cases hg:r.gr with
  | false =>
   obtain⟨o',e⟩:=jU (n:=n) (o:=some (Rd r)) (rs:=rs) (out:=out++[])
   rw[aaq]at e
   refine⟨o',?_⟩
   rw[ab2 (by rw[hg];decide)]
   refine bs (x:=([],[some (Rd r)])) (qe rfl (aY (ab (ρ3:=[some (Rd r)]) rfl rfl (by rw[<- hg];exact k7 r) rfl))) ?_
   rw[aaq];exact e
  | true =>
   obtain⟨o',e⟩:=jU (n:=n) (o:=some (Rd r)) (rs:=rs) (out:=out++[r.d])
   refine⟨o',?_⟩
   rw[acl hg,aal]
   refine bs (x:=([r.d],[some (Rd r)])) (qd rfl (aY (ab (ρ3:=[some (Rd r)]) rfl rfl (by rw[<- hg];exact k7 r) rfl)) rfl rfl) ?_
   rw[aah]at e;exact e
def R.wd:R->Str | .st _ _=>"set" | .ot w _ _=>w
def R.tl:R->List PyData | .st r k=>[.int r,.int k] | .ot _ xs _=>xs.map PyData.int
theorem dats_fz:∀ds:List PyData,OD.dats (ds.map OD.fz)=some ds
 | []=>rfl
 | d::ds=>by rw[aal,OD.dats,dats_fz ds];rfl
theorem cS(ds:List PyData):(OD.lst (ds.map OD.fz)).dat=some (.list ds):=by rw[OD.dat,dats_fz]
theorem dH{ρ ρ':DEnv}{j:Nat}{x:OD}{d:PyData}(h:ρ[j]?.join=some x)(hd:x.dat=some d)(hr:ρ.set j (some (.fz d))=ρ'):frz1 ρ (.rf j)=some (d,ρ'):=by
 simp only[frz1,h,Option.bind_some,hd,ab3,hr]
theorem unca_nil{ρ os:DEnv}:gU ρ [] os=ρ:=by cases os with | nil=>rfl | cons o os=>cases o<;>rfl
theorem R.d_is(r:R):r.d=.tuple (.str r.wd::r.tl):=by cases r<;>rfl
theorem FU{w x y:Str}:∃k,lZ .inn (.str w) (.tuple [.str x,.str y])=some k:=⟨_,rfl⟩
theorem tM{rs:List R}:∀d∈cC (rs.map R.d),∃(i:Int) (r:R),d=.tuple [.int i,r.d]:=fun d hd=>by
 obtain⟨k,hk⟩:=List.getElem?_of_mem hd
 obtain⟨e,he,rfl⟩:=iT hk
 rw[aau]at he
 cases hr:rs[k]? with
 | none=>rw[hr]at he;cases he
 | some r=>rw[hr]at he;cases he;exact⟨k,r,rfl⟩
theorem mG{C:Ct}{rs:List R}:∃(ls:List Int) (ρ:DEnv),aU (aV C (.tp [0,1]) (.some (.cmp .inn (.ix (.nm 1) (.int 0)) (.tup (.cons (.str "go") (.cons (.str "nil") .nil))))) (.nm 0)) (cC (rs.map R.d)) [] [none,none]=some (ls.map PyData.int,ρ)/\ls.length≤rs.length:=by
 obtain⟨out,ρ,e,_,⟨ls,rfl,hl⟩,_⟩:=fV (step:=aV C (.tp [0,1]) (.some (.cmp .inn (.ix (.nm 1) (.int 0)) (.tup (.cons (.str "go") (.cons (.str "nil") .nil))))) (.nm 0))
  (fun ds out ρ=>(∀d∈ds,∃(i:Int) (r:R),d=.tuple [.int i,r.d])/\(∃ls:List Int,out=ls.map PyData.int/\ls.length + ds.length≤rs.length)/\∃o0 o1,ρ=[o0,o1]) (fun d ds out ρ=>by
   rintro⟨hd,⟨ls,rfl,hl⟩,o0,o1,rfl⟩
   obtain⟨i,r,rfl⟩:=hd _ aaj
   rw[aap]at hl
   obtain⟨k,hk⟩:=FU (w:=r.wd) (x:="go") (y:="nil")
   have ht:aZ C (.cmp .inn (.ix (.nm 1) (.int 0)) (.tup (.cons (.str "go") (.cons (.str "nil") .nil)))) [some (It i),some (Rd r)]=some (k,[some (It i),some (Rd r)]):=ax (av (aO rfl rfl rfl (by rw[R.d_is];exact cQ bF)) rfl rfl rfl hk)
   cases k with
   | false=>exact⟨[],_,qe rfl ht,fun d h=>hd d (aag _ h),⟨ls,by rw[aaq],by omega⟩,_,_,rfl⟩
   | true=>exact⟨[.int i],_,qd rfl ht rfl rfl,fun d h=>hd d (aag _ h),⟨ls++[i],by rw[aax];rfl,by rw[aam,aaE];omega⟩,_,_,rfl⟩)
  (ds:=cC (rs.map R.d)) (out:=[]) (ρ:=[none,none]) ⟨tM,⟨[],rfl,by rw[cD,aaa,aaL,aaK];exact aaf _⟩,_,_,rfl⟩
 exact⟨ls,ρ,e,by rw[aaL]at hl;omega⟩
theorem mH{n m:Nat}{a b c sh:Int}(s0:0≤sh)(s1:sh < 3)(h:TpOk b c m){js:List Int}(hm:m + js.length≤100000):∃(ls:List Int) (a' b' c':Int) (o:Option OD),aU (aV (pl.pg.ct (n + 1)) (.nm 0) (.some (.ix (.lst (.cons (.bl false) (.cons (.cmp .eq (.call 22 (.cons (.nm 2) (.cons (.int 2) .nil))) (.int 0)) (.cons (.bl true) .nil)))) (.nm 1))) (.nm 0)) (js.map PyData.int) [] [none,some (It sh),some (Tp a b c)]=some (ls.map PyData.int,[o,some (It sh),some (Tp a' b' c')])/\TpOk b' c' (m + js.length):=by
 obtain⟨out,ρ,e,⟨ks,hk⟩,⟨ls,rfl⟩,o,a',b',c',rfl,t⟩:=fV (step:=aV (pl.pg.ct (n + 1)) (.nm 0) (.some (.ix (.lst (.cons (.bl false) (.cons (.cmp .eq (.call 22 (.cons (.nm 2) (.cons (.int 2) .nil))) (.int 0)) (.cons (.bl true) .nil)))) (.nm 1))) (.nm 0))
  (fun ds out ρ=>(∃ks:List Int,ds=ks.map PyData.int/\ks.length≤js.length)/\(∃ls:List Int,out=ls.map PyData.int)/\∃o a b c,ρ=[o,some (It sh),some (Tp a b c)]/\TpOk b c (m + (js.length - ds.length))) (fun d ds out ρ=>by
   rintro⟨⟨ks,hk,hl⟩,⟨ls,rfl⟩,o,a,b,c,rfl,t⟩
   cases ks with
   | nil=>cases hk
   | cons k ks =>
    cases hk
    rw[aap,aaa]at t
    rw[aap]at hl
    obtain⟨x1,a1,b1,c1,e1,x10,x11,t1⟩:=aq (n:=n) (a:=a) (many:=2) t (by omega) (by decide) (by decide)
    obtain⟨y,hy,ey⟩:=jP (xs:=[OD.fz (.bool false),.fz (.bool (decide (x1=0))),.fz (.bool true)]) s0 s1
    obtain⟨q,rfl⟩:∃q:Bool,y=.fz (.bool q):=by
     simp only[aac,aak,or_false]at hy
     rcases hy with rfl | rfl | rfl<;>exact⟨_,rfl⟩
    have ht:=E3 (C:=pl.pg.ct (n + 1)) (ρ:=[some (It k),some (It sh),some (Tp a b c)]) (aO (fg (aa rfl (aa (av (ab (f:=22) (es:=.cons (.nm 2) (.cons (.int 2) .nil)) (ρ3:=[some (It k),some (It sh),some (Tp a1 b1 c1)]) rfl rfl e1 rfl) (b:=.int 0) (o:=.eq) rfl rfl rfl rfl) (aa (e:=.bl true) rfl af)) (e:=.bl false)) rfl rfl) (b:=.nm 1) rfl rfl (cy ey))
    have t2:TpOk b1 c1 (m + (js.length - (ks.map PyData.int).length)):=t1.up (by rw[aaa];omega)
    cases q with
    | false=>exact⟨[],_,qe rfl ht,⟨ks,rfl,by omega⟩,⟨ls,by rw[aaq]⟩,_,_,_,_,rfl,t2⟩
    | true=>exact⟨[.int k],_,qd rfl ht rfl rfl,⟨ks,rfl,by omega⟩,⟨ls++[k],by rw[aax];rfl⟩,_,_,_,_,rfl,t2⟩)
  (ds:=js.map PyData.int) (out:=[]) (ρ:=[none,some (It sh),some (Tp a b c)]) ⟨⟨js,rfl,aaf _⟩,⟨[],rfl⟩,_,a,b,c,rfl,h.up (by omega)⟩
 exact⟨ls,a',b',c',o,e,t.up (by omega)⟩
theorem wx{n m:Nat}{a b c:Int}{rs:List R}(hr:rs.length≤200)(h:TpOk b c m)(hm:m≤90000):∃(ls:List Int) (a' b' c':Int),pl.pg.call (n + 2) 25 [Tp a b c,Rl rs]=some (.lst (ls.map It),[Tp a' b' c',Rl rs])/\TpOk b' c' (m + 300):=by
 obtain⟨x1,a1,b1,c1,e1,x10,x11,t1⟩:=aq (n:=n) (a:=a) (many:=3) h (up (k:=0) hm rfl) (by decide) (by decide)
 obtain⟨js,ρ1,e2,hj⟩:=mG (C:=pl.pg.ct (n + 1)) (rs:=rs)
 obtain⟨ls,a2,b2,c2,o,e3,t2⟩:=mH (n:=n) (a:=a1) x10 x11 t1 (js:=js) (by omega)
 have el:(ls.map PyData.int).map OD.fz=ls.map It:=by rw[aa3];rfl
 refine⟨ls,a2,b2,c2,ag (fn:=oj) rfl rfl (ae (aj (ρ3:=[some (Tp a1 b1 c1),some (Rl rs),some (It x1),none]) (ab (ρ3:=[some (Tp a1 b1 c1),some (Rl rs),none,none]) rfl rfl e1 rfl) rfl rfl rfl) (ae (aj (ρ3:=[some (Tp a1 b1 c1),some (Rl rs),some (It x1),some (.lst ((js.map PyData.int).map OD.fz))]) (bL (ρ2:=[some (Tp a1 b1 c1),some (Rl rs),some (It x1),none]) (jO rfl rfl) (by rw[cD,aaa];omega) rfl e2 unca_nil) rfl rfl rfl) (az (ak (z:=.lst (ls.map It)) (bL (ρ2:=[some (Tp a2 b2 c2),some (Rl rs),some (It x1),some (.fz (.list (js.map PyData.int)))]) (cO (ds:=js.map PyData.int) rfl (dH rfl (cS _) rfl) rfl) (by rw[aaa];omega) rfl e3 rfl) (by rw[el];rfl))))) rfl,t2.up (by omega)⟩
abbrev Il(gs:List Int):OD:=.lst (gs.map It)
theorem gw(gs:List Int):(gs.map PyData.int).map OD.fz=gs.map It:=by rw[aa3];rfl
theorem aG(gs:List Int):(Il gs).dat=some (.list (gs.map PyData.int)):=by rw[Il,<- gw,cS]
theorem oy(rs:List R):(rs.map R.d).map OD.fz=rs.map fun r=>OD.fz r.d:=by rw[aa3];rfl
theorem fA{ρ:DEnv}{j:Nat}{gs:List Int}{i g:Int}(h:ρ[j]?.join=some (Il gs))(h1:atI (gs.map It) i=some (It g)):bD ρ (.rf j) i=some (It g,ρ):=by
 obtain⟨k,e1,e2⟩:=bnd h1
 have e3:itemS (Il gs) i=some (.int g,Il gs):=by
  simp only[Il,itemS,e1,e2,OD.dat]
  rw[bC e2]
 simp only[bD,h,e3]
 rw[set_self (join_some h)]
theorem k8{n m:Nat}{a b c:Int}(h:TpOk b c m){N:Nat}(hm:m + 4 * N≤800000):∃(gs:List Int) (a' b' c':Int) (o:Option OD),aU (aV (pl.pg.ct (n + 2)) (.nm 0) .none (.call 23 (.cons (.nm 1) .nil))) (bU 0 N) [] [none,some (Tp a b c)]=some (gs.map PyData.int,[o,some (Tp a' b' c')])/\gs.length=N/\(∀g∈gs,100≤g)/\TpOk b' c' (m + 4 * N):=by
 obtain⟨out,ρ,e,gs,a',b',c',o,rfl,hl,hg,rfl,t⟩:=fV (step:=aV (pl.pg.ct (n + 2)) (.nm 0) .none (.call 23 (.cons (.nm 1) .nil)))
  (fun ds out ρ=>∃(gs:List Int) (a b c:Int) (o:Option OD),out=gs.map PyData.int/\gs.length + ds.length=N/\(∀g∈gs,100≤g)/\ρ=[o,some (Tp a b c)]/\TpOk b c (m + 4 * gs.length)) (fun d ds out ρ=>by
   rintro⟨gs,a,b,c,o,rfl,hl,hg,rfl,t⟩
   rw[aap]at hl
   obtain⟨g,a1,b1,c1,e1,g0,t1⟩:=ox (n:=n) (a:=a) t (aan (aa4 (abb 4 (ab0 hl)) m) (aan hm (by decide)))
   have el:(gs++[g]).length=gs.length + 1:=aam
   refine⟨[.int g],_,kY (ρ4:=[some (.fz d),some (Tp a1 b1 c1)]) rfl (ab (ρ3:=[some (.fz d),some (Tp a1 b1 c1)]) rfl rfl e1 rfl) rfl,gs++[g],a1,b1,c1,_,by rw[aax];rfl,by rw[el,ab1];exact hl,fun x hx=>?_,rfl,t1.up (by rw[el];exact aaf _)⟩
   rcases aai.mp hx with hx | hx
   ·exact hg x hx
   ·rw[aat.mp hx];exact g0)
  (ds:=bU 0 N) (out:=[]) (ρ:=[none,some (Tp a b c)]) ⟨[],a,b,c,none,rfl,by rw[dr,aaL,aaK],(fun g hg=>absurd hg aak),rfl,h⟩
 rw[aaL]at hl
 exact⟨gs,a',b',c',o,e,by omega,hg,t.up (by omega)⟩
abbrev spE(a b c:Int)(gs:List Int)(sh:Int)(rs:List R)(o:Option OD):DEnv:=[some (Tp a b c),some (Il gs),some (It sh),some (Rs rs),o]
theorem k9{a b c sh:Int}{gs:List Int}{rs:List R}{o:Option OD}{r:R}:(spE a b c gs sh rs o).set 3 (some (.lst ((rs.map fun r=>OD.fz r.d)++[.fz r.d])))=spE a b c gs sh (rs++[r]) o:=by rw[<- jT];rfl
theorem mI{n:Nat}{a b c sh:Int}{gs:List Int}{rs:List R}{o:Option OD}(hr:rs.length≤1000):aZ (pl.pg.ct (n + 2)) (.cmp .lt (.blt .len (.cons (.compB 3 1 [] (.nm 0) (.some (.call 27 (.cons (.nm 0) .nil))) (.nm 0)) .nil)) (.int 60)) (spE a b c gs sh rs o)=some (decide (((rs.filter R.gr).length:Int) < 60),spE a b c gs sh rs o):=by
 obtain⟨o',e⟩:=jU (n:=n + 1) (o:=none) (rs:=rs) (out:=[])
 refine ax (av (aJ (ds:=[.list ((rs.filter R.gr).map R.d)]) (d:=.int (rs.filter R.gr).length) (aa (wr (ds:=rs.map R.d) (ρ2:=spE a b c gs sh rs o) (by rw[oy];rfl) (by rw[aaa];omega) rfl e (by rw[unca_nil,oy];rfl)) af) ?_ ?_) rfl rfl rfl rfl)
 ·exact kL (cS _)
 ·show some (PyData.int (((rs.filter R.gr).map R.d).length:Nat))=_
  rw[aaa]
theorem lc{n m:Nat}{a b c sh i:Int}{gs:List Int}{rs:List R}{o:Option OD}(h:TpOk b c m)(hm:m≤100000)(hr:rs.length≤1000)(s0:0 < sh)(s1:sh < 100)(hg:∀g∈gs,100≤g)(g0:0 < gs.length)(g1:gs.length < 100)(hc:(rs.filter R.gr).length≤60) :
  ∃ρ',((bb (.nm 4) (.fz (.int i)) (spE a b c gs sh rs o)).bind fun ρ1=>aN (pl.pg.ct (n + 2)) (match F_sparse.body with | .cons _ (.cons _ (.cons _ (.cons (.fr _ _ b) _)))=>b | _=>.nil) ρ1)=some (.nx,ρ')/\∃(r:R) (a' b' c':Int) (p:Option OD),ρ'=spE a' b' c' gs sh (rs++[r]) p/\((rs++[r]).filter R.gr).length≤60/\TpOk b' c' (m + 4):=by
 obtain⟨x1,a1,b1,c1,e1,x10,x11,t1⟩:=aq (n:=n + 1) (a:=a) (many:=sh) h (up (k:=0) hm rfl) s0 (by omega)
 have alt:aZ (pl.pg.ct (n + 2)) (.and (.cmp .eq (.call 22 (.cons (.nm 0) (.cons (.nm 2) .nil))) (.int 0)) (.cmp .lt (.blt .len (.cons (.compB 3 1 [] (.nm 0) (.some (.call 27 (.cons (.nm 0) .nil))) (.nm 0)) .nil)) (.int 60))) (spE a b c gs sh rs (some (It i)))=some (decide (x1=0/\(rs.filter R.gr).length < 60),spE a1 b1 c1 gs sh rs (some (It i))):=by
  by_cases hx:x1=0
  ·refine tq (ax (av (ab (ρ3:=spE a1 b1 c1 gs sh rs (some (It i))) rfl rfl e1 rfl) rfl rfl rfl (show some (decide (x1=0))=some true by rw[decide_eq_true hx]))) ?_
   rw[mI hr]
   congr 2
   simp only[hx,true_and,decide_eq_decide]
   omega
  ·rw[decide_eq_false (fun z=>hx z.1)]
   exact tu (ax (av (ab (ρ3:=spE a1 b1 c1 gs sh rs (some (It i))) rfl rfl e1 rfl) rfl rfl rfl (show some (decide (x1=0))=some false by rw[decide_eq_false hx])))
 obtain⟨x2,a2,b2,c2,e2,x20,x21,t2⟩:=aq (n:=n + 1) (a:=a1) (many:=5) t1 (up (k:=1) hm rfl) (by decide) (by decide)
 by_cases hq:x1=0/\(rs.filter R.gr).length < 60
 ·rw[decide_eq_true hq]at alt
  obtain⟨x3,a3,b3,c3,e3,x30,x31,t3⟩:=aq (n:=n + 1) (a:=a2) (many:=gs.length) t2 (up (k:=2) hm rfl) (by omega) (by omega)
  obtain⟨g,hgm,eg⟩:=bQ (ks:=gs) x30 x31
  refine⟨_,bs rfl (ae (aR alt (ae (cb (ρ3:=spE a3 b3 c3 gs sh (rs++[.st x2 g]) (some (It i))) (xs:=rs.map fun r=>.fz r.d) rfl (dB (z:=.fz (R.st x2 g).d) (aa rfl (aa (ab (ρ3:=spE a2 b2 c2 gs sh rs (some (It i))) rfl rfl e2 rfl) (aa (aO rfl (ab (ρ3:=spE a3 b3 c3 gs sh rs (some (It i))) (aa rfl (aa (aJ (d:=.int gs.length) rfl (kL (aG gs)) (by show some (PyData.int ((gs.map PyData.int).length:Nat))=_;rw[aaa])) af)) rfl e3 rfl) rfl (fA rfl eg)) af))) rfl rfl rfl) rfl rfl (by rw[aaa];omega) k9) rfl)) rfl),.st x2 g,a3,b3,c3,_,rfl,?_,t3.up (upA (k:=3) rfl)⟩
  rw[List.filter_append,aam]
  have:([R.st x2 g].filter R.gr).length≤1:=abB _ _
  omega
 ·rw[decide_eq_false hq]at alt
  obtain⟨r,hrm,er⟩:=tL (rs:=[cZ 1,jS 1 i,xC,.st 0 99,oGo i]) x20 x21
  refine⟨_,bs rfl (ae (aB alt (ae (cb (ρ3:=spE a2 b2 c2 gs sh (rs++[r]) (some (It i))) (xs:=rs.map fun r=>.fz r.d) rfl (aO rfl (ab (ρ3:=spE a2 b2 c2 gs sh rs (some (It i))) rfl rfl e2 rfl) rfl (cy er)) rfl rfl (by rw[aaa];omega) k9) rfl)) rfl),r,a2,b2,c2,_,rfl,?_,t2.up (upA (k:=2) rfl)⟩
  have hgr:r.gr=false:=by
   simp only[aac,aak,or_false]at hrm
   rcases hrm with rfl | rfl | rfl | rfl | rfl<;>rfl
  rw[List.filter_append,ab2 (by rw[hgr];decide),List.filter_nil,aaq]
  exact hc
theorem lg{n m:Nat}{a b c sh:Int}{gs:List Int}{N:Nat}(h:TpOk b c (m + 20))(hm:m≤95000)(hN:N≤120)(s0:0 < sh)(s1:sh < 100)(hg:∀g∈gs,100≤g)(g0:0 < gs.length)(g1:gs.length < 100):∃(rs:List R) (a' b' c':Int) (o:Option OD),bj (fun d ρ'=>(bb (.nm 4) (.fz d) ρ').bind fun ρ1=>aN (pl.pg.ct (n + 2)) (match F_sparse.body with | .cons _ (.cons _ (.cons _ (.cons (.fr _ _ b) _)))=>b | _=>.nil) ρ1) (bU 0 N) (spE a b c gs sh [] none)=some (.nx,spE a' b' c' gs sh rs o)/\rs.length=N/\(rs.filter R.gr).length≤60/\TpOk b' c' (m + 600):=by
 obtain⟨ρ',e6,rs,a6,b6,c6,o6,rfl,hl,hc,_,t6⟩:=i3 (step:=fun d ρ'=>(bb (.nm 4) (.fz d) ρ').bind fun ρ1=>aN (pl.pg.ct (n + 2)) (match F_sparse.body with | .cons _ (.cons _ (.cons _ (.cons (.fr _ _ b) _)))=>b | _=>.nil) ρ1)
  (fun ds ρ=>∃(rs:List R) (a b c:Int) (o:Option OD),ρ=spE a b c gs sh rs o/\rs.length + ds.length=N/\(rs.filter R.gr).length≤60/\(∀d∈ds,∃i,d=.int i)/\TpOk b c (m + 20 + 4 * rs.length)) (fun d ds ρ=>by
   rintro⟨rs,a,b,c,o,rfl,hl,hc,hd,t⟩
   obtain⟨i,rfl⟩:=hd _ aaj
   have hr:rs.length≤120:=aan (ab0 hl) hN
   obtain⟨ρ',e,r,a',b',c',p,rfl,hc',t'⟩:=lc (n:=n) (i:=i) (a:=a) (o:=o) t (aan (Nat.add_le_add (abZ hm 20) (abb 4 hr)) (by decide)) (aan hr (by decide):rs.length≤1000) s0 s1 hg g0 g1 hc
   have el:(rs++[r]).length=rs.length + 1:=aam
   exact⟨.nx,_,e,.inl rfl,rs++[r],a',b',c',p,rfl,by rw[el,ab1];exact hl,hc',fun d hd'=>hd d (aag _ hd'),t'.up (by rw[el];exact aaf _)⟩)
  (ds:=bU 0 N) (ρ:=spE a b c gs sh [] none) ⟨[],a,b,c,none,rfl,by rw[dr,aaL,aaK],aaM _,i6,h⟩
 have hl:rs.length=N:=hl
 exact⟨rs,a6,b6,c6,o6,e6,hl,hc,t6.up (aan (aa4 (abb 4 (hl ▸ hN)) (m + 20)) (aa4 (show 20 + 4 * 120≤600 by decide) m))⟩
theorem tN{n m:Nat}{a b c:Int}(h:TpOk b c m)(hm:m≤90000):∃(rs:List R) (a' b' c':Int),pl.pg.call (n + 3) 31 [Tp a b c]=some (Rs rs,[Tp a' b' c'])/\rs.length≤120/\(rs.filter R.gr).length≤60/\TpOk b' c' (m + 600):=by
 obtain⟨x1,a1,b1,c1,e1,x10,x11,t1⟩:=aq (n:=n + 1) (a:=a) (many:=3) h (up (k:=0) hm rfl) (by decide) (by decide)
 obtain⟨gs,a2,b2,c2,o,e2,gl,hg,t2⟩:=k8 (n:=n) (a:=a1) t1 (N:=(1 + x1).toNat) (by omega)
 have hN3:(1 + x1).toNat≤3:=by omega
 have t2:=t2.up (show m + 1 + 4 * (1 + x1).toNat≤m + 13 from aa4 (abb 4 hN3) (m + 1))
 obtain⟨x3,a3,b3,c3,e3,x30,x31,t3⟩:=aq (n:=n + 1) (a:=a2) (many:=3) t2 (up (k:=13) hm rfl) (by decide) (by decide)
 obtain⟨sh,hs,es⟩:=bQ (ks:=[3,8,20]) x30 x31
 have hs':0 < sh/\sh < 100:=(show ∀x∈[3,8,20],(0:Int) < x/\x < 100 by decide) sh hs
 obtain⟨x4,a4,b4,c4,e4,x40,x41,t4⟩:=aq (n:=n + 1) (a:=a3) (many:=2) t3 (up (k:=14) hm rfl) (by decide) (by decide)
 obtain⟨w,hw,ew⟩:=bQ (ks:=[30,101]) x40 x41
 have hw':0 < w/\w≤101:=(show ∀x∈[30,101],(0:Int) < x/\x≤101 by decide) w hw
 obtain⟨x5,a5,b5,c5,e5,x50,x51,t5⟩:=aq (n:=n + 1) (a:=a4) (many:=w) t4 (up (k:=15) hm rfl) hw'.1 (by omega)
 have hX:(20 + x5).toNat≤120:=by clear e1 e2 e3 e4 e5 es ew hg hs hw;omega
 obtain⟨rs,a6,b6,c6,o6,e6,hl,hc,t6⟩:=lg (n:=n) (a:=a5) (t5.up (upA (k:=16) (b:=20) rfl)) (aan hm (by decide)) hX hs'.1 hs'.2 hg (by rw[gl];omega) (by rw[gl];omega)
 refine⟨rs,a6,b6,c6,ag (fn:=F_sparse) rfl rfl (ae (aj (ρ3:=[some (Tp a2 b2 c2),some (Il gs),none,none,none]) (bL (ρ2:=[some (Tp a2 b2 c2),none,none,none,none]) (dD (ρ1:=[some (Tp a1 b1 c1),none,none,none,none]) (n:=1 + x1) (ah rfl (ab (ρ3:=[some (Tp a1 b1 c1),none,none,none,none]) rfl rfl e1 rfl) rfl rfl rfl) rfl (by omega)) (by rw[dr];omega) rfl e2 rfl) (by rw[gw];rfl) rfl rfl) (ae (aj (ρ3:=[some (Tp a3 b3 c3),some (Il gs),some (It sh),none,none]) (aO rfl (ab (ρ3:=[some (Tp a3 b3 c3),some (Il gs),none,none,none]) rfl rfl e3 rfl) rfl (cy es)) rfl rfl rfl) (ae (aj (ρ3:=spE a3 b3 c3 gs sh [] none) rfl rfl rfl rfl) (ae (cW (dD (ρ1:=spE a5 b5 c5 gs sh [] none) (n:=20 + x5) (ah rfl (ab (ρ3:=spE a5 b5 c5 gs sh [] none) (aa rfl (aa (aO rfl (ab (ρ3:=spE a4 b4 c4 gs sh [] none) rfl rfl e4 rfl) rfl (cy ew)) af)) rfl e5 rfl) rfl rfl rfl) rfl (by omega)) e6) (az (ak rfl rfl)))))) rfl,hl ▸ hX,hc,t6⟩
structure Cf where
 rows:List R
 longs:List Int
 r0:Int
 r1:Int
structure G where
 pl:Int
 gaps:List Int
 words:List (List Int)
 bg:Int
 us:List (Int × Int)
 wt:List (Int × Int)
abbrev Lo(f:Cf):OD:=.fz (.list (f.longs.map PyData.int))
abbrev Re(f:Cf):OD:=.fz (.tuple [.int f.r0,.int f.r1])
abbrev Wq(q:Int × Int):PyData:=.tuple [.int q.1,.int q.2]
abbrev Wl(wt:List (Int × Int)):OD:=.lst ((wt.map Wq).map OD.fz)
abbrev gN:List Str:=["rows","longs","reach","place","gaps","words","begin","uses","waiting"]
abbrev gD(us:List (Int × Int)):OD:=.dic (us.map fun u=>.inl u.1) (us.map fun u=>It u.2)
abbrev gO(f:Cf)(pl:Int)(gaps:OD)(words:OD)(bg:Int)(us:OD)(wt:OD):OD:=.obj "Going" gN [Rl f.rows,Lo f,Re f,It pl,gaps,words,It bg,us,wt]
abbrev GO(f:Cf)(g:G):OD:=gO f g.pl (Il g.gaps) (.lst (g.words.map Il)) g.bg (gD g.us) (Wl g.wt)
section
variable{f:Cf}{p b:Int}{x4 x5 x7 x8:OD}{ρ:DEnv}
theorem dJ:ao (some (gO f p x4 x5 b x7 x8)::ρ) 0 [.fld "Going" "rows"]=some ((gO f p x4 x5 b x7 x8),[0],Rl f.rows):=rfl
theorem oz:ao (some (gO f p x4 x5 b x7 x8)::ρ) 0 [.fld "Going" "longs"]=some ((gO f p x4 x5 b x7 x8),[1],Lo f):=rfl
theorem jV:ao (some (gO f p x4 x5 b x7 x8)::ρ) 0 [.fld "Going" "reach"]=some ((gO f p x4 x5 b x7 x8),[2],Re f):=rfl
theorem cT:ao (some (gO f p x4 x5 b x7 x8)::ρ) 0 [.fld "Going" "place"]=some ((gO f p x4 x5 b x7 x8),[3],It p):=rfl
theorem jW:ao (some (gO f p x4 x5 b x7 x8)::ρ) 0 [.fld "Going" "gaps"]=some ((gO f p x4 x5 b x7 x8),[4],x4):=rfl
theorem cU:ao (some (gO f p x4 x5 b x7 x8)::ρ) 0 [.fld "Going" "words"]=some ((gO f p x4 x5 b x7 x8),[5],x5):=rfl
theorem jX:ao (some (gO f p x4 x5 b x7 x8)::ρ) 0 [.fld "Going" "begin"]=some ((gO f p x4 x5 b x7 x8),[6],It b):=rfl
theorem tO:ao (some (gO f p x4 x5 b x7 x8)::ρ) 0 [.fld "Going" "uses"]=some ((gO f p x4 x5 b x7 x8),[7],x7):=rfl
theorem cH:ao (some (gO f p x4 x5 b x7 x8)::ρ) 0 [.fld "Going" "waiting"]=some ((gO f p x4 x5 b x7 x8),[8],x8):=rfl
theorem f_place{q:Int}:bf "place" (It q) gN [Rl f.rows,Lo f,Re f,It p,x4,x5,It b,x7,x8]=(gN,[Rl f.rows,Lo f,Re f,It q,x4,x5,It b,x7,x8]):=rfl
theorem wy{q:Int}:bf "begin" (It q) gN [Rl f.rows,Lo f,Re f,It p,x4,x5,It b,x7,x8]=(gN,[Rl f.rows,Lo f,Re f,It p,x4,x5,It q,x7,x8]):=rfl
theorem qh{q:OD}:bf "waiting" q gN [Rl f.rows,Lo f,Re f,It p,x4,x5,It b,x7,x8]=(gN,[Rl f.rows,Lo f,Re f,It p,x4,x5,It b,x7,q]):=rfl
end
theorem Aa{n:Nat}{f:Cf}:pl.pg.call (n + 1) 11 [.obj "Going" [] [],Rl f.rows,Lo f,Re f]=some (.fz .none,[GO f ⟨0,[],[],0,[],[]⟩,Rl f.rows,Lo f,Re f]):=cP (fn:=cF) rfl rfl (ae (bK (ns':=["rows"]) (xs':=[Rl f.rows]) (ρ3:=[some (.obj "Going" ["rows"] [Rl f.rows]),some (Rl f.rows),some (Lo f),some (Re f)]) rfl rfl rfl rfl rfl rfl) (ae (bK (ns':=["rows","longs"]) (xs':=[Rl f.rows,Lo f]) (ρ3:=[some (.obj "Going" ["rows","longs"] [Rl f.rows,Lo f]),some (Rl f.rows),some (Lo f),some (Re f)]) rfl rfl rfl rfl rfl rfl) (ae (bK (ns':=["rows","longs","reach"]) (xs':=[Rl f.rows,Lo f,Re f]) (ρ3:=[some (.obj "Going" ["rows","longs","reach"] [Rl f.rows,Lo f,Re f]),some (Rl f.rows),some (Lo f),some (Re f)]) rfl rfl rfl rfl rfl rfl) (ae (bK (ns':=["rows","longs","reach","place"]) (xs':=[Rl f.rows,Lo f,Re f,It 0]) (ρ3:=[some (.obj "Going" ["rows","longs","reach","place"] [Rl f.rows,Lo f,Re f,It 0]),some (Rl f.rows),some (Lo f),some (Re f)]) rfl rfl rfl rfl rfl rfl) (ae (bK (ns':=["rows","longs","reach","place","gaps"]) (xs':=[Rl f.rows,Lo f,Re f,It 0,Il []]) (ρ3:=[some (.obj "Going" ["rows","longs","reach","place","gaps"] [Rl f.rows,Lo f,Re f,It 0,Il []]),some (Rl f.rows),some (Lo f),some (Re f)]) rfl rfl rfl rfl rfl rfl) (ae (bK (ns':=["rows","longs","reach","place","gaps","words"]) (xs':=[Rl f.rows,Lo f,Re f,It 0,Il [],.lst []]) (ρ3:=[some (.obj "Going" ["rows","longs","reach","place","gaps","words"] [Rl f.rows,Lo f,Re f,It 0,Il [],.lst []]),some (Rl f.rows),some (Lo f),some (Re f)]) rfl rfl rfl rfl rfl rfl) (ae (bK (ns':=["rows","longs","reach","place","gaps","words","begin"]) (xs':=[Rl f.rows,Lo f,Re f,It 0,Il [],.lst [],It 0]) (ρ3:=[some (.obj "Going" ["rows","longs","reach","place","gaps","words","begin"] [Rl f.rows,Lo f,Re f,It 0,Il [],.lst [],It 0]),some (Rl f.rows),some (Lo f),some (Re f)]) rfl rfl rfl rfl rfl rfl) (ae (bK (ns':=["rows","longs","reach","place","gaps","words","begin","uses"]) (xs':=[Rl f.rows,Lo f,Re f,It 0,Il [],.lst [],It 0,.dic [] []]) (ρ3:=[some (.obj "Going" ["rows","longs","reach","place","gaps","words","begin","uses"] [Rl f.rows,Lo f,Re f,It 0,Il [],.lst [],It 0,.dic [] []]),some (Rl f.rows),some (Lo f),some (Re f)]) rfl rfl rfl rfl rfl rfl) (ae (bK (ns':=["rows","longs","reach","place","gaps","words","begin","uses","waiting"]) (xs':=[Rl f.rows,Lo f,Re f,It 0,Il [],.lst [],It 0,.dic [] [],.lst []]) (ρ3:=[some (.obj "Going" ["rows","longs","reach","place","gaps","words","begin","uses","waiting"] [Rl f.rows,Lo f,Re f,It 0,Il [],.lst [],It 0,.dic [] [],.lst []]),some (Rl f.rows),some (Lo f),some (Re f)]) rfl rfl rfl rfl rfl rfl) rfl))))))))) rfl
def R.fal(r:R):Bool:=!decide (r.wd="go") && !decide (r.wd="stop")
def wz(rs:List R):Nat->Bool
 | 0=>true
 | k + 1=>(rs[k]?).elim true R.fal
def fw(rs:List R)(k:Nat)(p:Int):Int:=let q:=if wz rs k=true then p + 2 else p;q + 2 - q % 2
def sz(f:Cf)(k:Nat):Int:=if (f.rows[k]?).elim false R.gr=true\/(k:Int)∈f.longs then 2 else 1
theorem wA{n:Nat}(r:R):pl.pg.call (n + 1) 3 [Rd r]=some (.fz (.bool r.fal),[Rd r]):=by
 unfold R.fal
 have h1:∀x:Str,ev (pl.pg.ct n) (.cmp .ne (.ix (.nm 0) (.int 0)) (.str x)) [some (Rd r)]=some (.val (.fz (.bool (!decide (r.wd=x)))),[some (Rd r)]):=fun x=>av (aO rfl rfl rfl (by rw[R.d_is];exact cQ bF)) rfl rfl rfl rfl
 cases hb:(!decide (r.wd="go")) with
 | false=>exact ag (fn:=jQ) rfl rfl (az (ak (mr (by rw[<- hb];exact h1 "go")) rfl)) rfl
 | true=>rw[ab4];exact ag (fn:=jQ) rfl rfl (az (ak (jN (by rw[<- hb];exact h1 "go") (h1 "stop")) rfl)) rfl
theorem i7{rs:List R}{k:Nat}{r:R}(h:rs[k]?=some r):atI (rs.map R.d) (k:Int)=some r.d:=eA (by rw[aau,h];rfl)
theorem lh{x:Int}:∀{ls:List Int},memD (.int x) (ls.map PyData.int)=some (decide (x∈ls))
 | []=>by simp[memD]
 | y::ls=>by
  rw[aal,memD,lh (ls:=ls)]
  show some (decide (y=x) || decide (x∈ls))=_
  rw[<- Bool.decide_or]
  congr 1
  rw[decide_eq_decide,aac]
  exact⟨fun h=>h.imp Eq.symm id,fun h=>h.imp Eq.symm id⟩
theorem inL{x:Int}{ls:List Int}:lZ .inn (.int x) (.list (ls.map PyData.int))=some (decide (x∈ls)):=bs (f:=fun ds=>(gd (As (PyData.int x)=true)).bind fun _=>memD (.int x) ds) rfl (bg rfl lh)
theorem ninL{x:Int}{ls:List Int}:lZ .nin (.int x) (.list (ls.map PyData.int))=some (!decide (x∈ls)):=bs (inL (x:=x) (ls:=ls)) rfl
theorem mJ{n:Nat}{f:Cf}{k:Nat}{r:R}(h:f.rows[k]?=some r):pl.pg.call (n + 2) 4 [Rl f.rows,Lo f,It k]=some (It (sz f k),[Rl f.rows,Lo f,It k]):=by
 unfold sz;rw[h]
 have hc:=ab (C:=pl.pg.ct (n + 1)) (f:=1) (es:=.cons (.ix (.nm 0) (.nm 2)) .nil) (ρ:=[some (Rl f.rows),some (Lo f),some (It k)]) (ρ3:=[some (Rl f.rows),some (Lo f),some (It k)]) (aa (aO rfl rfl rfl (bM (i7 h))) af) rfl (z9 r) rfl
 cases hg:r.gr with
 | true =>
  rw[hg]at hc
  rw[if_pos (.inl hg)]
  exact ag (fn:=dW) rfl rfl (az (ak (iY (ik (aY hc)) rfl) rfl)) rfl
 | false =>
  rw[hg]at hc
  have hl:aZ (pl.pg.ct (n + 1)) (.cmp .inn (.nm 2) (.nm 1)) [some (Rl f.rows),some (Lo f),some (It k)]=some (decide ((k:Int)∈f.longs),[some (Rl f.rows),some (Lo f),some (It k)]):=ax (av rfl rfl rfl rfl inL)
  cases hb:decide ((k:Int)∈f.longs) with
  | true =>
   rw[hb]at hl
   rw[if_pos (.inr (of_decide_eq_true hb))]
   exact ag (fn:=dW) rfl rfl (az (ak (iY (bZ (aY hc) hl) rfl) rfl)) rfl
  | false =>
   rw[hb]at hl
   rw[if_neg fun z=>z.elim (fun z=>absurd (hg.symm.trans z) aae) fun z=>of_decide_eq_false hb z]
   exact ag (fn:=dW) rfl rfl (az (ak (og (bZ (aY hc) hl) rfl) rfl)) rfl
theorem Ab{n:Nat}{rs:List R}{k:Nat}(h:k≤rs.length):pl.pg.call (n + 2) 5 [Rl rs,It k]=some (.fz (.bool (wz rs k)),[Rl rs,It k]):=by
 cases k with
 | zero=>exact ag (fn:=eO) rfl rfl (az (ak (xy rfl) rfl)) rfl
 | succ k =>
  have hb:=wA (n:=n) rs[k]
  have e1:wz rs (k + 1)=(rs[k]).fal:=by show (rs[k]?).elim true R.fal=_;rw[aar h];rfl
  rw[e1]
  have e0:((k + 1:Nat):Int) - 1=(k:Int):=by omega
  exact ag (fn:=eO) rfl rfl (az (ak (xA (av rfl rfl rfl rfl (show some (decide (((k + 1:Nat):Int)=0))=some false by rw[decide_eq_false (by omega)])) (ab (ρ3:=[some (Rl rs),some (It (k + 1:Nat))]) (aa (aO rfl rfl rfl (bM (d:=(rs[k]).d) (by rw[e0];exact i7 (aar (by omega))))) af) rfl hb rfl)) rfl)) rfl
theorem oA{n:Nat}{rs:List R}{k:Nat}{p:Int}(h:k≤rs.length):pl.pg.call (n + 3) 6 [Rl rs,It k,It p]=some (It (fw rs k p),[Rl rs,It k,It p]):=by
 unfold fw
 have hb:=Ab (n:=n) h
 have hc:=ab (C:=pl.pg.ct (n + 2)) (f:=5) (es:=.cons (.nm 0) (.cons (.nm 1) .nil)) (ρ:=[some (Rl rs),some (It k),some (It p)]) (ρ3:=[some (Rl rs),some (It k),some (It p)]) rfl rfl hb rfl
 cases hv:wz rs k with
 | true=>rw[hv]at hc;exact ag (fn:=cR) rfl rfl (ae (aR (aY hc) (ae rfl rfl)) (az (ak (ah rfl (ah rfl rfl rfl rfl (cY (by decide))) rfl rfl rfl) rfl))) rfl
 | false=>rw[hv]at hc;exact ag (fn:=cR) rfl rfl (ae (aB (aY hc) rfl) (az (ak (ah rfl (ah rfl rfl rfl rfl (cY (by decide))) rfl rfl rfl) rfl))) rfl
theorem mK(wt:List (Int × Int)):(Wl wt).dat=some (.list (wt.map Wq)):=cS _
theorem tru_l{α:Type}{f:α->PyData}{l:List α}:jz (.list (l.map f))=some (!l.isEmpty):=by
 show some (!(l.map f).isEmpty)=_
 rw[List.isEmpty_map]
theorem tP{α:Type}{f:α->PyData}{l:List α}:jt (.list (l.map f))=some l.length:=by
 show some (l.map f).length=_
 rw[aaa]
theorem blen{α:Type}{f:α->PyData}{l:List α}:vF .len [.list (l.map f)]=some (.int l.length):=by
 show (eJ [PyData.list (l.map f)]).bind (fun d=>(jt d).bind fun n=>some (PyData.int n))=_
 exact bs rfl (bs tP rfl)
def due(f:Cf)(g:G)(k:Nat):Bool:=g.wt.head?.elim false fun q=>decide ((k:Int)=f.rows.length) || decide (fw f.rows (k + 1) (g.pl + sz f k) - q.2 > f.r1)
theorem CZ{n:Nat}{f:Cf}{g:G}{k:Nat}(hk:k≤f.rows.length):pl.pg.call (n + 4) 12 [GO f g,It k]=some (.fz (.bool (due f g k)),[GO f g,It k]):=by
 unfold due
 have ht:aZ (pl.pg.ct (n + 3)) (.not (.pt 0 [.fld "Going" "waiting"])) [some (GO f g),some (It k),none,none,none]=some (!(!g.wt.isEmpty),[some (GO f g),some (It k),none,none,none]):=bJ (iZ cH (mK _) tru_l)
 cases hw:g.wt with
 | nil =>
  rw[hw]at ht
  exact ag (fn:=bo) (ρ:=[some (GO f g),some (It k),none,none,none]) rfl rfl (az (aR ht (az rfl))) rfl
 | cons q qs =>
  rw[hw]at ht
  have hlen:ev (pl.pg.ct (n + 3)) (.blt .len (.cons (.pg 0 [.fld "Going" "rows"]) .nil)) [some (GO f g),some (It k),none,none,none]=some (.val (It f.rows.length),[some (GO f g),some (It k),none,none,none]):=aJ (aa (b9 dJ rfl) af) rfl blen
  by_cases he:(k:Int)=f.rows.length
  ·show _=some (OD.fz (PyData.bool (decide ((k:Int)=f.rows.length) || decide (fw f.rows (k + 1) (g.pl + sz f k) - q.2 > f.r1))),_)
   rw[decide_eq_true he,Bool.true_or]
   exact ag (fn:=bo) (ρ:=[some (GO f g),some (It k),none,none,none]) rfl rfl (ae (aB ht rfl) (az (aR (ax (av rfl hlen rfl rfl (show some (decide ((k:Int)=f.rows.length))=some true by rw[decide_eq_true he]))) (az rfl)))) rfl
  ·have hlt:k < f.rows.length:=by omega
   have hs:=mJ (n:=n + 1) (f:=f) (aar hlt)
   have hv:=oA (n:=n) (rs:=f.rows) (k:=k + 1) (p:=g.pl + sz f k) hlt
   show _=some (OD.fz (PyData.bool (decide ((k:Int)=f.rows.length) || decide (fw f.rows (k + 1) (g.pl + sz f k) - q.2 > f.r1))),_)
   rw[decide_eq_false he,abM]
   have hp:ao [some (GO f g),some (It k),some (It (g.pl + sz f k)),none,none] 0 [.ix 0,.fld "Going" "waiting"]=some (GO f g,[8,0],.fz (Wq q)):=bs cH (bs (x:=0) (bs rfl (by rw[hw];exact oh (k:=0) (by simp))) (bs (x:=.fz (Wq q)) (by show (List.map OD.fz (g.wt.map Wq))[0]?=_;rw[hw];rfl) rfl))
   exact ag (fn:=bo) (ρ:=[some (GO f g),some (It k),some (It (g.pl + sz f k)),some (It q.1),some (It q.2)]) rfl rfl (ae (aB ht rfl) (ae (aB (ax (av rfl hlen rfl rfl (show some (decide ((k:Int)=f.rows.length))=some false by rw[decide_eq_false he]))) rfl) (ae (aj (ρ3:=[some (GO f g),some (It k),some (It (g.pl + sz f k)),none,none]) (ah (b9 cT rfl) (ab (ρ3:=[some (GO f g),some (It k),none,none,none]) (aa (b9 dJ rfl) (aa (b9 oz rfl) (aa rfl af))) rfl hs rfl) rfl rfl rfl) rfl rfl rfl) (ae (bs (b9 hp rfl) (bs rfl (bs rfl rfl))) (az (ak (av (ah (ab (ρ3:=[some (GO f g),some (It k),some (It (g.pl + sz f k)),some (It q.1),some (It q.2)]) (aa (b9 dJ rfl) (aa rfl (aa rfl af))) rfl hv rfl) rfl rfl rfl rfl) (aO (b9 jV rfl) rfl rfl rfl) rfl rfl rfl) rfl)))))) rfl
def nu(f:Cf)(at_:Int):Int:=((f.rows[at_.toNat]?).map R.num).getD 0
def Gt(f:Cf)(at_:Int):Prop:=∃(i:Nat) (r k:Int),at_=i/\f.rows[i]?=some (.st r k)
theorem C0{f:Cf}{i:Nat}{r k:Int}(h:f.rows[i]?=some (.st r k)):nu f i=k:=by
 unfold nu
 rw[abv,h];rfl
def fB(ns:List Int)(x:Int):List Int:=if x∈ns then ns else ns++[x]
theorem ck{ns:List Int}{x:Int}:Il (ns++[x])=.lst (ns.map It++[It x]):=by rw[Il,aax];rfl
abbrev wF(wt:List (Int × Int)):OD:=.fz (.list (wt.map Wq))
theorem putK_new{us:List (Int × Int)}{a v:Int}(h:a ∉ us.map (·.1)):cM (.inl a) (.int v) (us.map fun u=>.inl u.1) (us.map fun u=>It u.2)=((us++[(a,v)]).map fun u=>.inl u.1,(us++[(a,v)]).map fun u=>It u.2):=by
 have hn:¬ ((us.map fun u=>(Sum.inl u.1:Key)).any fun q=>decide (q=.inl a))=true:=by
  intro hh
  obtain⟨q,hq,e⟩:=abY.mp hh
  obtain⟨u,hu,rfl⟩:=aaN.mp hq
  have:=of_decide_eq_true e
  cases this
  exact h (aaN.mpr ⟨u,hu,rfl⟩)
 unfold cM
 rw[if_neg hn,aax,aax];rfl
theorem tQ{C:Ct}{f:Cf}{p b:Int}{x4 x5 x7 x8:OD}{ρ:DEnv}{j:Nat}{a:Int}(hj:(some (gO f p x4 x5 b x7 x8)::ρ)[j]?.join=some (It a))(h:Gt f a):ev C (.ix (.ix (.pg 0 [.fld "Going" "rows"]) (.nm j)) (.int 2)) (some (gO f p x4 x5 b x7 x8)::ρ)=some (.val (It (nu f a)),some (gO f p x4 x5 b x7 x8)::ρ):=by
 obtain⟨i,r,k,rfl,h⟩:=h
 rw[C0 h]
 refine aO (aO (y:=.val (It i)) (n:=i) (b9 dJ rfl) ?_ rfl (bM (i7 h))) rfl rfl rfl
 rw[xg,hj]
theorem lj{n:Nat}{f:Cf}{p bg:Int}{gaps:List Int}{x5:OD}{gap:OD}{wtF:OD}(hg:gaps.length < 1000000):∀(wt:List (Int × Int)) (us:List (Int × Int)) (ns:List Int) (o3 o4:Option OD),(∀q∈wt,Gt f q.1)->(us.map (·.1)++wt.map (·.1)).Nodup->us.length + wt.length < 1000->ns.length + wt.length < 1000 ->
  ∃o3' o4',bj (fun d ρ'=>(bb (.tp [3,4]) (.fz d) ρ').bind fun ρ1=>aN (pl.pg.ct n) (match F_Going_lay.body with | .cons _ (.cons (.fr _ _ b) _)=>b | _=>.nil) ρ1) (wt.map Wq) [some (gO f p (Il gaps) x5 bg (gD us) wtF),some gap,some (Il ns),o3,o4]=some (.nx,[some (gO f p (Il gaps) x5 bg (gD (us++wt.map fun q=>(q.1,(gaps.length:Int)))) wtF),some gap,some (Il (wt.foldl (fun ns q=>fB ns (nu f q.1)) ns)),o3',o4'])
 | [],us,ns,o3,o4,_,_,_,_=>⟨o3,o4,by simp only[aaG,aaq];rfl⟩
 | q::wt,us,ns,o3,o4,hG,nd,hl,hn=>by
  rw[aap]at hl hn
  have hq:=hG q aaj
  have fresh:q.1 ∉ us.map (·.1):=fun hm=>(aaC.mp nd).2.2 q.1 hm q.1 (by rw[aal];exact aaj) rfl
  obtain⟨o3',o4',e⟩:=lj (n:=n) (f:=f) (p:=p) (bg:=bg) (x5:=x5) (gap:=gap) (wtF:=wtF) hg wt (us++[(q.1,(gaps.length:Int))]) (fB ns (nu f q.1)) (some (It q.1)) (some (It q.2)) (fun z hz=>hG z (aag _ hz)) (by rw[aax,aah];exact nd) (by rw[aam,aaE];omega) (by unfold fB;split;omega;rw[aam,aaE];omega)
  refine⟨o3',o4',bs (x:=(.nx,[some (gO f p (Il gaps) x5 bg (gD (us++[(q.1,(gaps.length:Int))])) wtF),some gap,some (Il (fB ns (nu f q.1))),some (It q.1),some (It q.2)])) (bs (x:=[some (gO f p (Il gaps) x5 bg (gD us) wtF),some gap,some (Il ns),some (It q.1),some (It q.2)]) rfl ?_) ?_⟩
  ·refine ae (tx (ρ3:=[some (gO f p (Il gaps) x5 bg (gD (us++[(q.1,(gaps.length:Int))])) wtF),some gap,some (Il ns),some (It q.1),some (It q.2)]) (CU jW (aG _) tP) rfl tO rfl rfl rfl (by rw[aaa];omega) (putK_new fresh) rfl) ?_
   have hc:aZ (pl.pg.ct n) (.cmp .nin (.ix (.ix (.pg 0 [.fld "Going" "rows"]) (.nm 3)) (.int 2)) (.nm 2)) [some (gO f p (Il gaps) x5 bg (gD (us++[(q.1,(gaps.length:Int))])) wtF),some gap,some (Il ns),some (It q.1),some (It q.2)]=some (!decide (nu f q.1∈ns),[some (gO f p (Il gaps) x5 bg (gD (us++[(q.1,(gaps.length:Int))])) wtF),some gap,some (Il ns),some (It q.1),some (It q.2)]):=ax (av (tQ rfl hq) rfl rfl (aG _) ninL)
   by_cases hm:nu f q.1∈ns
   ·rw[decide_eq_true hm]at hc
    unfold fB
    rw[if_pos hm]
    exact ae (aB hc rfl) rfl
   ·rw[decide_eq_false hm]at hc
    unfold fB
    rw[if_neg hm]
    exact ae (aR hc (ae (cb (xs:=ns.map It) rfl (tQ rfl hq) rfl rfl (by rw[aaa];omega) (by rw[ck];rfl)) rfl)) rfl
  ·rw[aah]at e
   exact e
theorem ce{α β:Type}{f:α->β}{l:List α}{x:α}:(l++[x]).map f=l.map f++[f x]:=by rw[aax];rfl
theorem wB{l:List OD}{x:OD}:(OD.lst (l++[x])).at [l.length]=some x:=by
 have e:(OD.lst (l++[x])).kids[l.length]?=some x:=by
  show (l++[x])[l.length]?=some x
  rw[abh]
 simp only[OD.at,e]
theorem ll{l:List OD}{x y:OD}:OD.put y [l.length] (.lst (l++[x]))=.lst (l++[y]):=by
 have e:(OD.lst (l++[x])).kids[l.length]?=some x:=by
  show (l++[x])[l.length]?=some x
  rw[abh]
 simp only[OD.put,e,OD.setKid]
 rw[List.set_append_right _ _ (aaf _),Nat.sub_self];rfl
def qi(f:Cf)(g:G)(k:Nat):G :=
 ⟨fw f.rows k g.pl + 2 * (g.wt.foldl (fun ns q=>fB ns (nu f q.1)) []).length,g.gaps++[(k:Int)],g.words++[g.wt.foldl (fun ns q=>fB ns (nu f q.1)) []],fw f.rows k g.pl,g.us++g.wt.map fun q=>(q.1,(g.gaps.length:Int)),[]⟩
theorem C1{n:Nat}{f:Cf}{g:G}{k:Nat}(hk:k≤f.rows.length)(hG:∀q∈g.wt,Gt f q.1)(nd:(g.us.map (·.1)++g.wt.map (·.1)).Nodup)(hl:g.us.length + g.wt.length < 1000)(hg:g.gaps.length < 1000)(hw:g.words.length < 1000) :
  pl.pg.call (n + 4) 13 [GO f g,It k]=some (.fz .none,[GO f (qi f g k),It k]):=by
 unfold qi
 obtain⟨o3,o4,e⟩:=lj (n:=n + 3) (f:=f) (p:=g.pl) (bg:=g.bg) (gaps:=g.gaps) (x5:=.lst (g.words.map Il)) (gap:=It k) (wtF:=wF g.wt) (by omega) g.wt g.us [] none none hG nd (by omega) (by rw[aaL];omega)
 generalize hns:g.wt.foldl (fun ns q=>fB ns (nu f q.1)) []=ns at e ⊢
 generalize hus:(g.us++g.wt.map fun q=>(q.1,(g.gaps.length:Int)))=us at e ⊢
 have hv:=oA (n:=n) (rs:=f.rows) (k:=k) (p:=g.pl) hk
 generalize fw f.rows k g.pl=v at hv ⊢
 refine cP (fn:=F_Going_lay) (ρ:=[some (GO f ⟨v + 2 * ns.length,g.gaps++[(k:Int)],g.words++[ns],v,us,[]⟩),some (It k),none,o3,o4]) rfl rfl ?_ rfl
 refine ae (aj (ρ3:=[some (GO f g),some (It k),some (Il []),none,none]) rfl rfl rfl rfl) ?_
 refine ae (cW (cO (ds:=g.wt.map Wq) (ρ2:=[some (gO f g.pl (Il g.gaps) (.lst (g.words.map Il)) g.bg (gD g.us) (wF g.wt)),some (It k),some (Il []),none,none]) (z5 cH (mK _) rfl) rfl rfl) e) ?_
 refine ae (mw (ρ1:=[some (gO f g.pl (Il (g.gaps++[(k:Int)])) (.lst (g.words.map Il)) g.bg (gD us) (wF g.wt)),some (It k),some (Il ns),o3,o4]) (d:=.int k) jW rfl rfl (by rw[aaa];omega) (by rw[ck];rfl)) ?_
 refine bs cU (pV (xs:=g.words.map Il) (y:=Il ns) rfl (by rw[aaa];omega) (by decide) rfl fun u=>⟨[some (gO f (v + 2 * ns.length) (Il (g.gaps++[(k:Int)])) (.lst (g.words.map Il++[.hole u])) v (gD us) (.lst [])),some (It k),some (Il ns),o3,o4],?_,?_⟩)
 ·refine ae (bK (ρ3:=[some (gO f g.pl (Il (g.gaps++[(k:Int)])) (.lst (g.words.map Il++[.hole u])) v (gD us) (wF g.wt)),some (It k),some (Il ns),o3,o4]) (ab (ρ3:=[some (gO f g.pl (Il (g.gaps++[(k:Int)])) (.lst (g.words.map Il++[.hole u])) g.bg (gD us) (wF g.wt)),some (It k),some (Il ns),o3,o4]) (aa (b9 dJ rfl) (aa rfl (aa (b9 cT rfl) af))) rfl hv rfl) rfl rfl rfl wy rfl) ?_
  refine ae (bK (z:=It (v + 2 * ns.length)) (ρ3:=[some (gO f (v + 2 * ns.length) (Il (g.gaps++[(k:Int)])) (.lst (g.words.map Il++[.hole u])) v (gD us) (wF g.wt)),some (It k),some (Il ns),o3,o4]) (ah (b9 jX rfl) (ah (dx:=.int 2) (dy:=.int ns.length) rfl (aJ rfl (kL (aG _)) blen) rfl rfl (eF (.inl (by decide)))) rfl rfl rfl) rfl rfl rfl f_place rfl) ?_
  exact ae (bK (ρ3:=[some (gO f (v + 2 * ns.length) (Il (g.gaps++[(k:Int)])) (.lst (g.words.map Il++[.hole u])) v (gD us) (.lst [])),some (It k),some (Il ns),o3,o4]) rfl rfl rfl rfl qh rfl) rfl
 ·refine⟨_,Il ns,rfl,?_,rfl,by decide,?_⟩
  ·exact wB
  ·show _=[some (gO f (v + 2 * ns.length) (Il (g.gaps++[(k:Int)])) (OD.put (Il ns) [(g.words.map Il).length] (.lst (g.words.map Il++[.hole u]))) v (gD us) (.lst [])),some (It k),none,o3,o4]
   rw[ll,<- ce];rfl
theorem tR{n:Nat}:ixN (n + 1) (-1)=some n:=by
 unfold ixN
 rw[if_neg (by decide),if_pos (by omega)]
 congr 1
 omega
theorem mL{f:Cf}{p b:Int}{x4 x7 x8 y:OD}{l:List OD}{ρ:DEnv}:ao (some (gO f p x4 (.lst (l++[y])) b x7 x8)::ρ) 0 [.ix (-1),.fld "Going" "words"]=some (gO f p x4 (.lst (l++[y])) b x7 x8,[5,l.length],y) :=
 bs cU (bs (x:=l.length) (by show ixN (l++[y]).length (-1)=_;rw[aam];exact tR) (bs (x:=y) (by show (l++[y])[l.length]?=_;rw[abh]) rfl))
theorem oB:∀ws:List (List Int),OD.dats (ws.map Il)=some (ws.map fun w=>.list (w.map PyData.int))
 | []=>rfl
 | w::ws=>by rw[aal,OD.dats,aG,oB ws];rfl
theorem iA(ws:List (List Int)):(OD.lst (ws.map Il)).dat=some (.list (ws.map fun w=>.list (w.map PyData.int))):=by rw[OD.dat,oB]
theorem tS{n:Nat}{f:Cf}{g:G}{x:Int}(h:g.words=[]):pl.pg.call (n + 1) 14 [GO f g,It x]=some (.fz (.bool false),[GO f g,It x]):=by
 have ht:aZ (pl.pg.ct n) (.not (.pt 0 [.fld "Going" "words"])) [some (GO f g),some (It x)]=some (!(!g.words.isEmpty),[some (GO f g),some (It x)]):=bJ (iZ cU (iA _) tru_l)
 rw[h]at ht
 exact ag (fn:=bx) (ρ:=[some (GO f g),some (It x)]) rfl rfl (az (aR (ik ht) (az rfl))) rfl
theorem oC{n:Nat}{f:Cf}{g:G}{x:Int}{ws:List (List Int)}{w:List Int}(h:g.words=ws++[w]):pl.pg.call (n + 1) 14 [GO f g,It x]=some (.fz (.bool (decide (x∈w/\g.pl - g.bg≤f.r0))),[GO f g,It x]):=by
 have ht:aZ (pl.pg.ct n) (.not (.pt 0 [.fld "Going" "words"])) [some (GO f g),some (It x)]=some (!(!g.words.isEmpty),[some (GO f g),some (It x)]):=bJ (iZ cU (iA _) tru_l)
 have hx:(!(!g.words.isEmpty))=false:=by rw[h];cases ws<;>rfl
 rw[hx]at ht
 have hp:aZ (pl.pg.ct n) (.pin true (.nm 1) 0 [.ix (-1),.fld "Going" "words"]) [some (GO f g),some (It x)]=some (!decide (x∈w),[some (GO f g),some (It x)]):=by
  rw[GO,h,ce]
  exact tw rfl rfl mL (aG w) ninL
 by_cases hm:x∈w
 ·rw[decide_eq_true hm]at hp
  have e:decide (x∈w/\g.pl - g.bg≤f.r0)=decide (g.pl - g.bg≤f.r0):=by rw[decide_eq_decide];exact⟨fun z=>z.2,fun z=>⟨hm,z⟩⟩
  rw[e]
  exact ag (fn:=bx) (ρ:=[some (GO f g),some (It x)]) rfl rfl (ae (aB (bZ ht hp) rfl) (az (ak (av (ah (b9 cT rfl) (b9 jX rfl) rfl rfl rfl) (aO (b9 jV rfl) rfl rfl rfl) rfl rfl rfl) rfl))) rfl
 ·rw[decide_eq_false hm]at hp
  rw[decide_eq_false (fun z=>hm z.1)]
  exact ag (fn:=bx) (ρ:=[some (GO f g),some (It x)]) rfl rfl (az (aR (bZ ht hp) (az rfl))) rfl
theorem Ac{n:Nat}{f:Cf}{g:G}{x:Int}(h:g.words=[]):pl.pg.call (n + 1) 15 [GO f g,It x]=some (.fz (.bool false),[GO f g,It x]):=by
 have ht:aZ (pl.pg.ct n) (.not (.pt 0 [.fld "Going" "words"])) [some (GO f g),some (It x)]=some (!(!g.words.isEmpty),[some (GO f g),some (It x)]):=bJ (iZ cU (iA _) tru_l)
 rw[h]at ht
 exact ag (fn:=aW) (ρ:=[some (GO f g),some (It x)]) rfl rfl (az (aR (ik ht) (az rfl))) rfl
theorem xD{n:Nat}{f:Cf}{g:G}{x:Int}{ws:List (List Int)}{w:List Int}(h:g.words=ws++[w]):pl.pg.call (n + 1) 15 [GO f g,It x]=some (.fz (.bool (decide (g.wt=[]/\x ∉ w/\g.pl + 2 - g.bg≤f.r0))),[GO f g,It x]):=by
 have ht:aZ (pl.pg.ct n) (.not (.pt 0 [.fld "Going" "words"])) [some (GO f g),some (It x)]=some (!(!g.words.isEmpty),[some (GO f g),some (It x)]):=bJ (iZ cU (iA _) tru_l)
 have hx:(!(!g.words.isEmpty))=false:=by rw[h];cases ws<;>rfl
 rw[hx]at ht
 have hw:aZ (pl.pg.ct n) (.pt 0 [.fld "Going" "waiting"]) [some (GO f g),some (It x)]=some (!g.wt.isEmpty,[some (GO f g),some (It x)]):=iZ cH (mK _) tru_l
 have hp:aZ (pl.pg.ct n) (.pin false (.nm 1) 0 [.ix (-1),.fld "Going" "words"]) [some (GO f g),some (It x)]=some (decide (x∈w),[some (GO f g),some (It x)]):=by
  rw[GO,h,ce]
  exact tw rfl rfl mL (aG w) inL
 cases hwt:g.wt with
 | cons q qs =>
  rw[hwt]at hw
  rw[decide_eq_false (fun z=>List.cons_ne_nil _ _ z.1)]
  exact ag (fn:=aW) (ρ:=[some (GO f g),some (It x)]) rfl rfl (az (aR (bZ ht (ik hw)) (az rfl))) rfl
 | nil =>
  rw[hwt]at hw
  by_cases hm:x∈w
  ·rw[decide_eq_true hm]at hp
   rw[decide_eq_false (fun z=>z.2.1 hm)]
   exact ag (fn:=aW) (ρ:=[some (GO f g),some (It x)]) rfl rfl (az (aR (bZ ht (bZ hw hp)) (az rfl))) rfl
  ·rw[decide_eq_false hm]at hp
   have e:decide (([]:List (Int × Int))=[]/\x ∉ w/\g.pl + 2 - g.bg≤f.r0)=decide (g.pl + 2 - g.bg≤f.r0):=by rw[decide_eq_decide];exact⟨fun z=>z.2.2,fun z=>⟨rfl,hm,z⟩⟩
   rw[e]
   exact ag (fn:=aW) (ρ:=[some (GO f g),some (It x)]) rfl rfl (ae (aB (bZ ht (bZ hw hp)) rfl) (az (ak (av (ah (ah (b9 cT rfl) rfl rfl rfl rfl) (b9 jX rfl) rfl rfl rfl) (aO (b9 jV rfl) rfl rfl rfl) rfl rfl rfl) rfl))) rfl
theorem tT{n:Nat}{f:Cf}{g:G}{o:OD}{x:Int}{k:Bool}(h:pl.pg.call (n + 1) 15 [GO f g,It x]=some (.fz (.bool k),[GO f g,It x])):aZ (pl.pg.ct (n + 1)) (.meth "Going" "may_put" 15 0 (.cons (.nm 2) .nil)) [some (GO f g),some o,some (It x)]=some (k,[some (GO f g),some o,some (It x)]):=mq (eN (ρ3:=[some (GO f g),some o,some (It x)]) rfl (by decide +kernel) rfl rfl h rfl)
theorem tU{n:Nat}{f:Cf}{g:G}{o:OD}{x:Int}{k:Bool}(h:pl.pg.call (n + 1) 14 [GO f g,It x]=some (.fz (.bool k),[GO f g,It x])):aZ (pl.pg.ct (n + 1)) (.meth "Going" "finds" 14 0 (.cons (.nm 2) .nil)) [some (GO f g),some o,some (It x)]=some (k,[some (GO f g),some o,some (It x)]):=mq (eN (ρ3:=[some (GO f g),some o,some (It x)]) rfl (by decide +kernel) rfl rfl h rfl)
inductive Come (f:Cf)(g:G)(a:Int):G->Prop
 | put {ws:List (List Int)} {w:List Int} (h:g.words=ws++[w]) (hw:g.wt=[]) (hn:nu f a ∉ w) (hr:g.pl + 2 - g.bg≤f.r0):Come f g a ⟨g.pl + 2,g.gaps,ws++[w++[nu f a]],g.bg,g.us++[(a,(g.gaps.length:Int) - 1)],g.wt⟩
 | got {ws:List (List Int)} {w:List Int} (h:g.words=ws++[w]) (hn:nu f a∈w) (hr:g.pl - g.bg≤f.r0):Come f g a ⟨g.pl,g.gaps,g.words,g.bg,g.us++[(a,(g.gaps.length:Int) - 1)],g.wt⟩
 | wait (h:∀ws w,g.words=ws++[w]->g.wt=[]->(nu f a∈w/\f.r0 < g.pl - g.bg)\/(nu f a ∉ w/\f.r0 < g.pl + 2 - g.bg)):Come f g a ⟨g.pl,g.gaps,g.words,g.bg,g.us,g.wt++[(a,g.pl)]⟩
theorem lp{n:Nat}{f:Cf}{g:G}{a x:Int}(fresh:a ∉ g.us.map (·.1))(hl:g.us.length < 1000):aN (pl.pg.ct (n + 1)) (.cons (.std 0 [.fld "Going" "uses"] 1 (.bop .sub (.pl 0 [.fld "Going" "gaps"]) (.int 1))) .nil) [some (GO f g),some (It a),some (It x)]=some (.nx,[some (GO f ⟨g.pl,g.gaps,g.words,g.bg,g.us++[(a,(g.gaps.length:Int) - 1)],g.wt⟩),some (It a),some (It x)]) :=
 ae (tx (ah (CU jW (aG _) tP) rfl rfl rfl rfl) rfl tO rfl rfl rfl (by rw[aaa];omega) (putK_new fresh) rfl) rfl
theorem wC{wt:List (Int × Int)}{q:Int × Int}:Wl (wt++[q])=.lst ((wt.map Wq).map OD.fz++[.fz (Wq q)]):=by rw[Wl,ce,ce]
theorem i8{n:Nat}{f:Cf}{g:G}{a x:Int}(hl:g.wt.length < 1000):aN (pl.pg.ct (n + 1)) (.cons (.apd 0 [.fld "Going" "waiting"] (.tup (.cons (.nm 1) (.cons (.pg 0 [.fld "Going" "place"]) .nil)))) .nil) [some (GO f g),some (It a),some (It x)]=some (.nx,[some (GO f ⟨g.pl,g.gaps,g.words,g.bg,g.us,g.wt++[(a,g.pl)]⟩),some (It a),some (It x)]) :=
 ae (mw (d:=Wq (a,g.pl)) cH (bs (bs rfl (bs (bs (bs cT rfl) rfl) rfl)) rfl) rfl (by rw[aaa,aaa];omega) (by show _=[some (gO f g.pl (Il g.gaps) (.lst (g.words.map Il)) g.bg (gD g.us) (Wl (g.wt++[(a,g.pl)]))),some (It a),some (It x)];rw[wC];rfl)) rfl
theorem Ad{n:Nat}{f:Cf}{g:G}{a:Int}(hG:Gt f a)(fresh:a ∉ g.us.map (·.1))(hl:g.us.length < 1000)(hw:g.wt.length < 1000)(hws:∀w∈g.words,w.length < 1000):∃g',pl.pg.call (n + 2) 16 [GO f g,It a]=some (.fz .none,[GO f g',It a])/\Come f g a g':=by
 have hs:cI (pl.pg.ct (n + 1)) (.set 2 (.ix (.ix (.pg 0 [.fld "Going" "rows"]) (.nm 1)) (.int 2))) [some (GO f g),some (It a),none]=some (.nx,[some (GO f g),some (It a),some (It (nu f a))]):=aj (tQ rfl hG) rfl rfl rfl
 rcases abi g.words with h | ⟨ws,w,h⟩
 ·exact⟨_,cP (fn:=bp) rfl rfl (ae hs (ae (aB (tT (Ac h)) rfl) (ae (aB (tU (tS h)) (i8 hw)) rfl))) rfl,.wait fun ws w z=>absurd (h.symm.trans z) (by simp)⟩
 ·rw[abj]at h
  by_cases hp:g.wt=[]/\nu f a ∉ w/\g.pl + 2 - g.bg≤f.r0
  ·have e1:=tT (o:=It a) (xD (n:=n) (f:=f) (x:=nu f a) h)
   rw[decide_eq_true hp]at e1
   have hb:aN (pl.pg.ct (n + 1)) (.cons (.apd 0 [.ix (-1),.fld "Going" "words"] (.nm 2)) (.cons (.agf 0 "Going" "place" .add (.gc 2)) .nil)) [some (GO f g),some (It a),some (It (nu f a))]=some (.nx,[some (GO f ⟨g.pl + 2,g.gaps,ws++[w++[nu f a]],g.bg,g.us,g.wt⟩),some (It a),some (It (nu f a))]):=by
    have hwl:w.length < 1000:=hws w (by rw[h];exact aab _ aaj)
    rw[GO,h,ce]
    refine ae (mw (ρ1:=[some (gO f g.pl (Il g.gaps) (.lst (ws.map Il++[Il (w++[nu f a])])) g.bg (gD g.us) (Wl g.wt)),some (It a),some (It (nu f a))]) (d:=.int (nu f a)) mL rfl rfl (by rw[aaa];omega) ?_) (ae (tz cT rfl rfl rfl rfl rfl rfl f_place ?_) rfl)
    ·show [some (gO f g.pl (Il g.gaps) (OD.put (.lst (w.map It++[It (nu f a)])) [(ws.map Il).length] (.lst (ws.map Il++[Il w]))) g.bg (gD g.us) (Wl g.wt)),some (It a),some (It (nu f a))]=_
     rw[ll,ck]
    ·rw[GO,ce];rfl
   have e2:=tU (o:=It a) (oC (n:=n) (f:=f) (x:=nu f a) (g:=⟨g.pl + 2,g.gaps,ws++[w++[nu f a]],g.bg,g.us,g.wt⟩) (ws:=ws) (w:=w++[nu f a]) rfl)
   rw[decide_eq_true ⟨aab _ aaj,hp.2.2⟩]at e2
   exact⟨_,cP (fn:=bp) rfl rfl (ae hs (ae (aR e1 hb) (ae (aR e2 (lp (g:=⟨g.pl + 2,g.gaps,ws++[w++[nu f a]],g.bg,g.us,g.wt⟩) fresh hl)) rfl))) rfl,.put h hp.1 hp.2.1 hp.2.2⟩
  ·have e1:=tT (o:=It a) (xD (n:=n) (f:=f) (x:=nu f a) h)
   rw[decide_eq_false hp]at e1
   have e2:=tU (o:=It a) (oC (n:=n) (f:=f) (x:=nu f a) h)
   by_cases hq:nu f a∈w/\g.pl - g.bg≤f.r0
   ·rw[decide_eq_true hq]at e2
    exact⟨_,cP (fn:=bp) rfl rfl (ae hs (ae (aB e1 rfl) (ae (aR e2 (lp fresh hl)) rfl))) rfl,.got h hq.1 hq.2⟩
   ·rw[decide_eq_false hq]at e2
    refine⟨_,cP (fn:=bp) rfl rfl (ae hs (ae (aB e1 rfl) (ae (aB e2 (i8 hw)) rfl))) rfl,.wait fun ws' w' z hwt=>?_⟩
    obtain⟨rfl,e⟩:=List.append_inj' (h.symm.trans z) rfl
    obtain rfl:=(List.cons.inj e).1
    by_cases hm:nu f a∈w
    ·exact .inl ⟨hm,Int.not_le.mp fun z=>hq ⟨hm,z⟩⟩
    ·exact .inr ⟨hm,Int.not_le.mp fun z=>hp ⟨hwt,hm,z⟩⟩
def gIx:Int->List R->List Int
 | _,[]=>[]
 | i,r::rs=>if r.gr=true then i::gIx (i + 1) rs else gIx (i + 1) rs
theorem oE:∀{a b:List R} {i:Int},gIx i (a++b)=gIx i a++gIx (i + a.length) b
 | [],b,i=>by simp[gIx]
 | r::a,b,i=>by
  have e:i + 1 + (a.length:Int)=i + ((r::a).length:Nat):=by rw[aap];omega
  rw[aaI,gIx,gIx,oE (a:=a),e]
  split<;>rfl
theorem dX:∀{rs:List R} {i a:Int},a∈gIx i rs->∃(j:Nat) (r:R),a=i + j/\rs[j]?=some r/\r.gr=true
 | [],i,a,h=>absurd h aak
 | r::rs,i,a,h=>by
  rw[gIx]at h
  by_cases hg:r.gr=true
  ·rw[if_pos hg]at h
   rcases aac.mp h with rfl | h
   ·exact⟨0,r,by simp,rfl,hg⟩
   ·obtain⟨j,q,e,h1,h2⟩:=dX h
    exact⟨j + 1,q,by rw[e];omega,h1,h2⟩
  ·rw[if_neg hg]at h
   obtain⟨j,q,e,h1,h2⟩:=dX h
   exact⟨j + 1,q,by rw[e];omega,h1,h2⟩
theorem dY:∀{rs:List R} {i:Int},(gIx i rs).Nodup
 | [],i=>aa8
 | r::rs,i=>by
  rw[gIx]
  split
  ·refine aaz.mpr ⟨fun h=>?_,dY⟩
   obtain⟨j,q,e,_⟩:=dX h
   omega
  ·exact dY
theorem gr_st{r:R}(h:r.gr=true):∃x k,r=.st x k:=by
 cases r with
 | st x k=>exact⟨x,k,rfl⟩
 | ot w xs hw=>cases h
theorem Ae{f:Cf}{k:Nat}{a:Int}(h:a∈gIx 0 (f.rows.take k)):Gt f a:=by
 obtain⟨j,r,e,h1,h2⟩:=dX h
 obtain⟨x,y,rfl⟩:=gr_st h2
 refine⟨j,x,y,by omega,?_⟩
 rw[List.getElem?_take]at h1
 split at h1
 ·exact h1
 ·cases h1
theorem fD:∀{rs:List R} {i:Int},(gIx i rs).length=(rs.filter R.gr).length
 | [],i=>rfl
 | r::rs,i=>by
  rw[gIx]
  by_cases hg:r.gr=true
  ·rw[if_pos hg,acl hg,aap,aap,fD]
  ·rw[if_neg hg,ab2 hg,fD]
theorem tV{ns:List Int}{x:Int}:(fB ns x).length≤ns.length + 1:=by
 unfold fB
 split
 ·omega
 ·rw[aam,aaE];exact aaf _
theorem tW{f:Cf}{k:Nat}{r:R}(h:f.rows[k]?=some r):f.rows.take (k + 1)=f.rows.take k++[r]:=by rw[List.take_succ,h];rfl
theorem jY{f:Cf}{k:Nat}{r:R}(h:f.rows[k]?=some r):gIx 0 (f.rows.take (k + 1))=gIx 0 (f.rows.take k)++if r.gr=true then [(k:Int)] else []:=by
 have hk:=(aas.mp h).1
 rw[tW h,oE,aa0,Nat.min_eq_left (by omega),gIx,gIx,Int.zero_add]
theorem lq{f:Cf}:∀{wt:List (Int × Int)} {ns:List Int},(wt.foldl (fun ns q=>fB ns (nu f q.1)) ns).length≤ns.length + wt.length
 | [],ns=>aaf _
 | q::wt,ns=>by
  have h1:=lq (f:=f) (wt:=wt) (ns:=fB ns (nu f q.1))
  have h2:=tV (ns:=ns) (x:=nu f q.1)
  rw[List.foldl_cons,aap]
  omega
structure Iv (f:Cf)(g:G)(k m:Nat):Prop where
 ix:g.us.map (·.1)++g.wt.map (·.1)=gIx 0 (f.rows.take k)
 wl:g.words.length=g.gaps.length
 gl:g.gaps.length≤m
 wn:∀w∈g.words,w.length≤g.us.length
 far:g.wt≠[]->g.words≠[]->f.r0 < g.pl - g.bg
theorem Iv.start{f:Cf}:Iv f ⟨0,[],[],0,[],[]⟩ 0 0:=⟨rfl,rfl,aaf _,fun w h=>absurd h aak,fun h=>absurd rfl h⟩
theorem Iv.lay{f:Cf}{g:G}{k m:Nat}(I:Iv f g k m):Iv f (qi f g k) k (m + 1):=by
 refine⟨?_,?_,?_,fun w hw=>?_,fun h=>absurd rfl h⟩
 ·show (g.us++_).map (·.1)++[]=_
  rw[aaq,aax,aa3,<- I.ix];rfl
 ·show (g.words++[_]).length=(g.gaps++[_]).length
  rw[aam,aam,I.wl];rfl
 ·show (g.gaps++[_]).length≤m + 1
  rw[aam,aaE]
  exact Nat.succ_le_succ I.gl
 ·show w.length≤(g.us++g.wt.map _).length
  rw[aam,aaa]
  rcases aai.mp hw with h | h
  ·exact aan (I.wn w h) (aa7 _ _)
  ·rw[aat.mp h]
   have:=lq (f:=f) (wt:=g.wt) (ns:=[])
   rw[aaL,aaK]at this
   exact aan this (Nat.le_add_left _ _)
theorem Iv.come{f:Cf}{g g':G}{k m:Nat}(I:Iv f g k m){r:R}(hr:f.rows[k]?=some r)(hg:r.gr=true)(h:Come f g k g'):Iv f ⟨g'.pl + 2,g'.gaps,g'.words,g'.bg,g'.us,g'.wt⟩ (k + 1) m:=by
 have hx:∀j:Int,g.wt=[]->(g.us++[((k:Int),j)]).map (·.1)++g.wt.map (·.1)=gIx 0 (f.rows.take (k + 1)):=fun j hw=>by
  have e0:=I.ix
  rw[jY hr,if_pos hg,<- e0,hw,aaG,aaq,aaq,aax];rfl
 have hl:∀j:Int,(g.us++[((k:Int),j)]).length=g.us.length + 1:=fun j=>by rw[aam];rfl
 cases h with
 | @put ws w h hw hn =>
  have e1:=I.wl
  rw[h,aam]at e1
  refine⟨hx _ hw,?_,I.gl,fun v hv=>?_,fun z=>absurd hw z⟩
  ·show (ws++[_]).length=_
   rw[aam];exact e1
  ·show v.length≤(g.us++[_]).length
   rw[hl]
   rcases aai.mp hv with z | z
   ·exact Nat.le_succ_of_le (I.wn v (by rw[h];exact aad _ z))
   ·rw[aat.mp z,aam,aaE]
    exact Nat.succ_le_succ (I.wn w (by rw[h];exact aab _ aaj))
 | @got ws w h hn h0 =>
  have hw:g.wt=[]:=by
   by_cases hw:g.wt=[]
   ·exact hw
   ·have:=I.far hw (by rw[h];simp);omega
  exact⟨hx _ hw,I.wl,I.gl,fun v hv=>by show _≤(g.us++[_]).length;rw[hl];exact Nat.le_succ_of_le (I.wn v hv),fun z=>absurd hw z⟩
 | wait h =>
  refine⟨?_,I.wl,I.gl,I.wn,fun _ hw=>?_⟩
  ·show g.us.map (·.1)++(g.wt++[_]).map (fun u:Int × Int=>u.1)=_
   rw[jY hr,if_pos hg,aax,<- aah,I.ix];rfl
  ·show f.r0 < g.pl + 2 - g.bg
   by_cases hwt:g.wt=[]
   ·rcases abi g.words with e | ⟨ws,w,e⟩
    ·exact absurd e hw
    ·rw[abj]at e
     rcases h ws w e hwt with z | z<;>omega
   ·have:=I.far hwt hw;omega
theorem Iv.skip{f:Cf}{g:G}{k m:Nat}(I:Iv f g k m){r:R}(hr:f.rows[k]?=some r)(hg:r.gr=false){s:Int}(hs:1≤s):Iv f ⟨g.pl + s,g.gaps,g.words,g.bg,g.us,g.wt⟩ (k + 1) m :=
 ⟨by rw[jY hr,hg,if_neg aae,aaq];exact I.ix,I.wl,I.gl,I.wn,fun h h'=>by have:=I.far h h';show f.r0 < g.pl + s - g.bg;omega⟩
theorem Iv.more{f:Cf}{g:G}{k m m':Nat}(I:Iv f g k m)(h:m≤m'):Iv f g k m':=⟨I.ix,I.wl,aan I.gl h,I.wn,I.far⟩
theorem Iv.len{f:Cf}{g:G}{k m:Nat}(I:Iv f g k m):g.us.length + g.wt.length≤k:=by
 have:=congrArg List.length I.ix
 rw[aam,aaa,aaa,fD]at this
 rw[this]
 exact aan (abB _ _) (by rw[aa0];exact Nat.min_le_left _ _)
theorem Iv.words_lt{f:Cf}{g:G}{k m:Nat}(I:Iv f g k m):∀w∈g.words,w.length≤k:=fun w hw=>aan (I.wn w hw) (aan (aa7 _ _) I.len)
theorem Iv.nodup{f:Cf}{g:G}{k m:Nat}(I:Iv f g k m):(g.us.map (·.1)++g.wt.map (·.1)).Nodup:=by rw[I.ix];exact dY
theorem Iv.gt{f:Cf}{g:G}{k m:Nat}(I:Iv f g k m):∀q∈g.wt,Gt f q.1:=fun q hq=>Ae (k:=k) (by rw[<- I.ix];exact aab _ (aaN.mpr ⟨q,hq,rfl⟩))
def laysG(f:Cf)(g:G)(k:Nat):G:=if due f g k=true then qi f g k else g
theorem Af{n:Nat}{f:Cf}{g:G}{k:Nat}(I:Iv f g k k)(hk:k≤f.rows.length)(hN:f.rows.length≤200):cI (pl.pg.ct (n + 4)) (.iff (.meth "Going" "is_due" 12 0 (.cons (.nm 1) .nil)) (.cons (.ex (.meth "Going" "lay" 13 0 (.cons (.nm 1) .nil))) .nil) .nil) [some (GO f g),some (It k)]=some (.nx,[some (GO f (laysG f g k)),some (It k)])/\Iv f (laysG f g k) k (k + 1):=by
 have hb:=CZ (n:=n) (f:=f) (g:=g) hk
 unfold laysG
 generalize due f g k=b at hb ⊢
 have ht:aZ (pl.pg.ct (n + 4)) (.meth "Going" "is_due" 12 0 (.cons (.nm 1) .nil)) [some (GO f g),some (It k)]=some (b,[some (GO f g),some (It k)]):=mq (eN (ρ3:=[some (GO f g),some (It k)]) rfl (by decide +kernel) rfl rfl hb rfl)
 cases b with
 | false=>exact⟨aB ht rfl,I.more (abn _)⟩
 | true =>
  have hl:=I.len
  have hg:=I.gl
  have hwl:=I.wl
  have e:=C1 (n:=n) hk I.gt I.nodup (by omega) (by omega) (by omega)
  exact⟨aR ht (ae (tD (eN rfl (by decide +kernel) rfl rfl e rfl)) rfl),I.lay⟩
structure Cross (f:Cf)(g:G)(k:Nat)(g2:G):Prop where
 gr:(f.rows[k]?).elim false R.gr=true->Come f (laysG f g k) k g2
 no:(f.rows[k]?).elim false R.gr=false->g2=laysG f g k
abbrev tX(g:G)(s:Int):G:=⟨g.pl + s,g.gaps,g.words,g.bg,g.us,g.wt⟩
theorem xE{f:Cf}{k:Nat}{r:R}(hr:f.rows[k]?=some r)(hg:r.gr=true):sz f k=2:=by unfold sz;rw[hr];exact if_pos (.inl hg)
theorem Ag{f:Cf}{k:Nat}:1≤sz f k:=by unfold sz;split<;>decide
theorem oF{n:Nat}{f:Cf}{g:G}{k:Nat}(I:Iv f g k k)(hk:k≤f.rows.length)(hN:f.rows.length≤200):(k < f.rows.length->∃g2,pl.pg.call (n + 5) 17 [GO f g,It k]=some (.fz .none,[GO f (tX g2 (sz f k)),It k])/\Cross f g k g2/\Iv f (tX g2 (sz f k)) (k + 1) (k + 1))/\(k=f.rows.length->pl.pg.call (n + 5) 17 [GO f g,It k]=some (.fz .none,[GO f (laysG f g k),It k])/\Iv f (laysG f g k) k (k + 1)):=by
 obtain⟨e1,I1⟩:=Af (n:=n) I hk hN
 generalize hg1:laysG f g k=g1 at e1 I1 ⊢
 have hlen:ev (pl.pg.ct (n + 4)) (.blt .len (.cons (.pg 0 [.fld "Going" "rows"]) .nil)) [some (GO f g1),some (It k)]=some (.val (It f.rows.length),[some (GO f g1),some (It k)]):=aJ (aa (b9 dJ rfl) af) rfl blen
 by_cases hlt:k < f.rows.length
 ·have hr:=aar hlt
  refine⟨fun _=>?_,fun e=>absurd e (by omega)⟩
  have hs:=mJ (n:=n + 2) (f:=f) hr
  have hr':(f.rows[k]?).elim false R.gr=(f.rows[k]).gr:=by rw[hr];rfl
  have ht:=ax (av (C:=pl.pg.ct (n + 4)) (ρ:=[some (GO f g1),some (It k)]) (a:=.nm 1) (o:=.lt) (k:=true) rfl hlen rfl rfl (show some (decide ((k:Int) < f.rows.length))=some true by rw[decide_eq_true (by omega)]))
  have hc:aZ (pl.pg.ct (n + 4)) (.call 1 (.cons (.ix (.pg 0 [.fld "Going" "rows"]) (.nm 1)) .nil)) [some (GO f g1),some (It k)]=some ((f.rows[k]).gr,[some (GO f g1),some (It k)]):=aY (ab (ρ3:=[some (GO f g1),some (It k)]) (aa (aO (b9 dJ rfl) rfl rfl (bM (i7 hr))) af) rfl (z9 _) rfl)
  have hadd:∀g2:G,cI (pl.pg.ct (n + 4)) (.agf 0 "Going" "place" .add (.call 4 (.cons (.pg 0 [.fld "Going" "rows"]) (.cons (.pg 0 [.fld "Going" "longs"]) (.cons (.nm 1) .nil))))) [some (GO f g2),some (It k)]=some (.nx,[some (GO f (tX g2 (sz f k))),some (It k)]):=fun g2=>tz cT rfl (ab (ρ3:=[some (GO f g2),some (It k)]) (aa (b9 dJ rfl) (aa (b9 oz rfl) (aa rfl af))) rfl hs rfl) rfl rfl rfl rfl f_place rfl
  cases hg:(f.rows[k]).gr with
  | false =>
   rw[hg]at hc
   exact⟨_,cP (fn:=bz) rfl rfl (ae e1 (ae (aR ht (ae (aB hc rfl) (ae (hadd g1) rfl))) rfl)) rfl,⟨fun z=>absurd (hg.symm.trans (hr'.symm.trans z)) aae,fun _=>hg1.symm⟩,I1.skip hr hg Ag⟩
  | true =>
   rw[hg]at hc
   obtain⟨x,y,est⟩:=gr_st hg
   have hl:=I1.len
   obtain⟨g2,e2,C2⟩:=Ad (n:=n + 2) (f:=f) (g:=g1) (a:=k) ⟨k,x,y,rfl,by rw[hr,est]⟩ (fun hm=>by
    have:=dX (i:=0) (rs:=f.rows.take k) (a:=k) (by rw[<- I1.ix];exact aad _ hm)
    obtain⟨j,r,e,h1,_⟩:=this
    have:=(aas.mp h1).1
    rw[aa0]at this
    omega) (by omega) (by omega) (fun w hw=>by have:=I1.words_lt w hw;omega)
   exact⟨_,cP (fn:=bz) rfl rfl (ae e1 (ae (aR ht (ae (aR hc (ae (tD (eN (ρ3:=[some (GO f g2),some (It k)]) rfl (by decide +kernel) rfl rfl e2 rfl)) rfl)) (ae (hadd g2) rfl))) rfl)) rfl,⟨fun _=>by rw[hg1];exact C2,fun z=>absurd (hg.symm.trans (hr'.symm.trans z)).symm aae⟩,by rw[xE hr hg];exact I1.come hr hg C2⟩
 ·have ht:=ax (av (C:=pl.pg.ct (n + 4)) (ρ:=[some (GO f g1),some (It k)]) (a:=.nm 1) (o:=.lt) (k:=false) rfl hlen rfl rfl (show some (decide ((k:Int) < f.rows.length))=some false by rw[decide_eq_false (by omega)]))
  exact⟨fun h=>absurd h hlt,fun _=>⟨cP (fn:=bz) rfl rfl (ae e1 (ae (aB ht rfl) rfl)) rfl,I1⟩⟩
def enF:Int->List R->List PyData
 | _,[]=>[]
 | i,r::rs=>.tuple [.int i,r.d]::enF (i + 1) rs
theorem oG:∀{rs:List R} {i:Int} {j:Nat},(enF i rs)[j]?=(rs[j]?).map fun r=>.tuple [.int (i + j),r.d]
 | [],_,_=>by simp[enF]
 | r::rs,i,0=>by simp[enF]
 | r::rs,i,j + 1=>by
  rw[enF,acm,acm,oG]
  congr 1
  funext r
  have e:i + 1 + (j:Int)=i + ((j + 1:Nat):Int):=by omega
  rw[e]
theorem gC(rs:List R):cC (rs.map R.d)=enF 0 rs:=by
 refine List.ext_getElem? fun j=>?_
 rw[oG,Int.zero_add]
 unfold cC
 rw[aau,aaa]
 by_cases hj:j < rs.length
 ·rw[List.getElem?_range hj,aar hj]
  simp[ace,aau,aar hj]
 ·rw[acn (by simpa using hj),acn (by omega)];rfl
theorem jZ{n:Nat}:∀{rs:List R} {i:Int} {out:List PyData} {o0 o1:Option OD},∃ρ',aU (aV (pl.pg.ct (n + 1)) (.tp [0,1]) (.some (.call 1 (.cons (.nm 1) .nil))) (.nm 0)) (enF i rs) out [o0,o1]=some (out++(gIx i rs).map PyData.int,ρ')
 | [],i,out,o0,o1=>⟨[o0,o1],by rw[gIx,aaG,aaq];rfl⟩
 | r::rs,i,out,o0,o1=>by
  have hc:aZ (pl.pg.ct (n + 1)) (.call 1 (.cons (.nm 1) .nil)) [some (It i),some (Rd r)]=some (r.gr,[some (It i),some (Rd r)]):=aY (ab (ρ3:=[some (It i),some (Rd r)]) rfl rfl (z9 r) rfl)
  rw[gIx]
  cases hg:r.gr with
  | false =>
   rw[hg]at hc
   obtain⟨ρ',e⟩:=jZ (n:=n) (rs:=rs) (i:=i + 1) (out:=out++[]) (o0:=some (It i)) (o1:=some (Rd r))
   refine⟨ρ',bs (x:=([],[some (It i),some (Rd r)])) (qe rfl hc) ?_⟩
   rw[if_neg aae,e,aaq]
  | true =>
   rw[hg]at hc
   obtain⟨ρ',e⟩:=jZ (n:=n) (rs:=rs) (i:=i + 1) (out:=out++[.int i]) (o0:=some (It i)) (o1:=some (Rd r))
   refine⟨ρ',bs (x:=([.int i],[some (It i),some (Rd r)])) (qd rfl hc rfl rfl) ?_⟩
   rw[if_pos rfl,e,aah];rfl
theorem iB{n:Nat}{rs:List R}(hr:rs.length≤1000):pl.pg.call (n + 2) 2 [Rl rs]=some (Il (gIx 0 rs),[Rl rs]):=by
 obtain⟨ρ',e⟩:=jZ (n:=n) (rs:=rs) (i:=0) (out:=[]) (o0:=none) (o1:=none)
 rw[aaP,<- gC]at e
 refine ag (fn:=gj) (ρ:=[some (Rl rs)]) rfl rfl (az (ak (z:=Il (gIx 0 rs)) (bL (ρ2:=[some (Rl rs)]) (jO rfl rfl) (by rw[cD,aaa];omega) rfl e unca_nil) (by rw[gw];rfl))) rfl
abbrev Po(q:Int × List Int):PyData:=.tuple [.int q.1,.tuple (q.2.map PyData.int)]
abbrev Pn(ps:List (Int × List Int))(us:List Int):OD:=.tup [.fz (.list (ps.map Po)),Il us]
theorem iC{C:Ct}:∀{gs:List Int} {ws:List (List Int)} {out:List PyData} {o0 o1:Option OD},∃ρ',aU (aV C (.tp [0,1]) .none (.tup (.cons (.nm 0) (.cons (.bnw .tuple (.nm 1)) .nil)))) (eh (gs.map PyData.int) (ws.map fun w=>.list (w.map PyData.int))) out [o0,o1]=some (out++(gs.zip ws).map Po,ρ')
 | [],ws,out,o0,o1=>⟨[o0,o1],by simp only[aaG,List.zip_nil_left,aaq];rfl⟩
 | g::gs,[],out,o0,o1=>⟨[o0,o1],by simp only[aaG,List.zip_nil_right,aaq];rfl⟩
 | g::gs,w::ws,out,o0,o1=>by
  obtain⟨ρ',e⟩:=iC (C:=C) (gs:=gs) (ws:=ws) (out:=out++[Po (g,w)]) (o0:=some (It g)) (o1:=some (.fz (.list (w.map PyData.int))))
  refine⟨ρ',bs (x:=([Po (g,w)],[some (It g),some (.fz (.list (w.map PyData.int)))])) (kY rfl (dB (z:=.fz (Po (g,w))) (aa rfl (aa (wq rfl rfl) af)) rfl rfl rfl) rfl) ?_⟩
  rw[aah]at e
  exact e
theorem find_key:∀{us:List (Int × Int)} {i:Nat} {u:Int × Int},(us.map (·.1)).Nodup->us[i]?=some u->(us.map fun u=>(Sum.inl u.1:Key)).findIdx? (fun q=>decide (q=.inl u.1))=some i
 | [],_,_,_,h=>by simp at h
 | v::us,0,u,_,h=>by
  cases h
  rw[aal,abe]
  simp
 | v::us,i + 1,u,nd,h=>by
  rw[aal]at nd
  obtain⟨n1,n2⟩:=aaz.mp nd
  have h:us[i]?=some u:=h
  have hne:v.1≠u.1:=fun e=>n1 (by rw[e];exact aaN.mpr ⟨u,abp h,rfl⟩)
  rw[aal,abe,find_key n2 h]
  have hd:decide ((Sum.inl v.1:Key)=.inl u.1)=false:=decide_eq_false fun e=>hne (Sum.inl.inj e)
  rw[hd];rfl
theorem i9{C:Ct}{f:Cf}{p b:Int}{x4 x5 x8:OD}{us:List (Int × Int)}(nd:(us.map (·.1)).Nodup):∀{vs:List (Int × Int)} {i:Nat} {out:List PyData} {o:Option OD},us.drop i=vs->∃o',aU (aV C (.nm 0) .none (.pg 1 [.key 0,.fld "Going" "uses"])) ((vs.map (·.1)).map PyData.int) out [o,some (gO f p x4 x5 b (gD us) x8)]=some (out++(vs.map (·.2)).map PyData.int,[o',some (gO f p x4 x5 b (gD us) x8)])
 | [],i,out,o,_=>⟨o,by simp only[aaG,aaq];rfl⟩
 | v::vs,i,out,o,h=>by
  have hi:us[i]?=some v:=by
   have:=congrArg (fun l=>l[0]?) h
   simp only[List.getElem?_drop,Nat.add_zero]at this
   exact this
  have ht:us.drop (i + 1)=vs:=by
   have:=congrArg List.tail h
   rw[List.tail_drop]at this
   exact this
  obtain⟨o',e⟩:=i9 (C:=C) (f:=f) (p:=p) (b:=b) (x4:=x4) (x5:=x5) (x8:=x8) nd (vs:=vs) (out:=out++[.int v.2]) (o:=some (It v.1)) ht
  have hp:ao [some (It v.1),some (gO f p x4 x5 b (gD us) x8)] 1 [.key 0,.fld "Going" "uses"]=some (gO f p x4 x5 b (gD us) x8,[7,i],It v.2):=bs (x:=(gO f p x4 x5 b (gD us) x8,[7],gD us)) rfl (bs (x:=i) (find_key nd hi) (bs (x:=It v.2) (by show (us.map fun u=>It u.2)[i]?=_;rw[aau,hi];rfl) rfl))
  refine⟨o',bs (x:=([.int v.2],[some (It v.1),some (gO f p x4 x5 b (gD us) x8)])) (kY rfl (b9 hp rfl) rfl) ?_⟩
  rw[aah]at e
  exact e
theorem Ah{n:Nat}{f:Cf}{g:G}(hr:f.rows.length≤1000)(hg:g.gaps.length < 1000)(hw:g.words.length=g.gaps.length)(hu:g.us.map (·.1)=gIx 0 f.rows):∃y,pl.pg.call (n + 3) 18 [GO f g]=some (Pn (g.gaps.zip g.words) (g.us.map (·.2)),[y]):=by
 obtain⟨ρ1,e1⟩:=iC (C:=pl.pg.ct (n + 2)) (gs:=g.gaps) (ws:=g.words) (out:=[]) (o0:=none) (o1:=none)
 obtain⟨o2,e2⟩:=i9 (C:=pl.pg.ct (n + 2)) (f:=f) (p:=g.pl) (b:=g.bg) (x4:=.fz (.list (g.gaps.map PyData.int))) (x5:=.fz (.list (g.words.map fun w=>.list (w.map PyData.int)))) (x8:=Wl g.wt) (us:=g.us) (by rw[hu];exact dY) (vs:=g.us) (i:=0) (out:=[]) (o:=none) rfl
 rw[aaP]at e1 e2
 rw[hu]at e2
 generalize hO:gO f g.pl (.fz (.list (g.gaps.map PyData.int))) (.fz (.list (g.words.map fun w=>.list (w.map PyData.int)))) g.bg (gD g.us) (Wl g.wt)=O at e2
 have hus:(g.us.map (·.1)).length=(gIx 0 f.rows).length:=by rw[hu]
 refine⟨O,ag (fn:=fh) (ρ:=[some O,some (.fz (.list ((g.gaps.zip g.words).map Po)))]) rfl rfl (ae (aj (ρ3:=[some O,some (.lst (((g.gaps.zip g.words).map Po).map OD.fz))]) (bL (ρ2:=[some O,none]) (mz (ρ1:=[some (gO f g.pl (.fz (.list (g.gaps.map PyData.int))) (.lst (g.words.map Il)) g.bg (gD g.us) (Wl g.wt)),none]) (ρ2:=[some O,none]) (z5 jW (aG _) rfl) (z5 cU (iA _) (by rw[<- hO];rfl)) rfl rfl rfl rfl) ?_ rfl e1 unca_nil) rfl rfl rfl) (az (ak (z:=Pn (g.gaps.zip g.words) (g.us.map (·.2))) (dB (rs:=[.rf 1,.val (Il (g.us.map (·.2)))]) (zs:=[.fz (.list ((g.gaps.zip g.words).map Po)),Il (g.us.map (·.2))]) (ρ1:=[some O,some (.lst (((g.gaps.zip g.words).map Po).map OD.fz))]) (ρ2:=[some O,some (.fz (.list ((g.gaps.zip g.words).map Po)))]) (aa rfl (aa ?_ af)) rfl ?_ rfl) rfl))) rfl⟩
 ·unfold eh
  rw[ab5,aaa]
  omega
 ·have:=bL (C:=pl.pg.ct (n + 2)) (ρ:=[some O,some (.lst (((g.gaps.zip g.words).map Po).map OD.fz))]) (ρ2:=[some O,some (.lst (((g.gaps.zip g.words).map Po).map OD.fz))]) (nt:=1) (fr:=[0]) (it:=.seq (.call 2 (.cons (.pg 0 [.fld "Going" "rows"]) .nil))) (cO (ds:=(gIx 0 f.rows).map PyData.int) (ab (ρ3:=[some O,some (.lst (((g.gaps.zip g.words).map Po).map OD.fz))]) (aa (b9 (d:=.list (f.rows.map R.d)) (p:=(O,[0],Rl f.rows)) (by rw[<- hO];rfl) rfl) af) rfl (iB (n:=n) hr) rfl) (show frz1 _ (.val (Il (gIx 0 f.rows)))=some (.list ((gIx 0 f.rows).map PyData.int),_) by show ((Il (gIx 0 f.rows)).dat).map _=_;rw[aG];rfl) rfl) (by rw[aaa];rw[fD];have:=abB R.gr f.rows;omega) (zc:=([some O],[none,some (.lst (((g.gaps.zip g.words).map Po).map OD.fz))])) (by rw[<- hO];rfl) e2 rfl
  rw[gw]at this
  exact this
 ·exact bs (x:=(.fz (.list ((g.gaps.zip g.words).map Po)),[some O,some (.fz (.list ((g.gaps.zip g.words).map Po)))])) (by show (frz1 _ (.rf 1)).map _=_;rw[dH rfl (cS _) rfl];rfl) rfl
theorem bu{lo:Int}{n:Nat}:bU lo (n + 1)=.int lo::bU (lo + 1) n:=by
 unfold bU
 rw[List.range_succ_eq_map,aal,aa3]
 congr 1
 ·simp
 ·refine aci fun i _=>?_
  show PyData.int (lo + ((i + 1:Nat):Int))=_
  congr 1
  omega
abbrev pE(f:Cf)(g:G)(o:Option OD):DEnv:=[some (Rl f.rows),some (Lo f),some (Re f),some (GO f g),o]
inductive Gone (f:Cf):Nat->G->Prop
 | zero:Gone f 0 ⟨0,[],[],0,[],[]⟩
 | step {k:Nat} {g g2:G} (h:Gone f k g) (hk:k < f.rows.length) (I:Iv f g k k) (C:Cross f g k g2):Gone f (k + 1) (tX g2 (sz f k))
theorem wD{f:Cf}{g:G}(h:g.wt≠[]):due f g f.rows.length=true:=by
 unfold due
 cases hw:g.wt with
 | nil=>exact absurd hw h
 | cons q qs=>show (decide _ || _)=true;rw[decide_eq_true rfl];rfl
theorem lr{f:Cf}{g:G}:(laysG f g f.rows.length).wt=[]:=by
 unfold laysG
 by_cases h:g.wt=[]
 ·split
  ·rfl
  ·exact h
 ·rw[if_pos (wD h)];rfl
theorem iD{n:Nat}{f:Cf}{g g':G}{o:Option OD}{k:Nat}(e:pl.pg.call (n + 5) 17 [GO f g,It k]=some (.fz .none,[GO f g',It k])):((bb (.nm 4) (.fz (.int k)) (pE f g o)).bind fun ρ1=>aN (pl.pg.ct (n + 5)) (.cons (.ex (.meth "Going" "cross" 17 3 (.cons (.nm 4) .nil))) .nil) ρ1)=some (.nx,pE f g' (some (It k))) :=
 bs (x:=pE f g (some (It k))) rfl (ae (tD (eN (ρ3:=pE f g' (some (It k))) rfl (by decide +kernel) rfl rfl e rfl)) rfl)
theorem iF{n:Nat}{f:Cf}(hN:f.rows.length≤200):∀{m k:Nat} {g:G} {o:Option OD},k + m=f.rows.length->Iv f g k k->Gone f k g->∃g' o',bj (fun d ρ'=>(bb (.nm 4) (.fz d) ρ').bind fun ρ1=>aN (pl.pg.ct (n + 5)) (.cons (.ex (.meth "Going" "cross" 17 3 (.cons (.nm 4) .nil))) .nil) ρ1) (bU k (m + 1)) (pE f g o)=some (.nx,pE f (laysG f g' f.rows.length) o')/\Iv f g' f.rows.length f.rows.length/\Iv f (laysG f g' f.rows.length) f.rows.length (f.rows.length + 1)/\Gone f f.rows.length g'
 | 0,k,g,o,h,I,W=>by
  obtain rfl:k=f.rows.length:=h
  obtain⟨e,J⟩:=(oF (n:=n) I (aaf _) hN).2 rfl
  refine⟨g,some (It f.rows.length),?_,I,J,W⟩
  rw[bu]
  exact bs (iD e) rfl
 | m + 1,k,g,o,h,I,W=>by
  have hk:k < f.rows.length:=by omega
  obtain⟨g2,e,C,J⟩:=(oF (n:=n) I (aaQ hk) hN).1 hk
  obtain⟨g'',o',e',h'⟩:=iF (n:=n) hN (m:=m) (k:=k + 1) (o:=some (It k)) (by omega) J (.step W hk I C)
  refine⟨g'',o',?_,h'⟩
  rw[bu]
  exact bs (iD e) e'
theorem C3{n:Nat}{f:Cf}:(pl.pg.ct (n + 5)).mak 11 [.obj "Going" [] [],Rl f.rows,Lo f,Re f]=some (.fz .none,[GO f ⟨0,[],[],0,[],[]⟩,Rl f.rows,Lo f,Re f]):=by
 have e:(pl.pg.ct (n + 5)).mak=pl.pg.mak (n + 5):=rfl
 rw[e,Pg.mak_succ pl.pg (n + 4) 11]
 exact Aa
theorem wG{n:Nat}{f:Cf}(hN:f.rows.length≤200):∃g:G,pl.pg.call (n + 6) 19 [Rl f.rows,Lo f,Re f]=some (Pn (g.gaps.zip g.words) (g.us.map (·.2)),[Rl f.rows,Lo f,Re f])/\∃g0,g=laysG f g0 f.rows.length/\Iv f g0 f.rows.length f.rows.length/\Iv f g f.rows.length (f.rows.length + 1)/\Gone f f.rows.length g0:=by
 obtain⟨g0,o,e,I0,I,W⟩:=iF (n:=n) hN (m:=f.rows.length) (k:=0) (g:=⟨0,[],[],0,[],[]⟩) (o:=none) (by omega) Iv.start .zero
 have hw:=lr (f:=f) (g:=g0)
 generalize hg:laysG f g0 f.rows.length=g at e I hw
 have hu:g.us.map (·.1)=gIx 0 f.rows:=by
  have:=I.ix
  rw[hw,aaG,aaq,abS]at this
  exact this
 have hgl:=I.gl
 obtain⟨y,ep⟩:=Ah (n:=n + 2) (f:=f) (g:=g) (by omega) (by omega) I.wl hu
 refine⟨g,ag (fn:=gm) (ρ:=[some (Rl f.rows),some (Lo f),some (Re f),some y,o]) rfl rfl ?_ rfl,g0,hg.symm,I0,I,W⟩
 refine ae (aj (ρ3:=pE f ⟨0,[],[],0,[],[]⟩ none) (zZ rfl rfl C3 rfl) rfl rfl rfl) ?_
 refine ae (cW (dD (n:=f.rows.length + 1) (ρ1:=pE f ⟨0,[],[],0,[],[]⟩ none) (ah (dx:=.int f.rows.length) (aJ rfl rfl blen) rfl rfl rfl rfl) rfl (by omega)) (by rw[show ((f.rows.length:Int) + 1).toNat=f.rows.length + 1 by omega];exact e)) ?_
 exact az (ak (eN (ρ3:=[some (Rl f.rows),some (Lo f),some (Re f),some y,o]) rfl (by decide +kernel) rfl rfl ep rfl) rfl)
structure Mc where
 ps:List Int
 bs:List Int
 pl:Int
def inn(f:Cf)(k:Nat)(s:Mc)(q:Int × List Int):Mc:=if q.1=(k:Int) then ⟨s.ps,s.bs++[fw f.rows k s.pl],fw f.rows k s.pl + 2 * q.2.length⟩ else s
def inner(f:Cf)(qs:List (Int × List Int))(k:Nat)(s:Mc):Mc:=qs.foldl (inn f k) s
def Ai(f:Cf)(k:Nat)(s:Mc):Mc:=⟨s.ps++[s.pl],s.bs,s.pl + sz f k⟩
def mac(f:Cf)(qs:List (Int × List Int)):Nat->Mc
 | 0=>⟨[],[],0⟩
 | k + 1=>Ai f k (inner f qs k (mac f qs k))
theorem lu{f:Cf}{k:Nat}:∀{qs:List (Int × List Int)} {s:Mc},(∀q∈qs,q.1≠(k:Int))->inner f qs k s=s
 | [],s,_=>rfl
 | q::qs,s,h=>by
  show inner f qs k (inn f k s q)=s
  have e:inn f k s q=s:=if_neg (h q aaj)
  rw[e]
  exact lu fun q hq=>h q (aag _ hq)
theorem mM{f:Cf}{qs:List (Int × List Int)}{k:Nat}(h:∀q∈qs,q.1≠(k:Int)):mac f qs (k + 1)=Ai f k (mac f qs k):=by
 show Ai f k (inner f qs k (mac f qs k))=_
 rw[lu h]
theorem Aj{f:Cf}{k:Nat}{s:Mc}{q:Int × List Int}:(inn f k s q).ps=s.ps:=by unfold inn;split<;>rfl
theorem fE{f:Cf}{k:Nat}:∀{qs:List (Int × List Int)} {s:Mc},(inner f qs k s).ps=s.ps
 | [],s=>rfl
 | q::qs,s=>by
  show (inner f qs k (inn f k s q)).ps=_
  rw[fE,Aj]
theorem dZ{f:Cf}{qs:List (Int × List Int)}:∀{k:Nat},(mac f qs k).ps.length=k
 | 0=>rfl
 | k + 1=>by
  show ((inner f qs k (mac f qs k)).ps++[_]).length=_
  rw[fE,aam,dZ];rfl
theorem mac_pre{f:Cf}{qs:List (Int × List Int)}{k:Nat}:∀{m i:Nat},i < k->(mac f qs (k + m)).ps[i]?=(mac f qs k).ps[i]?
 | 0,i,_=>rfl
 | m + 1,i,h=>by
  show ((inner f qs (k + m) (mac f qs (k + m))).ps++[_])[i]?=_
  rw[fE,abc (by rw[dZ];omega)]
  exact mac_pre h
abbrev Pz:=List (Int × List Int)
theorem wH{n:Nat}{f:Cf}{k:Nat}{r:R}(h:f.rows[k]?=some r):pl.pg.call (n + 2) 28 [Rl f.rows,Lo f,It k]=some (It (sz f k),[Rl f.rows,Lo f,It k]):=by
 unfold sz;rw[h]
 have hc:=ab (C:=pl.pg.ct (n + 1)) (f:=27) (es:=.cons (.ix (.nm 0) (.nm 2)) .nil) (ρ:=[some (Rl f.rows),some (Lo f),some (It k)]) (ρ3:=[some (Rl f.rows),some (Lo f),some (It k)]) (aa (aO rfl rfl rfl (bM (i7 h))) af) rfl (k7 r) rfl
 cases hg:r.gr with
 | true =>
  rw[hg]at hc
  rw[if_pos (.inl hg)]
  exact ag (fn:=jR) rfl rfl (az (ak (iY (ik (aY hc)) rfl) rfl)) rfl
 | false =>
  rw[hg]at hc
  have hl:aZ (pl.pg.ct (n + 1)) (.cmp .inn (.nm 2) (.nm 1)) [some (Rl f.rows),some (Lo f),some (It k)]=some (decide ((k:Int)∈f.longs),[some (Rl f.rows),some (Lo f),some (It k)]):=ax (av rfl rfl rfl rfl inL)
  cases hb:decide ((k:Int)∈f.longs) with
  | true =>
   rw[hb]at hl
   rw[if_pos (.inr (of_decide_eq_true hb))]
   exact ag (fn:=jR) rfl rfl (az (ak (iY (bZ (aY hc) hl) rfl) rfl)) rfl
  | false =>
   rw[hb]at hl
   rw[if_neg fun z=>z.elim (fun z=>absurd (hg.symm.trans z) aae) fun z=>of_decide_eq_false hb z]
   exact ag (fn:=jR) rfl rfl (az (ak (og (bZ (aY hc) hl) rfl) rfl)) rfl
theorem lw{f:Cf}{k:Nat}:∀{qs:Pz} {s:Mc},(inner f qs k s).bs.length=s.bs.length + qs.countP fun q=>decide (q.1=(k:Int))
 | [],s=>rfl
 | q::qs,s=>by
  show (inner f qs k (inn f k s q)).bs.length=_
  rw[lw,abC]
  unfold inn
  by_cases h:q.1=(k:Int)
  ·rw[if_pos h,decide_eq_true h,if_pos rfl]
   show (s.bs++[_]).length + _=_
   rw[aam,aaE];omega
  ·rw[if_neg h,decide_eq_false h,if_neg aae];omega
theorem lx{k:Nat}:∀{qs:Pz},(∀q∈qs,0≤q.1)->qs.countP (fun q=>decide (q.1 < ((k + 1:Nat):Int)))=qs.countP (fun q=>decide (q.1 < (k:Int))) + qs.countP fun q=>decide (q.1=(k:Int))
 | [],_=>rfl
 | q::qs,h=>by
  rw[abC,abC,abC,lx fun q hq=>h q (aag _ hq)]
  simp only[decide_eq_true_eq]
  split<;>split<;>split<;>omega
theorem j2{f:Cf}{qs:Pz}(h:∀q∈qs,0≤q.1):∀{k:Nat},(mac f qs k).bs.length=qs.countP fun q=>decide (q.1 < (k:Int))
 | 0=>by
  show 0=_
  rw[eq_comm,List.countP_eq_zero]
  intro q hq z
  have:=h q hq
  have:=of_decide_eq_true z
  omega
 | k + 1=>by
  show (inner f qs k (mac f qs k)).bs.length=_
  rw[lw,j2 h,lx h]
abbrev Pq(qs:Pz):OD:=.fz (.list (qs.map Po))
abbrev qE(f:Cf)(qs:Pz)(s:Mc)(k:Nat)(o7 o8:Option OD):DEnv:=[some (Rl f.rows),some (Lo f),some (Pq qs),some (Il s.ps),some (Il s.bs),some (It s.pl),some (It k),o7,o8]
abbrev E5:E:=.or (.cmp .eq (.nm 6) (.int 0)) (.cmp .nin (.ix (.ix (.nm 0) (.bop .sub (.nm 6) (.int 1))) (.int 0)) (.tup (.cons (.str "go") (.cons (.str "stop") .nil))))
theorem wI(r:R):lZ .nin (.str r.wd) (.tuple [.str "go",.str "stop"])=some r.fal:=by
 show some (!(decide ("go"=r.wd) || (decide ("stop"=r.wd) || false)))=some (!decide (r.wd="go") && !decide (r.wd="stop"))
 rw[Bool.or_false,Bool.not_or,decide_eq_decide.mpr (eq_comm (a:=Str.ofString "go")),decide_eq_decide.mpr (eq_comm (a:=Str.ofString "stop"))]
theorem E6{n:Nat}{f:Cf}{qs:Pz}{s:Mc}{k:Nat}{o7 o8:Option OD}(h:k≤f.rows.length):ev (pl.pg.ct n) E5 (qE f qs s k o7 o8)=some (.val (.fz (.bool (wz f.rows k))),qE f qs s k o7 o8):=by
 cases k with
 | zero=>exact xy rfl
 | succ k =>
  have e0:((k + 1:Nat):Int) - 1=(k:Int):=by omega
  have e1:wz f.rows (k + 1)=(f.rows[k]).fal:=by show (f.rows[k]?).elim true R.fal=_;rw[aar h];rfl
  rw[e1]
  exact xA (av rfl rfl rfl rfl (show some (decide (((k + 1:Nat):Int)=0))=some false by rw[decide_eq_false (by omega)])) (av (dx:=.str (f.rows[k]).wd) (dy:=.tuple [.str "go",.str "stop"]) (aO (aO rfl rfl rfl (bM (d:=(f.rows[k]).d) (by rw[e0];exact i7 (aar (by omega))))) rfl rfl (by rw[R.d_is];exact cQ bF)) rfl rfl rfl (wI _))
abbrev Ds:Ss:=.cons (.iff (.cmp .eq (.nm 7) (.nm 6)) (.cons (.set 5 (.bop .add (.nm 5) (.bop .mul (.int 2) (.blt .int (.cons E5 .nil))))) (.cons (.set 5 (.bop .sub (.bop .add (.nm 5) (.int 2)) (.bop .mod (.nm 5) (.int 2)))) (.cons (.app 4 (.nm 5)) (.cons (.set 5 (.bop .add (.nm 5) (.bop .mul (.int 2) (.blt .len (.cons (.nm 8) .nil))))) .nil)))) .nil) .nil
abbrev Tn(q:Int × List Int):OD:=.fz (.tuple (q.2.map PyData.int))
abbrev qF(f:Cf)(qs:Pz)(s:Mc)(k:Nat)(q:Int × List Int):DEnv:=qE f qs s k (some (It q.1)) (some (Tn q))
theorem wJ{n:Nat}{f:Cf}{qs:Pz}{s:Mc}{k:Nat}{q:Int × List Int}(h:k≤f.rows.length)(hb:s.bs.length < 1000):aN (pl.pg.ct n) Ds (qF f qs s k q)=some (.nx,qF f qs (inn f k s q) k q):=by
 unfold inn
 by_cases e:q.1=(k:Int)
 ·rw[if_pos e]
  have ho:=E6 (n:=n) (qs:=qs) (s:=s) (o7:=some (It q.1)) (o8:=some (Tn q)) h
  refine ae (aR (ax (av rfl rfl rfl rfl (show some (decide (q.1=(k:Int)))=some true by rw[decide_eq_true e]))) ?_) rfl
  have hi:∀v,wz f.rows k=v->cI (pl.pg.ct n) (.set 5 (.bop .add (.nm 5) (.bop .mul (.int 2) (.blt .int (.cons E5 .nil))))) (qF f qs s k q)=some (.nx,qF f qs ⟨s.ps,s.bs,if v=true then s.pl + 2 else s.pl⟩ k q):=fun v hv=>by
   rw[hv]at ho
   cases v with
   | true=>exact aj (ah rfl (ah (dx:=.int 2) (dy:=.int 1) rfl (aJ (aa ho af) rfl rfl) rfl rfl rfl) rfl rfl rfl) rfl rfl rfl
   | false=>exact aj (ah (dx:=.int s.pl) (dy:=.int 0) (d:=.int s.pl) rfl (ah (dx:=.int 2) (dy:=.int 0) rfl (aJ (aa ho af) rfl rfl) rfl rfl rfl) rfl rfl (by show some (PyData.int (s.pl + 0))=_;rw[Int.add_zero])) rfl rfl rfl
  refine ae (hi _ rfl) ?_
  generalize hq:(if wz f.rows k=true then s.pl + 2 else s.pl)=p
  have hfw:fw f.rows k s.pl=p + 2 - p % 2:=by unfold fw;rw[hq]
  rw[hfw]
  refine ae (aj (ρ3:=qF f qs ⟨s.ps,s.bs,p + 2 - p % 2⟩ k q) (ah rfl (ah rfl rfl rfl rfl (cY (by decide))) rfl rfl rfl) rfl rfl rfl) ?_
  refine ae (cb (ρ3:=qF f qs ⟨s.ps,s.bs++[p + 2 - p % 2],p + 2 - p % 2⟩ k q) rfl rfl rfl rfl (by rw[aaa];exact abu hb (by decide)) (by show _=[some (Rl f.rows),some (Lo f),some (Pq qs),some (Il s.ps),some (Il (s.bs++[p + 2 - p % 2])),some (It (p + 2 - p % 2)),some (It k),some (It q.1),some (Tn q)];rw[ck];rfl)) ?_
  exact ae (aj (ah rfl (ah (dx:=.int 2) (dy:=.int q.2.length) rfl (aJ rfl rfl (by show some (PyData.int ((q.2.map PyData.int).length:Nat))=_;rw[aaa])) rfl rfl (eF (.inl (by decide)))) rfl rfl rfl) rfl rfl rfl) rfl
 ·rw[if_neg e]
  exact ae (aB (ax (av rfl rfl rfl rfl (show some (decide (q.1=(k:Int)))=some false by rw[decide_eq_false e]))) rfl) rfl
abbrev Fx(n:Nat)(d:PyData)(ρ':DEnv):Option (Fl × DEnv):=(bb (.tp [7,8]) (.fz d) ρ').bind fun ρ1=>aN (pl.pg.ct n) Ds ρ1
theorem oH{n:Nat}{f:Cf}{qs:Pz}{k:Nat}(h:k≤f.rows.length):∀{rs:Pz} {s:Mc} {o7 o8:Option OD},s.bs.length + rs.length < 1000->∃o7' o8',bj (Fx n) (rs.map Po) (qE f qs s k o7 o8)=some (.nx,qE f qs (inner f rs k s) k o7' o8')
 | [],s,o7,o8,_=>⟨o7,o8,rfl⟩
 | q::rs,s,o7,o8,hb=>by
  rw[aap]at hb
  have e:Fx n (Po q) (qE f qs s k o7 o8)=some (.nx,qF f qs (inn f k s q) k q):=bs (x:=qF f qs s k q) rfl (wJ h (by omega))
  have hb':(inn f k s q).bs.length + rs.length < 1000:=by
   unfold inn
   split
   ·show (s.bs++[_]).length + _ < _
    rw[aam,aaE];omega
   ·omega
  obtain⟨o7',o8',e'⟩:=oH (n:=n) (qs:=qs) h (rs:=rs) (s:=inn f k s q) (o7:=some (It q.1)) (o8:=some (Tn q)) hb'
  exact⟨o7',o8',bs e e'⟩
abbrev qG(f:Cf)(qs:Pz)(s:Mc)(o6 o7 o8:Option OD):DEnv:=[some (Rl f.rows),some (Lo f),some (Pq qs),some (Il s.ps),some (Il s.bs),some (It s.pl),o6,o7,o8]
abbrev FV:Ss:=.cons (.fr (.tp [7,8]) (.seq (.nm 2)) Ds) (.cons (.iff (.cmp .lt (.nm 6) (.blt .len (.cons (.nm 0) .nil))) (.cons (.app 3 (.nm 5)) (.cons (.set 5 (.bop .add (.nm 5) (.call 28 (.cons (.nm 0) (.cons (.nm 1) (.cons (.nm 6) .nil)))))) .nil)) .nil) .nil)
abbrev Fy(n:Nat)(d:PyData)(ρ':DEnv):Option (Fl × DEnv):=(bb (.nm 6) (.fz d) ρ').bind fun ρ1=>aN (pl.pg.ct n) FV ρ1
theorem xF{n:Nat}{f:Cf}{qs:Pz}{s:Mc}{k:Nat}{o7 o8:Option OD}:aZ (pl.pg.ct n) (.cmp .lt (.nm 6) (.blt .len (.cons (.nm 0) .nil))) (qE f qs s k o7 o8)=some (decide ((k:Int) < (f.rows.length:Int)),qE f qs s k o7 o8):=ax (av (dx:=.int k) (dy:=.int f.rows.length) rfl (aJ rfl rfl (by show some (PyData.int ((f.rows.map R.d).length:Nat))=_;rw[aaa])) rfl rfl rfl)
theorem xG{n:Nat}{f:Cf}{qs:Pz}{s:Mc}{k:Nat}{o7 o8:Option OD}(h:k≤f.rows.length)(hb:s.bs.length + qs.length < 1000):∃o7' o8',cI (pl.pg.ct n) (.fr (.tp [7,8]) (.seq (.nm 2)) Ds) (qE f qs s k o7 o8)=some (.nx,qE f qs (inner f qs k s) k o7' o8'):=by
 obtain⟨o7',o8',e⟩:=oH (n:=n) (qs:=qs) h (rs:=qs) (s:=s) (o7:=o7) (o8:=o8) hb
 exact⟨o7',o8',cW (cO (ρ2:=qE f qs s k o7 o8) rfl rfl rfl) e⟩
theorem wK{n:Nat}{f:Cf}{qs:Pz}{s:Mc}{k:Nat}{o6 o7 o8:Option OD}(h:k < f.rows.length)(hb:s.bs.length + qs.length < 1000)(hp:s.ps.length < 1000):∃o6' o7' o8',Fy (n + 2) (.int k) (qG f qs s o6 o7 o8)=some (.nx,qG f qs (Ai f k (inner f qs k s)) o6' o7' o8'):=by
 obtain⟨o7',o8',e⟩:=xG (n:=n + 2) (qs:=qs) (s:=s) (o7:=o7) (o8:=o8) (aaQ h) hb
 have hp':(inner f qs k s).ps.length < 1000000:=by rw[fE];omega
 generalize inner f qs k s=t at e hp'
 have ht:=xF (n:=n + 2) (f:=f) (qs:=qs) (s:=t) (k:=k) (o7:=o7') (o8:=o8')
 rw[decide_eq_true (by omega)]at ht
 refine⟨some (It k),o7',o8',bs (x:=qE f qs s k o7 o8) rfl (ae e (ae (aR ht (ae (cb (ρ3:=qE f qs ⟨t.ps++[t.pl],t.bs,t.pl⟩ k o7' o8') rfl rfl rfl rfl (by rw[aaa];exact hp') ?_) (ae (aj (ρ3:=qE f qs (Ai f k t) k o7' o8') (ah rfl (ab (ρ3:=qE f qs ⟨t.ps++[t.pl],t.bs,t.pl⟩ k o7' o8') rfl rfl (wH (n:=n) (aar h)) rfl) rfl rfl rfl) rfl rfl rfl) rfl))) rfl))⟩
 show _=[some (Rl f.rows),some (Lo f),some (Pq qs),some (Il (t.ps++[t.pl])),some (Il t.bs),some (It t.pl),some (It k),o7',o8']
 rw[ck];rfl
theorem oI{n:Nat}{f:Cf}{qs:Pz}(h0:∀q∈qs,0≤q.1)(hq:qs.length≤300)(hN:f.rows.length≤200):∀{m k:Nat} {o6 o7 o8:Option OD},k + m=f.rows.length->∃o6' o7' o8',bj (Fy (n + 2)) (bU k (m + 1)) (qG f qs (mac f qs k) o6 o7 o8)=some (.nx,qG f qs (inner f qs f.rows.length (mac f qs f.rows.length)) o6' o7' o8')
 | 0,k,o6,o7,o8,h=>by
  obtain rfl:k=f.rows.length:=h
  have hb:(mac f qs f.rows.length).bs.length + qs.length < 1000:=by
   rw[j2 h0]
   have:=aco (p:=fun q:Int × List Int=>decide (q.1 < (f.rows.length:Int))) (l:=qs)
   omega
  obtain⟨o7',o8',e⟩:=xG (n:=n + 2) (qs:=qs) (s:=mac f qs f.rows.length) (o7:=o7) (o8:=o8) (aaf _) hb
  have ht:=xF (n:=n + 2) (f:=f) (qs:=qs) (s:=inner f qs f.rows.length (mac f qs f.rows.length)) (k:=f.rows.length) (o7:=o7') (o8:=o8')
  rw[decide_eq_false (by omega)]at ht
  refine⟨some (It f.rows.length),o7',o8',?_⟩
  rw[bu]
  exact bs (bs (x:=qE f qs (mac f qs f.rows.length) f.rows.length o7 o8) rfl (ae e (ae (aB ht rfl) rfl))) rfl
 | m + 1,k,o6,o7,o8,h=>by
  have hb:(mac f qs k).bs.length + qs.length < 1000:=by
   rw[j2 h0]
   have:=aco (p:=fun q:Int × List Int=>decide (q.1 < (k:Int))) (l:=qs)
   omega
  obtain⟨a,b,c,e⟩:=wK (n:=n) (qs:=qs) (s:=mac f qs k) (o6:=o6) (o7:=o7) (o8:=o8) (show k < f.rows.length by omega) hb (by rw[dZ];omega)
  obtain⟨a',b',c',e'⟩:=oI (n:=n) h0 hq hN (m:=m) (k:=k + 1) (o6:=a) (o7:=b) (o8:=c) (by omega)
  refine⟨a',b',c',?_⟩
  rw[bu]
  exact bs e e'
abbrev E7(s:Mc):OD:=.fz (.tuple [.list (s.ps.map PyData.int),.list (s.bs.map PyData.int),.int s.pl])
abbrev Dl(gs:List Int):OD:=.fz (.list (gs.map PyData.int))
theorem tY{n:Nat}{f:Cf}{qs:Pz}(h0:∀q∈qs,0≤q.1)(hq:qs.length≤300)(hN:f.rows.length≤200):pl.pg.call (n + 3) 29 [Rl f.rows,Lo f,Pq qs]=some (E7 (inner f qs f.rows.length (mac f qs f.rows.length)),[Rl f.rows,Lo f,Pq qs]):=by
 obtain⟨o6,o7,o8,e⟩:=oI (n:=n) h0 hq hN (m:=f.rows.length) (k:=0) (o6:=none) (o7:=none) (o8:=none) (aaK _)
 generalize inner f qs f.rows.length (mac f qs f.rows.length)=s at e
 have hl:(((f.rows.length:Nat):Int) + 1).toNat=f.rows.length + 1:=by omega
 refine ag (fn:=ir) (ρ:=[some (Rl f.rows),some (Lo f),some (Pq qs),some (Dl s.ps),some (Dl s.bs),some (It s.pl),o6,o7,o8]) rfl rfl (ae (ip (ρ3:=qG f qs ⟨[],[],0⟩ none none none) rfl rfl rfl rfl) (ae (cW (ρ1:=qG f qs ⟨[],[],0⟩ none none none) (dD (n:=(f.rows.length:Int) + 1) (ah (dx:=.int f.rows.length) (dy:=.int 1) (aJ rfl rfl (by show some (PyData.int ((f.rows.map R.d).length:Nat))=_;rw[aaa])) rfl rfl rfl rfl) rfl (by omega)) (by rw[hl];exact e)) (az (ak (z:=E7 s) (dB (rs:=[.rf 3,.rf 4,.val (It s.pl)]) (ρ1:=qG f qs s o6 o7 o8) (zs:=[Dl s.ps,Dl s.bs,It s.pl]) (ρ2:=[some (Rl f.rows),some (Lo f),some (Pq qs),some (Dl s.ps),some (Dl s.bs),some (It s.pl),o6,o7,o8]) rfl rfl ?_ rfl) rfl)))) rfl
 have e1:own1 (qG f qs s o6 o7 o8) (.rf 3)=some (Dl s.ps,[some (Rl f.rows),some (Lo f),some (Pq qs),some (Dl s.ps),some (Il s.bs),some (It s.pl),o6,o7,o8]):=by
  show (frz1 _ (.rf 3)).map _=_
  rw[dH rfl (aG _) rfl];rfl
 have e2:own1 [some (Rl f.rows),some (Lo f),some (Pq qs),some (Dl s.ps),some (Il s.bs),some (It s.pl),o6,o7,o8] (.rf 4)=some (Dl s.bs,[some (Rl f.rows),some (Lo f),some (Pq qs),some (Dl s.ps),some (Dl s.bs),some (It s.pl),o6,o7,o8]):=by
  show (frz1 _ (.rf 4)).map _=_
  rw[dH rfl (aG _) rfl];rfl
 have e3:mapR own1 [some (Rl f.rows),some (Lo f),some (Pq qs),some (Dl s.ps),some (Il s.bs),some (It s.pl),o6,o7,o8] [.rf 4,.val (It s.pl)]=some ([Dl s.bs,It s.pl],[some (Rl f.rows),some (Lo f),some (Pq qs),some (Dl s.ps),some (Dl s.bs),some (It s.pl),o6,o7,o8]):=bs e2 rfl
 exact bs e1 (by show Option.map _ (mapR own1 _ _)=_;rw[e3];rfl)
def P0(f:Cf)(k:Nat):Int:=(mac f [] k).pl
theorem tZ{f:Cf}{k:Nat}:1≤sz f k/\sz f k≤2:=by unfold sz;split<;>omega
theorem P0_succ{f:Cf}{k:Nat}:P0 f (k + 1)=P0 f k + sz f k:=by
 unfold P0;rw[mM fun q hq=>absurd hq aak];rfl
theorem oJ{f:Cf}{i:Nat}:∀{m:Nat},P0 f i≤P0 f (i + m)
 | 0=>aa5 _
 | m + 1=>by
  have h1:=oJ (f:=f) (i:=i) (m:=m)
  have h2:P0 f (i + (m + 1))=P0 f (i + m) + sz f (i + m):=P0_succ
  have:=(tZ (f:=f) (k:=i + m)).1
  omega
theorem C4{f:Cf}{i k:Nat}(h:i≤k):P0 f i≤P0 f k:=by
 obtain⟨m,rfl⟩:∃m,k=i + m:=⟨k - i,by omega⟩
 exact oJ
theorem xH{rs:List R}{k:Nat}{p:Int}:p≤fw rs k p/\fw rs k p≤p + 4:=by
 unfold fw
 by_cases h:wz rs k=true
 ·rw[if_pos h];show p≤p + 2 + 2 - (p + 2) % 2/\p + 2 + 2 - (p + 2) % 2≤p + 4;omega
 ·rw[if_neg h];show p≤p + 2 - p % 2/\p + 2 - p % 2≤p + 4;omega
structure Lb (f:Cf)(g:G)(k:Nat)(cs:List Int):Prop where
 len:cs.length=g.gaps.length
 wl:g.words.length=g.gaps.length
 use:∀u∈g.us,∃(i j:Nat) (c:Int),u.1=i/\u.2=j/\cs[j]?=some c/\c - f.r1≤P0 f i/\P0 f i≤c + f.r0
 wt:∀q∈g.wt,∃i:Nat,q.1=i/\i < k/\q.2 - P0 f i≤g.pl - P0 f k
 fst:∀q0,g.wt.head?=some q0->fw f.rows k g.pl - q0.2≤f.r1/\∀q∈g.wt,q0.2≤q.2
 le:∀q∈g.wt,q.2≤g.pl
 last:∀c,cs.getLast?=some c->g.bg - (g.pl - P0 f k)≤c/\c≤P0 f k + 6
section
variable{f:Cf}{g:G}{k:Nat}{cs:List Int}
theorem Lb.lay(h0:0≤f.r0)(L:Lb f g k cs)(hw:g.wt≠[]):∃c,Lb f (qi f g k) k (cs++[c]):=by
 obtain⟨q0,e0⟩:∃q0,g.wt.head?=some q0:=by cases h:g.wt with | nil=>exact absurd h hw | cons q _=>exact⟨q,rfl⟩
 obtain⟨n1,n2⟩:=L.fst q0 e0
 have hf:=xH (rs:=f.rows) (k:=k) (p:=g.pl)
 refine⟨P0 f k + (fw f.rows k g.pl - g.pl),?_,?_,fun u hu=>?_,fun q hq=>absurd hq aak,fun q hq=>absurd hq (by simp[qi]),fun q hq=>absurd hq aak,fun c hc=>?_⟩
 ·show (cs++[_]).length=(g.gaps++[_]).length
  rw[aam,aam,L.len];rfl
 ·show (g.words++[_]).length=(g.gaps++[_]).length
  rw[aam,aam,L.wl];rfl
 ·rcases aai.mp hu with hu | hu
  ·obtain⟨i,j,c,e1,e2,e3,e4,e5⟩:=L.use u hu
   exact⟨i,j,c,e1,e2,by rw[abc (aas.mp e3).1];exact e3,e4,e5⟩
  ·obtain⟨q,hq,rfl⟩:=aaN.mp hu
   obtain⟨i,e1,e2,e3⟩:=L.wt q hq
   have h1:=n2 q hq
   have h2:=C4 (f:=f) (aaQ e2)
   exact⟨i,g.gaps.length,_,e1,rfl,by rw[<- L.len];exact abh,by omega,by omega⟩
 ·rw[abD]at hc
  obtain rfl:P0 f k + (fw f.rows k g.pl - g.pl)=c:=aaA hc
  show fw f.rows k g.pl - (fw f.rows k g.pl + 2 * ((g.wt.foldl (fun ns q=>fB ns (nu f q.1)) []).length:Nat) - P0 f k)≤_/\_
  omega
theorem Lb.lays(h0:0≤f.r0)(L:Lb f g k cs):∃cs',Lb f (laysG f g k) k cs':=by
 unfold laysG
 split
 ·rename_i hd
  obtain⟨c,h⟩:=L.lay h0 (fun e=>by unfold due at hd;rw[e]at hd;cases hd)
  exact⟨_,h⟩
 ·exact⟨cs,L⟩
theorem t9(hk:k < f.rows.length){q0:Int × Int}(h:(laysG f g k).wt.head?=some q0):fw f.rows (k + 1) ((laysG f g k).pl + sz f k) - q0.2≤f.r1:=by
 unfold laysG at h ⊢
 split at h
 ·cases h
 ·rename_i hd
  rw[if_neg hd]
  unfold due at hd
  rw[h]at hd
  simp only[Option.elim,aba,decide_eq_true_eq,not_or]at hd
  omega
theorem Lb.use_last{a:Int}(h6:6≤f.r1)(L:Lb f g k cs){ws:List (List Int)}{w:List Int}(h:g.words=ws++[w])(ha:a=(k:Int)){p:Int}(hp:g.pl≤p)(hr:p - g.bg≤f.r0):∃(i j:Nat) (c:Int),a=i/\(g.gaps.length:Int) - 1=j/\cs[j]?=some c/\c - f.r1≤P0 f i/\P0 f i≤c + f.r0:=by
 have hl:cs.length=ws.length + 1:=by rw[L.len,<- L.wl,h,aam];rfl
 obtain⟨c,hc⟩:∃c,cs.getLast?=some c:=by
  cases e:cs.getLast? with
  | none=>rw[List.getLast?_eq_none_iff]at e;rw[e]at hl;cases hl
  | some c=>exact⟨c,rfl⟩
 obtain⟨l1,l2⟩:=L.last c hc
 refine⟨k,ws.length,c,ha,by rw[<- L.len,hl];omega,?_,by omega,by omega⟩
 rw[List.getLast?_eq_getElem?,hl]at hc
 exact hc
theorem Lb.cross(h6:6≤f.r1){g2:G}(hk:k < f.rows.length)(L:Lb f (laysG f g k) k cs)(C:Cross f g k g2):Lb f (tX g2 (sz f k)) (k + 1) cs:=by
 have hp:P0 f (k + 1)=P0 f k + sz f k:=P0_succ
 have hs:=tZ (f:=f) (k:=k)
 have hd:=fun q0 h=>t9 (g:=g) hk (q0:=q0) h
 have Cg:=C.gr
 have Cn:=C.no
 clear C
 generalize laysG f g k=g1 at L hd Cg Cn
 cases hg:(f.rows[k]?).elim false R.gr with
 | false =>
  obtain rfl:=Cn hg
  exact⟨L.len,L.wl,L.use,fun q hq=>by
   obtain⟨i,e1,e2,e3⟩:=L.wt q hq
   exact⟨i,e1,by omega,by show _≤g2.pl + sz f k - _;omega⟩,fun q0 h=>⟨hd q0 h,(L.fst q0 h).2⟩,fun q hq=>by have:=L.le q hq;show _≤g2.pl + sz f k;omega,fun c hc=>by have:=L.last c hc;show g2.bg - (g2.pl + sz f k - _)≤_/\_;omega⟩
 | true =>
  have hz:sz f k=2:=by
   cases hr:f.rows[k]? with
   | none=>rw[hr]at hg;cases hg
   | some r=>rw[hr]at hg;exact xE hr hg
  cases Cg hg with
  | put h hw hn hr =>
   refine⟨L.len,?_,fun u hu=>?_,fun q hq=>absurd (hw ▸ hq:q∈[]) aak,fun q0 h=>absurd (hw ▸ h:([]:List (Int × Int)).head?=some q0) (by simp),fun q hq=>absurd (hw ▸ hq:q∈[]) aak,fun c hc=>?_⟩
   ·have:=L.wl
    rw[h]at this
    rw[<- this]
    show (_++[_]).length=(_++[_]).length
    rw[aam,aam];rfl
   ·rcases aai.mp hu with hu | hu
    ·exact L.use u hu
    ·rw[aat.mp hu]
     exact L.use_last h6 h rfl (p:=g1.pl + 2) (by omega) hr
   ·have:=L.last c hc
    show g1.bg - (g1.pl + 2 + sz f k - _)≤_/\_
    omega
  | got h hn hr =>
   refine⟨L.len,L.wl,fun u hu=>?_,fun q hq=>?_,fun q0 h=>⟨hd q0 h,(L.fst q0 h).2⟩,fun q hq=>by have:=L.le q hq;show _≤g1.pl + sz f k;omega,fun c hc=>?_⟩
   ·rcases aai.mp hu with hu | hu
    ·exact L.use u hu
    ·rw[aat.mp hu]
     exact L.use_last h6 h rfl (p:=g1.pl) (aa5 _) hr
   ·obtain⟨i,e1,e2,e3⟩:=L.wt q hq
    exact⟨i,e1,by omega,by show _≤g1.pl + sz f k - _;omega⟩
   ·have:=L.last c hc
    show g1.bg - (g1.pl + sz f k - _)≤_/\_
    omega
  | wait h =>
   refine⟨L.len,L.wl,L.use,fun q hq=>?_,fun q0 h0=>?_,fun q hq=>?_,fun c hc=>?_⟩
   ·rcases aai.mp hq with hq | hq
    ·obtain⟨i,e1,e2,e3⟩:=L.wt q hq
     exact⟨i,e1,by omega,by show _≤g1.pl + sz f k - _;omega⟩
    ·rw[aat.mp hq]
     exact⟨k,rfl,by omega,by show g1.pl - _≤g1.pl + sz f k - _;omega⟩
   ·show fw f.rows (k + 1) (g1.pl + sz f k) - _≤_/\_
    cases hw:g1.wt with
    | nil =>
     have e:((g1.wt++[((k:Int),g1.pl)]:List (Int × Int))).head?=some q0:=h0
     rw[hw]at e
     obtain rfl:=aaA e
     have:=xH (rs:=f.rows) (k:=k + 1) (p:=g1.pl + sz f k)
     refine⟨by show _ - g1.pl≤_;omega,fun q hq=>?_⟩
     rw[aat.mp hq];exact aa5 _
    | cons x xs =>
     have e:((g1.wt++[((k:Int),g1.pl)]:List (Int × Int))).head?=some q0:=h0
     have e2:g1.wt.head?=some q0:=by rw[hw]at e ⊢;exact e
     refine⟨hd q0 e2,fun q hq=>?_⟩
     rcases aai.mp hq with hq | hq
     ·exact (L.fst q0 e2).2 q (hw ▸ hq)
     ·rw[aat.mp hq]
      exact L.le q0 (List.mem_of_mem_head? e2)
   ·rcases aai.mp hq with hq | hq
    ·have:=L.le q hq;show _≤g1.pl + sz f k;omega
    ·rw[aat.mp hq];show g1.pl≤g1.pl + sz f k;omega
   ·have:=L.last c hc
    show g1.bg - (g1.pl + sz f k - _)≤_/\_
    omega
theorem wL(h0:0≤f.r0)(h6:6≤f.r1)(W:Gone f k g):∃cs,Lb f g k cs:=by
 induction W with
 | zero=>exact⟨[],rfl,rfl,(fun u h=>absurd h aak),(fun q h=>absurd h aak),(fun q h=>nomatch h),(fun q h=>absurd h aak),fun c h=>nomatch h⟩
 | step h hk I C ih =>
  obtain⟨cs,L⟩:=ih
  obtain⟨cs',L'⟩:=L.lays h0
  exact⟨cs',L'.cross h6 hk C⟩
end
theorem FA:∀(n:Nat) (js:List Nat),js.Nodup->(∀j∈js,j < n)->js.length≤n
 | 0,js,_,h=>by
  cases js with
  | nil=>exact aaf _
  | cons j _=>exact absurd (h j aaj) (Nat.not_lt_zero _)
 | n + 1,js,nd,h=>by
  have h1:=FA n (js.erase n) (nd.erase n) fun j hj=>by
   obtain⟨e1,e2⟩:=(nd.mem_erase_iff).mp hj
   have:=h j e2
   omega
  by_cases hm:n∈js
  ·rw[List.length_erase_of_mem hm]at h1;omega
  ·rw[List.erase_of_not_mem hm]at h1;omega
theorem Lb.least{f:Cf}{g:G}{k:Nat}{cs:List Int}(L:Lb f g k cs)(ns:List Int)(h1:∀a∈ns,a∈g.us.map (·.1))(h2:ns.Pairwise fun a b=>f.r0 + f.r1 < P0 f b.toNat - P0 f a.toNat):ns.length≤g.gaps.length:=by
 have hc:∀a∈ns,∃(j:Nat) (c:Int),cs[j]?=some c/\c - f.r1≤P0 f a.toNat/\P0 f a.toNat≤c + f.r0:=fun a ha=>by
  obtain⟨u,hu,rfl⟩:=aaN.mp (h1 a ha)
  obtain⟨i,j,c,e1,e2,e3,e4,e5⟩:=L.use u hu
  rw[e1,abv]
  exact⟨j,c,e3,e4,e5⟩
 have key:∀(ns:List Int),(∀a∈ns,∃(j:Nat) (c:Int),cs[j]?=some c/\c - f.r1≤P0 f a.toNat/\P0 f a.toNat≤c + f.r0)->(ns.Pairwise fun a b=>f.r0 + f.r1 < P0 f b.toNat - P0 f a.toNat)->∃js:List Nat,js.length=ns.length/\js.Nodup/\∀j∈js,∃(c:Int),cs[j]?=some c/\∃a∈ns,c - f.r1≤P0 f a.toNat/\P0 f a.toNat≤c + f.r0:=by
  intro ns
  induction ns with
  | nil=>exact fun _ _=>⟨[],rfl,aa8,fun j h=>absurd h aak⟩
  | cons a ns ih =>
   intro hc hp
   obtain⟨p1,p2⟩:=List.pairwise_cons.mp hp
   obtain⟨js,l,nd,hj⟩:=ih (fun b hb=>hc b (aag _ hb)) p2
   obtain⟨j,c,e1,e2,e3⟩:=hc a aaj
   refine⟨j::js,by rw[aap,l];rfl,aaz.mpr ⟨fun hm=>?_,nd⟩,fun i hi=>?_⟩
   ·obtain⟨c',z1,b,hb,z2,z3⟩:=hj j hm
    rw[e1]at z1
    obtain rfl:=aaA z1
    have:=p1 b hb
    omega
   ·rcases aac.mp hi with rfl | hi
    ·exact⟨c,e1,a,aaj,e2,e3⟩
    ·obtain⟨c',z1,b,hb,z⟩:=hj i hi
     exact⟨c',z1,b,aag _ hb,z⟩
 obtain⟨js,l,nd,hj⟩:=key ns hc h2
 rw[<- l,<- L.len]
 exact FA _ js nd fun j h=>by
  obtain⟨c,e,_⟩:=hj j h
  exact (aas.mp e).1
theorem mN{C:Ct}{t:Tg}{e:E}{ρ ρ1 ρ2 ρ3:DEnv}{x:OR}{z:OD}(h:ev C e ρ=some (x,ρ1))(ho:own1 ρ1 x=some (z,ρ2))(ha:bb t z ρ2=some ρ3):cI C (.asg t e) ρ=some (.nx,ρ3):=bs h (bs ho (bs ha rfl))
theorem C5{C:Ct}{i:Nat}{ρ:DEnv}{x:OR}{d:PyData}{k:Bool}(h:ev C (.nm i) ρ=some (x,ρ))(hd:au ρ x=some d)(ht:jz d=some k):aZ C (.nm i) ρ=some (k,ρ):=bs h (bs hd (bs ht rfl))
abbrev De:OD:=.fz (.list [])
abbrev zP(f:Cf)(s:Mc)(o7:Option OD):DEnv:=[some (Rl f.rows),some (Lo f),some De,some (.dic [] []),some (Il s.ps),some (.lst []),some (It s.pl),o7]
abbrev zS:Ss:=match F_placed.body with | .cons _ (.cons _ (.cons _ (.cons _ (.cons (.fr _ _ b) _))))=>b | _=>.nil
theorem Ak{C:Ct}{i:Nat}{o:Bo}{e:E}{ρ ρ1 ρ2:DEnv}{a r:Int}{x:OR}{d:PyData}(h0:ρ[i]?.join=some (It a))(h1:ev C e ρ=some (x,ρ1))(h2:au ρ1 x=some d)(h3:kH o a d=some r)(h4:ρ1.set i (some (It r))=ρ2):cI C (.aug i o e) ρ=some (.nx,ρ2):=bs h0 (bs rfl (bs rfl (bs h1 (bs h2 (bs h3 (by rw[<- h4]))))))
theorem xI{n:Nat}{f:Cf}{s:Mc}{k:Nat}:aZ (pl.pg.ct n) (.cmp .lt (.nm 7) (.blt .len (.cons (.nm 0) .nil))) (zP f s (some (It k)))=some (decide ((k:Int) < (f.rows.length:Int)),zP f s (some (It k))):=ax (av (dx:=.int k) (dy:=.int f.rows.length) rfl (aJ rfl rfl blen) rfl rfl rfl)
theorem uc{n:Nat}{f:Cf}(hN:f.rows.length≤200):∀{m k:Nat} {o7:Option OD},k + m=f.rows.length->∃o7',bj (fun d ρ'=>(bb (.nm 7) (.fz d) ρ').bind fun ρ1=>aN (pl.pg.ct (n + 2)) zS ρ1) (bU k (m + 1)) (zP f (mac f [] k) o7)=some (.nx,zP f (mac f [] f.rows.length) o7')
 | 0,k,o7,h=>by
  obtain rfl:k=f.rows.length:=h
  have ht:=xI (n:=n + 2) (f:=f) (s:=mac f [] f.rows.length) (k:=f.rows.length)
  rw[decide_eq_false (by omega)]at ht
  refine⟨some (It f.rows.length),?_⟩
  rw[bu]
  exact bs (bs (x:=zP f (mac f [] f.rows.length) (some (It f.rows.length))) rfl (ae (aB rfl rfl) (ae (aB ht rfl) rfl))) rfl
 | m + 1,k,o7,h=>by
  have hk:k < f.rows.length:=by omega
  have ht:=xI (n:=n + 2) (f:=f) (s:=mac f [] k) (k:=k)
  rw[decide_eq_true (by omega)]at ht
  have e1:mac f [] (k + 1)=Ai f k (mac f [] k):=mM fun q hq=>absurd hq aak
  have hl:(mac f [] k).ps.length < 1000000:=by rw[dZ];omega
  obtain⟨o',e'⟩:=uc (n:=n) hN (m:=m) (k:=k + 1) (o7:=some (It k)) (by omega)
  rw[e1]at e'
  generalize mac f [] k=s at *
  refine⟨o',?_⟩
  rw[bu]
  refine bs (bs (x:=zP f s (some (It k))) rfl (ae (aB rfl rfl) (ae (aR ht (ae (cb (ρ3:=zP f ⟨s.ps++[s.pl],s.bs,s.pl⟩ (some (It k))) rfl rfl rfl rfl (by rw[aaa];exact hl) ?_) (ae (Ak (r:=s.pl + sz f k) (ρ2:=zP f (Ai f k s) (some (It k))) rfl (ab (ρ3:=zP f ⟨s.ps++[s.pl],s.bs,s.pl⟩ (some (It k))) rfl rfl (mJ (n:=n) (aar hk)) rfl) rfl rfl rfl) rfl))) rfl))) e'
  show _=[some (Rl f.rows),some (Lo f),some De,some (.dic [] []),some (Il (s.ps++[s.pl])),some (.lst []),some (It s.pl),some (It k)]
  rw[ck];rfl
abbrev Pls(f:Cf):List Int:=(mac f [] f.rows.length).ps
abbrev Am(f:Cf):OD:=.fz (.tuple [.list ((Pls f).map PyData.int),.list [],.int (P0 f f.rows.length)])
theorem c_place0{n:Nat}{f:Cf}(hN:f.rows.length≤200):pl.pg.call (n + 3) 7 [Rl f.rows,Lo f,De]=some (Am f,[Rl f.rows,Lo f,De]):=by
 obtain⟨o7,e⟩:=uc (n:=n) hN (m:=f.rows.length) (k:=0) (o7:=none) (aaK _)
 unfold Am P0 Pls
 generalize mac f [] f.rows.length=s at e ⊢
 have hl:(((f.rows.length:Nat):Int) + 1).toNat=f.rows.length + 1:=by omega
 have E0:zP f (mac f [] 0) none=zP f ⟨[],[],0⟩ none:=rfl
 rw[E0]at e
 refine ag (fn:=F_placed) (ρ:=[some (Rl f.rows),some (Lo f),some De,some (.dic [] []),some (Dl s.ps),some De,some (It s.pl),o7]) rfl rfl (ae (ρ1:=[some (Rl f.rows),some (Lo f),some De,some (.dic [] []),none,none,none,none]) rfl (ae (ρ1:=[some (Rl f.rows),some (Lo f),some De,some (.dic [] []),some (.lst []),none,none,none]) rfl (ae (ρ1:=[some (Rl f.rows),some (Lo f),some De,some (.dic [] []),some (.lst []),some (.lst []),none,none]) rfl (ae (ρ1:=zP f ⟨[],[],0⟩ none) rfl (ae (cW (ρ1:=zP f ⟨[],[],0⟩ none) (dD (n:=(f.rows.length:Int) + 1) (ah (dx:=.int f.rows.length) (dy:=.int 1) (aJ rfl rfl blen) rfl rfl rfl rfl) rfl (by omega)) (by rw[hl];exact e)) (az (ak (z:=.fz (.tuple [.list (s.ps.map PyData.int),.list [],.int s.pl])) (dB (rs:=[.rf 4,.rf 5,.val (It s.pl)]) (ρ1:=zP f s o7) (zs:=[Dl s.ps,De,It s.pl]) (ρ2:=[some (Rl f.rows),some (Lo f),some De,some (.dic [] []),some (Dl s.ps),some De,some (It s.pl),o7]) rfl rfl ?_ rfl) rfl))))))) rfl
 have e1:own1 (zP f s o7) (.rf 4)=some (Dl s.ps,[some (Rl f.rows),some (Lo f),some De,some (.dic [] []),some (Dl s.ps),some (.lst []),some (It s.pl),o7]):=by
  show (frz1 _ (.rf 4)).map _=_
  rw[dH rfl (aG _) rfl];rfl
 exact bs e1 rfl
theorem iG{f:Cf}{i:Nat}(h:i < f.rows.length):(Pls f)[i]?=some (P0 f i):=by
 obtain⟨m,e⟩:∃m,f.rows.length=(i + 1) + m:=⟨f.rows.length - i - 1,by omega⟩
 unfold Pls
 rw[e,mac_pre (aaZ i),mM fun q hq=>absurd hq aak]
 show ((mac f [] i).ps++[_])[i]?=_
 rw[abo (by rw[dZ];exact aaf _),dZ,Nat.sub_self];rfl
theorem oK{n:Nat}{f:Cf}{i j:Nat}(hi:i < f.rows.length)(hj:j < f.rows.length):pl.pg.call (n + 1) 8 [Dl (Pls f),Re f,It i,It j]=some (.fz (.bool (decide (f.r0 + f.r1 < P0 f j - P0 f i))),[Dl (Pls f),Re f,It i,It j]):=by
 have a1:atI ((Pls f).map PyData.int) (i:Int)=some (.int (P0 f i)):=eA (by rw[aau,iG hi];rfl)
 have a2:atI ((Pls f).map PyData.int) (j:Int)=some (.int (P0 f j)):=eA (by rw[aau,iG hj];rfl)
 exact ag (fn:=gk) rfl rfl (az (ak (av (dx:=.int (P0 f j - P0 f i)) (dy:=.int (f.r0 + f.r1)) (ah (aO rfl rfl rfl (bM a2)) (aO rfl rfl rfl (bM a1)) rfl rfl rfl) (ah (aO rfl rfl rfl (cQ bF)) (aO rfl rfl rfl (cQ (eA (k:=1) rfl))) rfl rfl rfl) rfl rfl rfl) rfl)) rfl
def tk(f:Cf)(far:Int)(acc:List Int)(a:Int):Bool:=acc.getLast?.elim true fun b=>decide (far < P0 f a.toNat - P0 f b.toNat)
def need(f:Cf)(far:Int):List Int->List Int->List Int
 | acc,[]=>acc
 | acc,a::gs=>need f far (if tk f far acc a=true then acc++[a] else acc) gs
def InR(f:Cf)(a:Int):Prop:=∃i:Nat,a=i/\i < f.rows.length
theorem j3{f:Cf}{a:Int}(h:a∈gIx 0 f.rows):InR f a:=by
 obtain⟨j,r,e1,e2,_⟩:=dX h
 exact⟨j,by omega,(aas.mp e2).1⟩
theorem atI_last{α:Type}{xs:List α}{x:α}:atI (xs++[x]) (-1)=some x:=by
 have e:ixN (xs++[x]).length (-1)=some xs.length:=by
  unfold ixN
  rw[aam,aaE]
  rw[if_neg (by omega),if_pos (by omega)]
  congr 1
  omega
 exact bs e abh
abbrev nE(f:Cf)(acc:List Int)(o7:Option OD):DEnv:=[some (Rl f.rows),some (Lo f),some (Re f),some (Dl (Pls f)),some De,some (It (P0 f f.rows.length)),some (Il acc),o7]
abbrev nT:E:=.or (.not (.nm 6)) (.call 8 (.cons (.nm 3) (.cons (.nm 2) (.cons (.ix (.nm 6) (.neg (.int 1))) (.cons (.nm 7) .nil)))))
theorem C6{n:Nat}{f:Cf}{acc:List Int}{a:Int}(ha:InR f a)(hc:∀b∈acc,InR f b):aZ (pl.pg.ct (n + 1)) nT (nE f acc (some (It a)))=some (tk f (f.r0 + f.r1) acc a,nE f acc (some (It a))):=by
 have t0:aZ (pl.pg.ct (n + 1)) (.nm 6) (nE f acc (some (It a)))=some (!acc.isEmpty,nE f acc (some (It a))):=C5 (x:=.rf 6) (d:=.list (acc.map PyData.int)) rfl (aG acc) (by cases acc<;>rfl)
 rcases abi acc with h | ⟨ys,b,h⟩
 ·subst h
  exact ik (bJ t0)
 ·rw[abj]at h
  subst h
  obtain⟨i,rfl,hi⟩:=ha
  obtain⟨j,hj',hj⟩:=hc b (aab _ aaj)
  subst hj'
  have t1:aZ (pl.pg.ct (n + 1)) (.not (.nm 6)) (nE f (ys++[(j:Int)]) (some (It i)))=some (false,nE f (ys++[(j:Int)]) (some (It i))):=by
   have:=bJ t0
   rw[this]
   cases ys<;>rfl
  refine bZ t1 ((aY (ab (ρ3:=nE f (ys++[(j:Int)]) (some (It i))) (aa rfl (aa rfl (aa (aO (z:=It j) (ρ3:=nE f (ys++[(j:Int)]) (some (It i))) rfl rfl rfl (fA rfl (by rw[aax];exact atI_last))) (aa rfl af)))) rfl (oK (n:=n) hj hi) rfl)).trans ?_)
  unfold tk
  rw[abD]
  rfl
theorem mO{n:Nat}{f:Cf}(hN:f.rows.length≤200):∀{gs acc:List Int} {o7:Option OD},(∀a∈gs,InR f a)->(∀b∈acc,InR f b)->acc.length + gs.length≤1000->∃o7',bj (fun d ρ'=>(bb (.nm 7) (.fz d) ρ').bind fun ρ1=>aN (pl.pg.ct (n + 1)) (.cons (.iff nT (.cons (.app 6 (.nm 7)) .nil) .nil) .nil) ρ1) (gs.map PyData.int) (nE f acc o7)=some (.nx,nE f (need f (f.r0 + f.r1) acc gs) o7')
 | [],acc,o7,_,_,_=>⟨o7,rfl⟩
 | a::gs,acc,o7,h1,h2,hl=>by
  have ht:=C6 (n:=n) (h1 a aaj) h2
  rw[aap]at hl
  cases hb:tk f (f.r0 + f.r1) acc a with
  | true =>
   rw[hb]at ht
   obtain⟨o',e⟩:=mO (n:=n) hN (gs:=gs) (acc:=acc++[a]) (o7:=some (It a)) (fun x hx=>h1 x (aag _ hx)) (fun x hx=>by
    rcases aai.mp hx with z | z
    ·exact h2 x z
    ·rw[aat.mp z];exact h1 a aaj) (by rw[aam,aaE];omega)
   refine⟨o',?_⟩
   have e2:need f (f.r0 + f.r1) acc (a::gs)=need f (f.r0 + f.r1) (acc++[a]) gs:=by rw[need,hb,if_pos rfl]
   rw[e2]
   refine bs (bs (x:=nE f acc (some (It a))) rfl (ae (aR ht (ae (cb (ρ3:=nE f (acc++[a]) (some (It a))) rfl rfl rfl rfl (by rw[aaa];omega) ?_) rfl)) rfl)) e
   show _=[some (Rl f.rows),some (Lo f),some (Re f),some (Dl (Pls f)),some De,some (It (P0 f f.rows.length)),some (Il (acc++[a])),some (It a)]
   rw[ck];rfl
  | false =>
   rw[hb]at ht
   obtain⟨o',e⟩:=mO (n:=n) hN (gs:=gs) (acc:=acc) (o7:=some (It a)) (fun x hx=>h1 x (aag _ hx)) h2 (by omega)
   refine⟨o',?_⟩
   have e2:need f (f.r0 + f.r1) acc (a::gs)=need f (f.r0 + f.r1) acc gs:=by rw[need,hb,if_neg aae]
   rw[e2]
   exact bs (bs (x:=nE f acc (some (It a))) rfl (ae (aB ht rfl) rfl)) e
theorem ud{f:Cf}:(gIx 0 f.rows).length≤f.rows.length:=by rw[fD];exact abB _ _
theorem ue{n:Nat}{f:Cf}(hN:f.rows.length≤200):pl.pg.call (n + 4) 9 [Rl f.rows,Lo f,Re f]=some (Il (need f (f.r0 + f.r1) [] (gIx 0 f.rows)),[Rl f.rows,Lo f,Re f]):=by
 have hg:=ud (f:=f)
 obtain⟨o7,e⟩:=mO (n:=n + 2) hN (gs:=gIx 0 f.rows) (acc:=[]) (o7:=none) (fun a h=>j3 h) (fun b h=>absurd h aak) (by rw[aaL];omega)
 have e0:pl.pg.call (n + 3) 7 [Rl f.rows,Lo f,De]=some (Am f,[Rl f.rows,Lo f,De]):=c_place0 hN
 have e1:pl.pg.call (n + 3) 2 [Rl f.rows]=some (Il (gIx 0 f.rows),[Rl f.rows]):=iB (n:=n + 1) (by omega)
 have ec:(pl.pg.ct (n + 3)).call=pl.pg.call (n + 3):=rfl
 rw[<- ec]at e0 e1
 have s1:cI (pl.pg.ct (n + 3)) (.asg (.tp [3,4,5]) (.call 7 (.cons (.nm 0) (.cons (.nm 1) (.cons (.lst .nil) .nil))))) [some (Rl f.rows),some (Lo f),some (Re f),none,none,none,none,none]=some (.nx,[some (Rl f.rows),some (Lo f),some (Re f),some (Dl (Pls f)),some De,some (It (P0 f f.rows.length)),none,none]):=mN (z:=Am f) (ρ1:=[some (Rl f.rows),some (Lo f),some (Re f),none,none,none,none,none]) (ab (rs:=[.val (Rl f.rows),.val (Lo f),.val (.lst [])]) (ρ1:=[some (Rl f.rows),some (Lo f),some (Re f),none,none,none,none,none]) (ρ2:=[some (Rl f.rows),some (Lo f),some (Re f),none,none,none,none,none]) rfl rfl e0 rfl) rfl rfl
 have s3:lC (pl.pg.ct (n + 3)) (.seq (.call 2 (.cons (.nm 0) .nil))) (nE f [] none)=some ((gIx 0 f.rows).map PyData.int,nE f [] none):=cO (d:=.list ((gIx 0 f.rows).map PyData.int)) (ρ1:=nE f [] none) (ab (rs:=[.val (Rl f.rows)]) (ρ1:=nE f [] none) (ρ2:=nE f [] none) rfl rfl e1 rfl) (by show ((Il (gIx 0 f.rows)).dat).map _=_;rw[aG];rfl) rfl
 refine ag (fn:=eB) (ρ:=nE f (need f (f.r0 + f.r1) [] (gIx 0 f.rows)) o7 |>.set 6 none) rfl rfl (ae s1 (ae (ρ1:=nE f [] none) rfl (ae (cW s3 e) (az (ak (x:=.rf 6) (ρ1:=nE f (need f (f.r0 + f.r1) [] (gIx 0 f.rows)) o7) rfl ?_))))) ?_
 ·rfl
 ·rfl
theorem lay_ints:∀ns:List Int,PyData.canLayAll0 (ns.map PyData.int)=true
 | []=>rfl
 | _::r=>by simp[PyData.canLayAll0,PyData.canLay0,lay_ints r]
theorem fF:∀ns:List Int,PyData.depthAll (ns.map PyData.int)=0
 | []=>rfl
 | _::r=>by simp[PyData.depthAll,PyData.depth,fF r]
theorem wM(ns:List Int):lZ .eq (.list (ns.map PyData.int)) (.list [])=some ns.isEmpty:=by
 have h:SeqAt.shaped (.list (ns.map PyData.int))=true:=by simp[SeqAt.shaped,PyData.canLay0,PyData.depth,lay_ints,fF]
 have h2:SeqAt.shaped (.list [])=true:=by decide +kernel
 have:PyData.eqv (.list (ns.map PyData.int)) (.list [])=ns.isEmpty:=by cases ns<;>simp[PyData.eqv,PyData.eqvAll]
 show (if (SeqAt.shaped (.list (ns.map PyData.int)) && SeqAt.shaped (.list []))=true then some (PyData.eqv (.list (ns.map PyData.int)) (.list [])) else none)=_
 rw[h,h2,Bool.and_self,if_pos rfl,this]
theorem ja{n:Nat}{f:Cf}(hN:f.rows.length≤200):pl.pg.call (n + 3) 29 [Rl f.rows,Lo f,De]=some (Am f,[Rl f.rows,Lo f,De]):=by
 have e:=tY (n:=n) (f:=f) (qs:=[]) (fun q hq=>absurd hq aak) (aaM _) hN
 have hb:(mac f [] f.rows.length).bs=[]:=by
  have:=j2 (f:=f) (qs:=[]) (fun q hq=>absurd hq aak) (k:=f.rows.length)
  exact List.length_eq_zero_iff.mp this
 have e2:inner f [] f.rows.length (mac f [] f.rows.length)=mac f [] f.rows.length:=rfl
 rw[e2]at e
 unfold E7 at e
 rw[hb]at e
 exact e
abbrev mE(f:Cf)(far:Int)(acc:List Int)(o5 o6:Option OD):DEnv:=[some (Rl f.rows),some (Lo f),some (It far),some (Dl (Pls f)),some (Il acc),o5,o6]
abbrev mT:E:=.and (.call 27 (.cons (.nm 6) .nil)) (.or (.cmp .eq (.nm 4) (.lst .nil)) (.cmp .gt (.bop .sub (.ix (.nm 3) (.nm 5)) (.ix (.nm 3) (.ix (.nm 4) (.neg (.int 1))))) (.nm 2)))
theorem C7{n:Nat}{f:Cf}{far:Int}{acc:List Int}{i:Nat}{r:R}(hi:i < f.rows.length)(hc:∀b∈acc,InR f b):aZ (pl.pg.ct (n + 1)) mT (mE f far acc (some (It i)) (some (Rd r)))=some (r.gr && tk f far acc i,mE f far acc (some (It i)) (some (Rd r))):=by
 have hg:aZ (pl.pg.ct (n + 1)) (.call 27 (.cons (.nm 6) .nil)) (mE f far acc (some (It i)) (some (Rd r)))=some (r.gr,mE f far acc (some (It i)) (some (Rd r))):=aY (ab (ρ3:=mE f far acc (some (It i)) (some (Rd r))) rfl rfl (k7 r) rfl)
 cases h:r.gr with
 | false=>rw[h]at hg;exact tu hg
 | true =>
  rw[h]at hg
  have t0:aZ (pl.pg.ct (n + 1)) (.cmp .eq (.nm 4) (.lst .nil)) (mE f far acc (some (It i)) (some (Rd r)))=some (acc.isEmpty,mE f far acc (some (It i)) (some (Rd r))):=ax (av (dx:=.list (acc.map PyData.int)) (dy:=.list []) rfl rfl (aG acc) rfl (wM acc))
  refine tq hg ?_
  rw[ab4]
  rcases abi acc with h | ⟨ys,b,h⟩
  ·subst h;exact ik t0
  ·rw[abj]at h
   subst h
   obtain⟨j,hj',hj⟩:=hc b (aab _ aaj)
   subst hj'
   have a1:atI ((Pls f).map PyData.int) (i:Int)=some (.int (P0 f i)):=eA (by rw[aau,iG hi];rfl)
   have a2:atI ((Pls f).map PyData.int) (j:Int)=some (.int (P0 f j)):=eA (by rw[aau,iG hj];rfl)
   have t1:aZ (pl.pg.ct (n + 1)) (.cmp .eq (.nm 4) (.lst .nil)) (mE f far (ys++[(j:Int)]) (some (It i)) (some (Rd r)))=some (false,mE f far (ys++[(j:Int)]) (some (It i)) (some (Rd r))):=by rw[t0];cases ys<;>rfl
   refine bZ t1 ((ax (av (k:=decide (far < P0 f i - P0 f j)) (dx:=.int (P0 f i - P0 f j)) (dy:=.int far) (ah (aO rfl rfl rfl (bM a1)) (aO rfl (aO (z:=It j) (ρ3:=mE f far (ys++[(j:Int)]) (some (It i)) (some (Rd r))) rfl rfl rfl (fA rfl (by rw[aax];exact atI_last))) rfl (bM a2)) rfl rfl rfl) rfl rfl rfl rfl)).trans ?_)
   unfold tk
   rw[abD]
   rfl
theorem mP{n:Nat}{f:Cf}{far:Int}(hN:f.rows.length≤200):∀{rs:List R} {i:Nat} {acc:List Int} {o5 o6:Option OD},i + rs.length=f.rows.length->(∀b∈acc,InR f b)->acc.length + rs.length≤1000->∃o5' o6',bj (fun d ρ'=>(bb (.tp [5,6]) (.fz d) ρ').bind fun ρ1=>aN (pl.pg.ct (n + 1)) (.cons (.iff mT (.cons (.app 4 (.nm 5)) .nil) .nil) .nil) ρ1) (enF i rs) (mE f far acc o5 o6)=some (.nx,mE f far (need f far acc (gIx i rs)) o5' o6')
 | [],i,acc,o5,o6,_,_,_=>⟨o5,o6,rfl⟩
 | r::rs,i,acc,o5,o6,h1,h2,hl=>by
  rw[aap]at h1 hl
  have hi:i < f.rows.length:=by omega
  have ht:=C7 (n:=n) (far:=far) (r:=r) hi h2
  have ei:((i + 1:Nat):Int)=(i:Int) + 1:=by omega
  have eg:gIx (i:Int) (r::rs)=if r.gr=true then (i:Int)::gIx ((i + 1:Nat):Int) rs else gIx ((i + 1:Nat):Int) rs:=by rw[gIx,ei]
  have ee:enF (i:Int) (r::rs)=.tuple [.int i,r.d]::enF ((i + 1:Nat):Int) rs:=by rw[enF,ei]
  rw[eg,ee]
  have skip:(r.gr && tk f far acc i)=false->∃o5' o6',bj (fun d ρ'=>(bb (.tp [5,6]) (.fz d) ρ').bind fun ρ1=>aN (pl.pg.ct (n + 1)) (.cons (.iff mT (.cons (.app 4 (.nm 5)) .nil) .nil) .nil) ρ1) (.tuple [.int i,r.d]::enF ((i + 1:Nat):Int) rs) (mE f far acc o5 o6)=some (.nx,mE f far (need f far acc (gIx ((i + 1:Nat):Int) rs)) o5' o6'):=fun hb=>by
   rw[hb]at ht
   obtain⟨o',o'',e⟩:=mP (n:=n) (far:=far) hN (rs:=rs) (i:=i + 1) (acc:=acc) (o5:=some (It i)) (o6:=some (Rd r)) (by omega) h2 (by omega)
   exact⟨o',o'',bs (bs (x:=mE f far acc (some (It i)) (some (Rd r))) rfl (ae (aB ht rfl) rfl)) e⟩
  cases hg:r.gr with
  | false =>
   rw[if_neg aae]
   exact skip (by rw[hg];rfl)
  | true =>
   rw[if_pos rfl]
   cases hb:tk f far acc i with
   | false =>
    have e2:need f far acc ((i:Int)::gIx ((i + 1:Nat):Int) rs)=need f far acc (gIx ((i + 1:Nat):Int) rs):=by rw[need,hb,if_neg aae]
    rw[e2]
    exact skip (by rw[hg,hb];rfl)
   | true =>
    have e2:need f far acc ((i:Int)::gIx ((i + 1:Nat):Int) rs)=need f far (acc++[(i:Int)]) (gIx ((i + 1:Nat):Int) rs):=by rw[need,hb,if_pos rfl]
    rw[e2]
    rw[hg,hb]at ht
    obtain⟨o',o'',e⟩:=mP (n:=n) (far:=far) hN (rs:=rs) (i:=i + 1) (acc:=acc++[(i:Int)]) (o5:=some (It i)) (o6:=some (Rd r)) (by omega) (fun x hx=>by
     rcases aai.mp hx with z | z
     ·exact h2 x z
     ·rw[aat.mp z];exact⟨i,rfl,hi⟩) (by rw[aam,aaE];omega)
    refine⟨o',o'',bs (bs (x:=mE f far acc (some (It i)) (some (Rd r))) rfl (ae (aR ht (ae (cb (ρ3:=mE f far (acc++[(i:Int)]) (some (It i)) (some (Rd r))) rfl rfl rfl rfl (by rw[aaa];omega) ?_) rfl)) rfl)) e⟩
    show _=[some (Rl f.rows),some (Lo f),some (It far),some (Dl (Pls f)),some (Il (acc++[(i:Int)])),some (It i),some (Rd r)]
    rw[ck];rfl
theorem qj{n:Nat}{f:Cf}{far:Int}(hN:f.rows.length≤200):pl.pg.call (n + 4) 30 [Rl f.rows,Lo f,It far]=some (Il (need f far [] (gIx 0 f.rows)),[Rl f.rows,Lo f,It far]):=by
 obtain⟨o5,o6,e⟩:=mP (n:=n + 2) (far:=far) hN (rs:=f.rows) (i:=0) (acc:=[]) (o5:=none) (o6:=none) (aaK _) (fun b h=>absurd h aak) (by rw[aaL];omega)
 have e0:=ja (n:=n) hN
 have ec:(pl.pg.ct (n + 3)).call=pl.pg.call (n + 3):=rfl
 rw[<- ec]at e0
 have s1:cI (pl.pg.ct (n + 3)) (.par [3,4] (.cons (.ix (.call 29 (.cons (.nm 0) (.cons (.nm 1) (.cons (.lst .nil) .nil)))) (.int 0)) (.cons (.lst .nil) .nil))) [some (Rl f.rows),some (Lo f),some (It far),none,none,none,none]=some (.nx,mE f far [] none none):=ip (rs:=[.val (Dl (Pls f)),.val (.lst [])]) (ρ1:=[some (Rl f.rows),some (Lo f),some (It far),none,none,none,none]) (aa (aO (ab (rs:=[.val (Rl f.rows),.val (Lo f),.val (.lst [])]) (ρ1:=[some (Rl f.rows),some (Lo f),some (It far),none,none,none,none]) (ρ2:=[some (Rl f.rows),some (Lo f),some (It far),none,none,none,none]) rfl rfl e0 rfl) rfl rfl (cQ bF)) rfl) rfl rfl rfl
 have s2:lC (pl.pg.ct (n + 3)) (.enm (.nm 0)) (mE f far [] none none)=some (enF 0 f.rows,mE f far [] none none):=by
  have:=jO (C:=pl.pg.ct (n + 3)) (e:=.nm 0) (ρ:=mE f far [] none none) (ρ1:=mE f far [] none none) (ρ2:=mE f far [] none none) (x:=.val (Rl f.rows)) (ds:=f.rows.map R.d) rfl rfl
  rw[gC]at this
  exact this
 exact ag (fn:=kZ) (ρ:=mE f far (need f far [] (gIx 0 f.rows)) o5 o6 |>.set 4 none) rfl rfl (ae s1 (ae (cW s2 e) (az (ak (x:=.rf 4) (ρ1:=mE f far (need f far [] (gIx 0 f.rows)) o5 o6) rfl rfl)))) rfl
abbrev E8(f:Cf)(a b:Int):Prop:=f.r0 + f.r1 < P0 f b.toNat - P0 f a.toNat
theorem oM{f:Cf}{far:Int}(h0:0≤far):∀{gs acc:List Int},acc.Pairwise (fun a b=>far < P0 f b.toNat - P0 f a.toNat)->(need f far acc gs).Pairwise (fun a b=>far < P0 f b.toNat - P0 f a.toNat)/\∀x∈need f far acc gs,x∈acc\/x∈gs
 | [],acc,h=>⟨h,fun x hx=>.inl hx⟩
 | a::gs,acc,h=>by
  rw[need]
  have h':(if tk f far acc a=true then acc++[a] else acc).Pairwise (fun a b=>far < P0 f b.toNat - P0 f a.toNat):=by
   cases hb:tk f far acc a with
   | false=>rw[if_neg aae];exact h
   | true =>
    rw[if_pos rfl]
    rcases abi acc with e | ⟨ys,b,e⟩
    ·subst e;exact acp _ _
    ·rw[abj]at e
     subst e
     have hb:far < P0 f a.toNat - P0 f b.toNat:=by
      unfold tk at hb
      rw[abD]at hb
      exact of_decide_eq_true hb
     refine acq.mpr ⟨h,acp _ _,fun c hc d hd=>?_⟩
     rw[aat.mp hd]
     rcases aai.mp hc with z | z
     ·have:=(acq.mp h).2.2 c z b aaj
      omega
     ·rw[aat.mp z];exact hb
  obtain⟨h1,h2⟩:=oM (f:=f) h0 (gs:=gs) h'
  refine⟨h1,fun x hx=>?_⟩
  rcases h2 x hx with z | z
  ·split at z
   ·rcases aai.mp z with z | z
    ·exact .inl z
    ·rw[aat.mp z];exact .inr aaj
   ·exact .inl z
  ·exact .inr (aag _ z)
theorem wN{C:Ct}{o o':Co}{a b c:E}{ρ ρ1 ρ2 ρ3:DEnv}{x y z:OR}{dx dy dz:PyData}{k:Bool}(h1:ev C a ρ=some (x,ρ1))(h2:ev C b ρ1=some (y,ρ2))(hx:au ρ2 x=some dx)(hy:au ρ2 y=some dy)(h:lZ o dx dy=some true)(h3:ev C c ρ2=some (z,ρ3))(hy':au ρ3 y=some dy)(hz:au ρ3 z=some dz)(h':lZ o' dy dz=some k):ev C (.cmp2 o o' a b c) ρ=some (.val (.fz (.bool k)),ρ3):=bs h1 (bs h2 (bs hx (bs hy (bs h (bs h3 (bs hy' (bs hz (bs h' rfl))))))))
theorem wO{n:Nat}{a m:Nat}(h:a < m):pl.pg.call (n + 1) 0 [It a,It m]=some (.fz (.bool true),[It a,It m]):=by
 have t1:ev (pl.pg.ct n) (.cmp2 .le .lt (.int 0) (.nm 0) (.nm 1)) [some (It a),some (It m)]=some (.val (.fz (.bool true)),[some (It a),some (It m)]):=wN (dx:=.int 0) (dy:=.int a) (dz:=.int m) rfl rfl rfl rfl (show some (decide ((0:Int)≤a))=some true by rw[decide_eq_true (by omega)]) rfl rfl rfl (show some (decide ((a:Int) < m))=some true by rw[decide_eq_true (by omega)])
 exact ag (fn:=ci) rfl rfl (ae (aB rfl rfl) (az (ak t1 rfl))) rfl
abbrev E9:E:=.and (.call 0 (.cons (.nm 0) (.cons (.blt .len (.cons (.nm 2) .nil)) .nil))) (.cmp .inn (.nm 0) (.nm 1))
theorem oN{n:Nat}{f:Cf}{gs:List Int}:∀{ds:List Int} {out:List PyData} {o:Option OD},(∀a∈ds,a∈gs/\InR f a)->∃o',aU (aV (pl.pg.ct (n + 1)) (.nm 0) .none E9) (ds.map PyData.int) out [o,some (Il gs),some (Rl f.rows)]=some (out++List.replicate ds.length (.bool true),[o',some (Il gs),some (Rl f.rows)])
 | [],out,o,_=>⟨o,by show some (out,_)=some (out++[],_);rw[aaq]⟩
 | a::ds,out,o,h=>by
  obtain⟨hg,i,hi,hl⟩:=h a aaj
  subst hi
  obtain⟨o',e⟩:=oN (n:=n) (gs:=gs) (ds:=ds) (out:=out++[.bool true]) (o:=some (It i)) fun x hx=>h x (aag _ hx)
  have e1:ev (pl.pg.ct (n + 1)) E9 [some (It i),some (Il gs),some (Rl f.rows)]=some (.val (.fz (.bool true)),[some (It i),some (Il gs),some (Rl f.rows)]):=jN (ab (ρ3:=[some (It i),some (Il gs),some (Rl f.rows)]) (aa rfl (aa (aJ rfl rfl blen) af)) rfl (wO (n:=n) hl) rfl) (av (dx:=.int i) (dy:=.list (gs.map PyData.int)) rfl rfl rfl (aG gs) (by rw[inL,decide_eq_true hg]))
  refine⟨o',bs (x:=([.bool true],[some (It i),some (Il gs),some (Rl f.rows)])) (kY rfl e1 rfl) ?_⟩
  rw[aah]at e
  exact e
abbrev FW:E:=.call 8 (.cons (.nm 2) (.cons (.nm 3) (.cons (.nm 0) (.cons (.nm 1) .nil))))
theorem oO{n:Nat}{f:Cf}:∀{ps:List (Int × Int)} {out:List PyData} {o0 o1:Option OD},(∀p∈ps,InR f p.1/\InR f p.2/\E8 f p.1 p.2)->∃o0' o1',aU (aV (pl.pg.ct (n + 1)) (.tp [0,1]) .none FW) (ps.map fun p=>.tuple [.int p.1,.int p.2]) out [o0,o1,some (Dl (Pls f)),some (Re f)]=some (out++List.replicate ps.length (.bool true),[o0',o1',some (Dl (Pls f)),some (Re f)])
 | [],out,o0,o1,_=>⟨o0,o1,by show some (out,_)=some (out++[],_);rw[aaq]⟩
 | (a,b)::ps,out,o0,o1,h=>by
  obtain⟨⟨i,hi,hl⟩,⟨j,hj,hm⟩,hf⟩:=h (a,b) aaj
  simp only at hi hj hf
  subst hi hj
  obtain⟨o',o'',e⟩:=oO (n:=n) (f:=f) (ps:=ps) (out:=out++[.bool true]) (o0:=some (It i)) (o1:=some (It j)) fun x hx=>h x (aag _ hx)
  have hc:=oK (n:=n) (f:=f) hl hm
  rw[decide_eq_true (by simpa [E8] using hf)]at hc
  refine⟨o',o'',bs (x:=([.bool true],[some (It i),some (It j),some (Dl (Pls f)),some (Re f)])) (kY (x:=.val (.fz (.bool true))) rfl (ab (ρ3:=[some (It i),some (It j),some (Dl (Pls f)),some (Re f)]) rfl rfl hc rfl) rfl) ?_⟩
  rw[aah]at e
  exact e
theorem ly:∀m:Nat,allB (List.replicate m (.bool true))=some (List.replicate m true)
 | 0=>rfl
 | m + 1=>by rw[aa9,allB,ly m];rfl
theorem j4{m:Nat}:vF .all [.list (List.replicate m (.bool true))]=some (.bool true):=by
 show (allB (List.replicate m (.bool true))).bind _=_
 rw[ly]
 show some (PyData.bool ((List.replicate m true).all id))=_
 rw[List.all_replicate];simp
theorem iH{ρ:DEnv}{ds:List PyData}:cA ρ [.val (.lst (ds.map OD.fz))]=some [.list ds]:=by
 have:au ρ (.val (.lst (ds.map OD.fz)))=some (.list ds):=cS ds
 simp only[cA,this];rfl
theorem lz{R:Int->Int->Prop}:∀{ds:List Int},ds.Pairwise R->∀p∈ds.zip (ds.drop 1),p.1∈ds/\p.2∈ds/\R p.1 p.2
 | [],_,p,h=>by cases h
 | [_],_,p,h=>by cases h
 | a::b::ds,h,p,hp=>by
  obtain⟨h1,h2⟩:=List.pairwise_cons.mp h
  have hp:p∈(a,b)::(b::ds).zip ((b::ds).drop 1):=hp
  rcases aac.mp hp with rfl | hp
  ·exact⟨aaj,aag _ aaj,h1 b aaj⟩
  ·obtain⟨z1,z2,z3⟩:=lz h2 p hp
   exact⟨aag _ z1,aag _ z2,z3⟩
theorem jb:∀{xs ys:List Int},eh (xs.map PyData.int) (ys.map PyData.int)=(xs.zip ys).map fun p=>.tuple [.int p.1,.int p.2]
 | [],ys=>by cases ys<;>rfl
 | x::xs,[]=>rfl
 | x::xs,y::ys=>by
  show PyData.tuple [.int x,.int y]::eh _ _=_
  rw[jb];rfl
theorem uf{ds:List PyData}:cutD ds (some 1) none=ds.drop 1:=by
 have e1:HT.sIx ds.length ds.length none=ds.length:=rfl
 have e0:HT.sIx ds.length 0 (some 1)=min 1 ds.length:=by unfold HT.sIx;simp only;rw[if_neg (by omega)];rfl
 unfold cutD
 rw[e0,e1]
 cases ds with
 | nil=>rfl
 | cons d ds =>
  rw[aap,Nat.min_eq_left (by omega),List.take_of_length_le]
  rw[abr,aap];exact aaf _
theorem An{C:Ct}{a:E}{lo hi:Eo}{ρ ρ1 ρ2 ρ3:DEnv}{x:OR}{l u:Option Int}{ds:List PyData}(h1:ev C a ρ=some (x,ρ1))(h2:BG C lo ρ1=some (l,ρ2))(h3:BG C hi ρ2=some (u,ρ3))(h4:vg ρ3 x=some ds):ev C (.sll a lo hi) ρ=some (.val (.lst ((cutD ds l u).map OD.fz)),ρ3):=bs h1 (bs h2 (bs h3 (bs h4 rfl)))
section
variable(f:Cf)(ds:List Int)
abbrev hE(o4 o5 o6 o7:Option OD):DEnv:=[some (Rl f.rows),some (Lo f),some (Re f),some (Dl ds),o4,o5,o6,o7]
abbrev hF:DEnv:=hE f ds (some (Il (gIx 0 f.rows))) (some (Dl (Pls f))) (some De) (some (It (P0 f f.rows.length)))
end
theorem wQ{n:Nat}{f:Cf}{ds:List Int}(hN:f.rows.length≤200)(hl:ds.length≤1000)(h1:∀a∈ds,a∈gIx 0 f.rows)(h2:ds.Pairwise (E8 f)):pl.pg.call (n + 4) 10 [Rl f.rows,Lo f,Re f,Dl ds]=some (.fz (.bool true),[Rl f.rows,Lo f,Re f,Dl ds]):=by
 have e0:pl.pg.call (n + 3) 7 [Rl f.rows,Lo f,De]=some (Am f,[Rl f.rows,Lo f,De]):=c_place0 hN
 have e1:pl.pg.call (n + 3) 2 [Rl f.rows]=some (Il (gIx 0 f.rows),[Rl f.rows]):=iB (n:=n + 1) (by omega)
 have ec:(pl.pg.ct (n + 3)).call=pl.pg.call (n + 3):=rfl
 rw[<- ec]at e0 e1
 obtain⟨o,e2⟩:=oN (n:=n + 2) (f:=f) (gs:=gIx 0 f.rows) (ds:=ds) (out:=[]) (o:=none) fun a ha=>⟨h1 a ha,j3 (h1 a ha)⟩
 rw[aaP]at e2
 have hz:=lz h2
 obtain⟨o0,o1,e3⟩:=oO (n:=n + 2) (f:=f) (ps:=ds.zip (ds.drop 1)) (out:=[]) (o0:=none) (o1:=none) fun p hp=>⟨j3 (h1 _ (hz p hp).1),j3 (h1 _ (hz p hp).2.1),(hz p hp).2.2⟩
 rw[aaP,<- jb]at e3
 have s2:cI (pl.pg.ct (n + 3)) (.set 4 (.call 2 (.cons (.nm 0) .nil))) (hE f ds none none none none)=some (.nx,hE f ds (some (Il (gIx 0 f.rows))) none none none):=aj (ρ2:=hE f ds none none none none) (ab (rs:=[.val (Rl f.rows)]) (ρ1:=hE f ds none none none none) (ρ2:=hE f ds none none none none) (ρ3:=hE f ds none none none none) rfl rfl e1 rfl) rfl rfl rfl
 have hc:=bL (C:=pl.pg.ct (n + 3)) (nt:=1) (fr:=[4,0]) (it:=.seq (.nm 3)) (ρ:=hE f ds (some (Il (gIx 0 f.rows))) none none none) (ρ1:=hE f ds (some (Il (gIx 0 f.rows))) none none none) (ρ2:=hE f ds (some (Il (gIx 0 f.rows))) none none none) (zc:=([some (Il (gIx 0 f.rows)),some (Rl f.rows)],hE f ds none none none none)) (cO (ρ2:=hE f ds (some (Il (gIx 0 f.rows))) none none none) rfl rfl rfl) (by rw[aaa];omega) rfl e2 rfl
 have s3:aZ (pl.pg.ct (n + 3)) (.not (.blt .all (.cons (.comp 1 [4,0] (.seq (.nm 3)) (.nm 0) .none E9) .nil))) (hE f ds (some (Il (gIx 0 f.rows))) none none none)=some (false,hE f ds (some (Il (gIx 0 f.rows))) none none none):=bJ (k:=true) (CT (aJ (ds:=[.list (List.replicate ds.length (.bool true))]) (aa hc af) iH j4))
 have s4:cI (pl.pg.ct (n + 3)) (.asg (.tp [5,6,7]) (.call 7 (.cons (.nm 0) (.cons (.nm 1) (.cons (.lst .nil) .nil))))) (hE f ds (some (Il (gIx 0 f.rows))) none none none)=some (.nx,hF f ds):=mN (z:=Am f) (ρ1:=hE f ds (some (Il (gIx 0 f.rows))) none none none) (ab (rs:=[.val (Rl f.rows),.val (Lo f),.val (.lst [])]) (ρ1:=hE f ds (some (Il (gIx 0 f.rows))) none none none) (ρ2:=hE f ds (some (Il (gIx 0 f.rows))) none none none) rfl rfl e0 rfl) rfl rfl
 have hsl:ev (pl.pg.ct (n + 3)) (.sll (.nm 3) (.some (.int 1)) .none) (hF f ds)=some (.val (.lst (((ds.drop 1).map PyData.int).map OD.fz)),hF f ds):=by
  have:=An (C:=pl.pg.ct (n + 3)) (a:=.nm 3) (lo:=.some (.int 1)) (hi:=.none) (ρ:=hF f ds) (ρ3:=hF f ds) (l:=some 1) (u:=none) (ds:=ds.map PyData.int) rfl rfl rfl rfl
  rw[uf,<- List.map_drop]at this
  exact this
 have hzi:lC (pl.pg.ct (n + 3)) (.zip (.nm 3) (.sll (.nm 3) (.some (.int 1)) .none)) (hF f ds)=some (eh (ds.map PyData.int) ((ds.drop 1).map PyData.int),hF f ds):=mz (dx:=.list (ds.map PyData.int)) (dy:=.list ((ds.drop 1).map PyData.int)) (ρ1:=hF f ds) (ρ3:=hF f ds) rfl hsl rfl (by show ((OD.lst (((ds.drop 1).map PyData.int).map OD.fz)).dat).map _=_;rw[cS];rfl) rfl rfl
 have hc2:=bL (C:=pl.pg.ct (n + 3)) (nt:=2) (fr:=[5,2]) (ρ:=hF f ds) (ρ1:=hF f ds) (ρ2:=hF f ds) (zc:=([some (Dl (Pls f)),some (Re f)],hF f ds)) hzi (by unfold eh;rw[ab5,aaa];omega) rfl e3 rfl
 exact ag (fn:=dE) (ρ:=hF f ds) rfl rfl (ae (aB rfl rfl) (ae s2 (ae (aB s3 rfl) (ae s4 (az (ak (aJ (ds:=[.list (List.replicate (ds.zip (ds.drop 1)).length (.bool true))]) (aa hc2 af) iH j4) rfl)))))) rfl
theorem wR{n:Nat}{a:Int}:pl.pg.call (n + 1) 32 [It a,It a]=some (.fz (.bool true),[It a,It a]):=by
 have h:ev (pl.pg.ct n) (.cmp .eq (.nm 0) (.nm 1)) [some (It a),some (It a)]=some (.val (.fz (.bool true)),[some (It a),some (It a)]):=av rfl rfl rfl rfl (show some (decide (a=a))=some true by rw[decide_eq_true rfl])
 exact ag (fn:=mC) rfl rfl (ae (aB rfl rfl) (ae (aB rfl rfl) (ae (aB rfl rfl) (az (ak (jN rfl (jN rfl h)) rfl))))) rfl
theorem oP{n:Nat}:∀{xs:List Int} {out:List PyData} {o0 o1:Option OD},∃o0' o1',aU (aV (pl.pg.ct (n + 1)) (.tp [0,1]) .none (.call 32 (.cons (.nm 0) (.cons (.nm 1) .nil)))) (eh (xs.map PyData.int) (xs.map PyData.int)) out [o0,o1]=some (out++List.replicate xs.length (.bool true),[o0',o1'])
 | [],out,o0,o1=>⟨o0,o1,by show some (out,_)=some (out++[],_);rw[aaq]⟩
 | x::xs,out,o0,o1=>by
  obtain⟨o',o'',e⟩:=oP (n:=n) (xs:=xs) (out:=out++[.bool true]) (o0:=some (It x)) (o1:=some (It x))
  refine⟨o',o'',bs (x:=([.bool true],[some (It x),some (It x)])) (kY (x:=.val (.fz (.bool true))) rfl (ab (ρ3:=[some (It x),some (It x)]) rfl rfl (wR (n:=n)) rfl) rfl) ?_⟩
  rw[aah]at e
  exact e
theorem ug{n:Nat}{xs:List Int}(hl:xs.length≤1000):pl.pg.call (n + 2) 32 [Dl xs,Dl xs]=some (.fz (.bool true),[Dl xs,Dl xs]):=by
 obtain⟨o0,o1,e⟩:=oP (n:=n) (xs:=xs) (out:=[]) (o0:=none) (o1:=none)
 rw[aaP]at e
 have hc:=bL (C:=pl.pg.ct (n + 1)) (nt:=2) (fr:=[]) (it:=.zip (.nm 0) (.nm 1)) (ρ:=[some (Dl xs),some (Dl xs)]) (ρ1:=[some (Dl xs),some (Dl xs)]) (ρ2:=[some (Dl xs),some (Dl xs)]) (mz (ρ3:=[some (Dl xs),some (Dl xs)]) rfl rfl rfl rfl rfl rfl) (by unfold eh;rw[ab5,aaa];omega) rfl e unca_nil
 have hn:aZ (pl.pg.ct (n + 1)) (.cmp .ne (.blt .len (.cons (.nm 0) .nil)) (.blt .len (.cons (.nm 1) .nil))) [some (Dl xs),some (Dl xs)]=some (false,[some (Dl xs),some (Dl xs)]):=ax (av (dx:=.int xs.length) (dy:=.int xs.length) (aJ rfl rfl blen) (aJ rfl rfl blen) rfl rfl (show some (!decide ((xs.length:Int)=xs.length))=some false by rw[decide_eq_true rfl];rfl))
 exact ag (fn:=mC) rfl rfl (az (aR rfl (ae (aB rfl rfl) (ae (aB hn rfl) (az (ak (aJ (ds:=[.list (List.replicate xs.length (.bool true))]) (aa hc af) iH j4) rfl)))))) rfl
theorem xJ{f:Cf}:∀{k:Nat},0≤P0 f k/\P0 f k≤2 * (k:Int)
 | 0=>⟨aa5 _,aa5 _⟩
 | k + 1=>by
  have h:=xJ (f:=f) (k:=k)
  have e:P0 f (k + 1)=P0 f k + sz f k:=P0_succ
  have:=tZ (f:=f) (k:=k)
  omega
abbrev Sp(xs:List Int):Prop:=∀x∈xs,0≤x/\x≤400
theorem j5{n:Nat}{f:Cf}(hN:f.rows.length≤200):∀{rs:List R} {i:Nat} {out:List Int} {o0 o1:Option OD},i + rs.length=f.rows.length->Sp out->∃xs o0' o1',aU (aV (pl.pg.ct (n + 1)) (.tp [0,1]) (.some (.call 27 (.cons (.nm 1) .nil))) (.ix (.nm 2) (.nm 0))) (enF i rs) (out.map PyData.int) [o0,o1,some (Dl (Pls f))]=some (xs.map PyData.int,[o0',o1',some (Dl (Pls f))])/\Sp xs/\xs.length≤out.length + rs.length
 | [],i,out,o0,o1,_,h=>⟨out,o0,o1,rfl,h,aaf _⟩
 | r::rs,i,out,o0,o1,hi,h=>by
  rw[aap]at hi ⊢
  have hg:aZ (pl.pg.ct (n + 1)) (.call 27 (.cons (.nm 1) .nil)) [some (It i),some (Rd r),some (Dl (Pls f))]=some (r.gr,[some (It i),some (Rd r),some (Dl (Pls f))]):=aY (ab (ρ3:=[some (It i),some (Rd r),some (Dl (Pls f))]) rfl rfl (k7 r) rfl)
  have ei:((i + 1:Nat):Int)=(i:Int) + 1:=by omega
  have ee:enF (i:Int) (r::rs)=.tuple [.int i,r.d]::enF ((i + 1:Nat):Int) rs:=by rw[enF,ei]
  rw[ee]
  cases hb:r.gr with
  | false =>
   rw[hb]at hg
   obtain⟨xs,a,b,e,h1,h2⟩:=j5 (n:=n) hN (rs:=rs) (i:=i + 1) (out:=out) (o0:=some (It i)) (o1:=some (Rd r)) (by omega) h
   refine⟨xs,a,b,bs (x:=([],[some (It i),some (Rd r),some (Dl (Pls f))])) (qe rfl hg) ?_,h1,by omega⟩
   rw[aaq];exact e
  | true =>
   rw[hb]at hg
   have a1:atI ((Pls f).map PyData.int) (i:Int)=some (.int (P0 f i)):=eA (by rw[aau,iG (by omega)];rfl)
   have hp:=xJ (f:=f) (k:=i)
   obtain⟨xs,a,b,e,h1,h2⟩:=j5 (n:=n) hN (rs:=rs) (i:=i + 1) (out:=out++[P0 f i]) (o0:=some (It i)) (o1:=some (Rd r)) (by omega) (fun x hx=>by
    rcases aai.mp hx with z | z
    ·exact h x z
    ·rw[aat.mp z];omega)
   refine⟨xs,a,b,bs (x:=([.int (P0 f i)],[some (It i),some (Rd r),some (Dl (Pls f))])) (qd rfl hg (aO rfl rfl rfl (bM a1)) rfl) ?_,h1,by rw[aam,aaE]at h2;omega⟩
   rw[aax]at e;exact e
abbrev ntE(x:OD)(f:Cf)(o3 o4 o5 o6 o7 o8:Option OD):DEnv:=[some x,some (Rl f.rows),some (Lo f),o3,o4,o5,o6,o7,o8]
abbrev Fb:E:=.ix (.nm 1) (.call 22 (.cons (.nm 2) (.cons (.blt .len (.cons (.nm 1) .nil)) .nil)))
theorem xK{n m:Nat}{a b c:Int}{xs:List Int}{o:Option OD}(h:TpOk b c m)(hm:m≤900000)(hx:0 < xs.length)(hl:xs.length≤1000):∃y a' b' c',ev (pl.pg.ct (n + 1)) Fb [o,some (Il xs),some (Tp a b c)]=some (.val (It y),[o,some (Il xs),some (Tp a' b' c')])/\y∈xs/\TpOk b' c' (m + 1):=by
 obtain⟨x,a1,b1,c1,e1,x0,x1,t1⟩:=aq (n:=n) (a:=a) (many:=(xs.length:Int)) h (by omega) (by omega) (by omega)
 obtain⟨y,hy,ey⟩:=bQ (ks:=xs) x0 (by omega)
 refine⟨y,a1,b1,c1,aO (x:=.rf 1) (ρ1:=[o,some (Il xs),some (Tp a b c)]) rfl (ab (ρ3:=[o,some (Il xs),some (Tp a1 b1 c1)]) (rs:=[.rf 2,.val (It xs.length)]) (ρ1:=[o,some (Il xs),some (Tp a b c)]) (aa rfl (aa (aJ (ds:=[.list (xs.map PyData.int)]) (rs:=[.rf 1]) rfl ?_ blen) af)) rfl e1 rfl) rfl (fA rfl ey),hy,t1⟩
 have:au [o,some (Il xs),some (Tp a b c)] (.rf 1)=some (.list (xs.map PyData.int)):=aG xs
 simp only[cA,this];rfl
abbrev Ro(q:Int × Int):Prop:=0≤q.1/\q.1≤10000/\6≤q.2/\q.2≤10000
theorem Ao{n m:Nat}{f:Cf}{a b c:Int}(hN:f.rows.length≤200)(h:TpOk b c m)(hm:m≤90000):∃(qs:List (Int × Int)) (a' b' c':Int),pl.pg.call (n + 4) 33 [Tp a b c,Rl f.rows,Lo f]=some (.lst (qs.map fun q=>.fz (.tuple [.int q.1,.int q.2])),[Tp a' b' c',Rl f.rows,Lo f])/\(∀q∈qs,Ro q)/\qs.length≤3/\TpOk b' c' (m + 3):=by
 have e0:=ja (n:=n) hN
 have ec:(pl.pg.ct (n + 3)).call=pl.pg.call (n + 3):=rfl
 rw[<- ec]at e0
 have s1:cI (pl.pg.ct (n + 3)) (.set 3 (.ix (.call 29 (.cons (.nm 1) (.cons (.nm 2) (.cons (.lst .nil) .nil)))) (.int 0))) (ntE (Tp a b c) f none none none none none none)=some (.nx,ntE (Tp a b c) f (some (Dl (Pls f))) none none none none none):=aj (ρ2:=ntE (Tp a b c) f none none none none none none) (aO (ab (rs:=[.val (Rl f.rows),.val (Lo f),.val (.lst [])]) (ρ1:=ntE (Tp a b c) f none none none none none none) (ρ2:=ntE (Tp a b c) f none none none none none none) (ρ3:=ntE (Tp a b c) f none none none none none none) rfl rfl e0 rfl) rfl rfl (cQ bF)) rfl rfl rfl
 obtain⟨xs,p0,p1,e2,hs,hl⟩:=j5 (n:=n + 2) hN (rs:=f.rows) (i:=0) (out:=[]) (o0:=none) (o1:=none) (aaK _) (fun x hx=>absurd hx aak)
 rw[aaL,aaK]at hl
 have hen:lC (pl.pg.ct (n + 3)) (.enm (.nm 1)) (ntE (Tp a b c) f (some (Dl (Pls f))) none none none none none)=some (enF 0 f.rows,ntE (Tp a b c) f (some (Dl (Pls f))) none none none none none):=by
  have:=jO (C:=pl.pg.ct (n + 3)) (e:=.nm 1) (ρ:=ntE (Tp a b c) f (some (Dl (Pls f))) none none none none none) (ρ1:=ntE (Tp a b c) f (some (Dl (Pls f))) none none none none none) (ρ2:=ntE (Tp a b c) f (some (Dl (Pls f))) none none none none none) (x:=.val (Rl f.rows)) (ds:=f.rows.map R.d) rfl rfl
  rw[gC]at this
  exact this
 have hel:(enF 0 f.rows).length=f.rows.length:=by rw[<- gC,cD,aaa]
 have s2:cI (pl.pg.ct (n + 3)) (.set 4 (.comp 2 [3] (.enm (.nm 1)) (.tp [0,1]) (.some (.call 27 (.cons (.nm 1) .nil))) (.ix (.nm 2) (.nm 0)))) (ntE (Tp a b c) f (some (Dl (Pls f))) none none none none none)=some (.nx,ntE (Tp a b c) f (some (Dl (Pls f))) (some (Il xs)) none none none none):=aj (z:=Il xs) (ρ2:=ntE (Tp a b c) f (some (Dl (Pls f))) none none none none none) (bL (zc:=([some (Dl (Pls f))],ntE (Tp a b c) f (some (Dl (Pls f))) none none none none none)) (ρ2:=ntE (Tp a b c) f (some (Dl (Pls f))) none none none none none) hen (by rw[hel];omega) rfl e2 rfl) (by rw[gw];rfl) rfl rfl
 have s3:aZ (pl.pg.ct (n + 3)) (.cmp .lt (.blt .len (.cons (.nm 4) .nil)) (.int 2)) (ntE (Tp a b c) f (some (Dl (Pls f))) (some (Il xs)) none none none none)=some (decide ((xs.length:Int) < 2),ntE (Tp a b c) f (some (Dl (Pls f))) (some (Il xs)) none none none none):=ax (av (dx:=.int xs.length) (dy:=.int 2) (aJ (ds:=[.list (xs.map PyData.int)]) (rs:=[.rf 4]) rfl (by
  have:au (ntE (Tp a b c) f (some (Dl (Pls f))) (some (Il xs)) none none none none) (.rf 4)=some (.list (xs.map PyData.int)):=aG xs
  simp only[cA,this];rfl) blen) rfl rfl rfl rfl)
 by_cases h2:(xs.length:Int) < 2
 ·rw[decide_eq_true h2]at s3
  exact⟨[(0,6)],a,b,c,ag (fn:=mD) (ρ:=ntE (Tp a b c) f (some (Dl (Pls f))) (some (Il xs)) none none none none) rfl rfl (ae s1 (ae s2 (az (aR s3 (az rfl))))) rfl,fun q hq=>by rw[aat.mp hq];decide,by decide,h.up (by omega)⟩
 rw[decide_eq_false h2]at s3
 obtain⟨y1,a1,b1,c1,f1,m1,t1⟩:=xK (n:=n + 2) (a:=a) (xs:=xs) (o:=some (It 0)) h (by omega) (by omega) (by omega)
 obtain⟨y2,a2,b2,c2,f2,m2,t2⟩:=xK (n:=n + 2) (a:=a1) (xs:=xs) (o:=some (It 1)) t1 (by omega) (by omega) (by omega)
 have hc:aU (aV (pl.pg.ct (n + 3)) (.nm 0) .none Fb) (bU 0 2) [] [none,some (Il xs),some (Tp a b c)]=some ([.int y1,.int y2],[some (It 1),some (Il xs),some (Tp a2 b2 c2)]):=bs (x:=([.int y1],[some (It 0),some (Il xs),some (Tp a1 b1 c1)])) (kY rfl f1 rfl) (bs (x:=([.int y2],[some (It 1),some (Il xs),some (Tp a2 b2 c2)])) (kY rfl f2 rfl) rfl)
 have s4:cI (pl.pg.ct (n + 3)) (.asg (.tp [5,6]) (.comp 1 [4,0] (.rg1 (.int 2)) (.nm 0) .none Fb)) (ntE (Tp a b c) f (some (Dl (Pls f))) (some (Il xs)) none none none none)=some (.nx,ntE (Tp a2 b2 c2) f (some (Dl (Pls f))) (some (Il xs)) (some (It y1)) (some (It y2)) none none):=mN (z:=.lst [It y1,It y2]) (ρ2:=ntE (Tp a2 b2 c2) f (some (Dl (Pls f))) (some (Il xs)) none none none none) (bL (out:=[.int y1,.int y2]) (zc:=([some (Il xs),some (Tp a b c)],[none,some (Rl f.rows),some (Lo f),some (Dl (Pls f)),none,none,none,none,none])) (ρ1:=ntE (Tp a b c) f (some (Dl (Pls f))) (some (Il xs)) none none none none) (ρ2:=ntE (Tp a2 b2 c2) f (some (Dl (Pls f))) (some (Il xs)) none none none none) (dD (n:=2) rfl rfl (by decide)) (by decide) rfl hc rfl) rfl rfl
 obtain⟨fr,hfr⟩:∃fr:Int,vF .mx3 [.int 7,.int (y1 - y2),.int (y2 - y1)]=some (.int fr)/\7≤fr/\fr≤400:=by
  have z1:=hs y1 m1
  have z2:=hs y2 m2
  refine⟨_,rfl,?_,?_⟩<;>(repeat' split)<;>omega
 obtain⟨bk,a3,b3,c3,e5,k0,k1,t3⟩:=aq (n:=n + 2) (a:=a2) (many:=fr - 6) t2 (by omega) (by omega) (by omega)
 have e5':(pl.pg.ct (n + 3)).call 22 [Tp a2 b2 c2,It (fr - 6)]=some (It bk,[Tp a3 b3 c3,It (fr - 6)]):=e5
 have s5:cI (pl.pg.ct (n + 3)) (.set 7 (.blt .mx3 (.cons (.int 7) (.cons (.bop .sub (.nm 5) (.nm 6)) (.cons (.bop .sub (.nm 6) (.nm 5)) .nil))))) (ntE (Tp a2 b2 c2) f (some (Dl (Pls f))) (some (Il xs)) (some (It y1)) (some (It y2)) none none)=some (.nx,ntE (Tp a2 b2 c2) f (some (Dl (Pls f))) (some (Il xs)) (some (It y1)) (some (It y2)) (some (It fr)) none):=aj (ρ2:=ntE (Tp a2 b2 c2) f (some (Dl (Pls f))) (some (Il xs)) (some (It y1)) (some (It y2)) none none) (aJ (ds:=[.int 7,.int (y1 - y2),.int (y2 - y1)]) rfl rfl hfr.1) rfl rfl rfl
 have s6:cI (pl.pg.ct (n + 3)) (.set 8 (.call 22 (.cons (.nm 0) (.cons (.bop .sub (.nm 7) (.int 6)) .nil)))) (ntE (Tp a2 b2 c2) f (some (Dl (Pls f))) (some (Il xs)) (some (It y1)) (some (It y2)) (some (It fr)) none)=some (.nx,ntE (Tp a3 b3 c3) f (some (Dl (Pls f))) (some (Il xs)) (some (It y1)) (some (It y2)) (some (It fr)) (some (It bk))):=aj (ρ2:=ntE (Tp a3 b3 c3) f (some (Dl (Pls f))) (some (Il xs)) (some (It y1)) (some (It y2)) (some (It fr)) none) (ab (ρ3:=ntE (Tp a3 b3 c3) f (some (Dl (Pls f))) (some (Il xs)) (some (It y1)) (some (It y2)) (some (It fr)) none) rfl rfl e5' rfl) rfl rfl rfl
 obtain⟨mx,hmx⟩:∃mx:Int,vF .max [.int 6,.int (fr - bk - 1)]=some (.int mx)/\6≤mx/\mx≤10000:=by
  refine⟨_,rfl,?_⟩
  split<;>omega
 refine⟨[(bk,fr - bk),(bk,fr - bk + 1),(bk,mx)],a3,b3,c3,ag (fn:=mD) (ρ:=ntE (Tp a3 b3 c3) f (some (Dl (Pls f))) (some (Il xs)) (some (It y1)) (some (It y2)) (some (It fr)) (some (It bk))) rfl rfl (ae s1 (ae s2 (ae (aB s3 rfl) (ae s4 (ae s5 (ae s6 (az (ak (fg (aa rfl (aa rfl (aa (dB (aa rfl (aa (aJ (ds:=[.int 6,.int (fr - bk - 1)]) rfl rfl hmx.1) af)) rfl rfl rfl) af))) rfl rfl) rfl)))))))) rfl,fun q hq=>?_,aaf _,t3⟩
 have h7:=hfr.2
 have h8:=hmx.2
 rcases aac.mp hq with rfl | hq
 ·show 0≤bk/\bk≤10000/\6≤fr - bk/\fr - bk≤10000;omega
 ·rcases aac.mp hq with rfl | hq
  ·show 0≤bk/\bk≤10000/\6≤fr - bk + 1/\fr - bk + 1≤10000;omega
  ·rw[aat.mp hq];show 0≤bk/\bk≤10000/\6≤mx/\mx≤10000;omega
theorem iI:∀rs:List R,PyData.canLayAll0 (rs.map R.d)=true
 | []=>rfl
 | .st _ _::r=>by
  have:PyData.strOk (Str.ofString "set")=true:=by decide +kernel
  simp[PyData.canLayAll0,PyData.canLay0,R.d,iI r,this]
 | .ot _ _ h::r=>by simp[PyData.canLayAll0,PyData.canLay0,R.d,lay_ints,iI r,h.2]
theorem dep_rows:∀rs:List R,PyData.depthAll (rs.map R.d)≤1
 | []=>by simp[PyData.depthAll]
 | .st _ _::r=>by have:=dep_rows r;simp[PyData.depthAll,PyData.depth,R.d,this]
 | .ot _ _ _::r=>by have:=dep_rows r;simp[PyData.depthAll,PyData.depth,R.d,fF,this]
abbrev Hd(rs:List R)(ls:List Int):PyData:=.tuple [.list (rs.map R.d),.list (ls.map PyData.int)]
theorem C8{rs:List R}{ls:List Int}:lZ .ne (Hd rs ls) (Hd rs ls)=some false:=by
 have hd:=dep_rows rs
 have hl:PyData.canLay0 (Hd rs ls)=true:=by simp[PyData.canLay0,PyData.canLayAll0,iI,lay_ints]
 have h:SeqAt.shaped (Hd rs ls)=true:=by
  unfold SeqAt.shaped
  rw[hl,ab4]
  refine decide_eq_true ?_
  simp[PyData.depth,PyData.depthAll,fF]
  omega
 show (if (SeqAt.shaped (Hd rs ls) && SeqAt.shaped (Hd rs ls))=true then some (PyData.eqv (Hd rs ls) (Hd rs ls)) else none).bind _=_
 rw[h,Bool.and_self,if_pos rfl,eqv_refl _ hl];rfl
abbrev Fc:E:=.cmp .eq (.call 22 (.cons (.nm 1) (.cons (.int 2) .nil))) (.int 0)
theorem fX{n:Nat}:∀{D out:List Int} {m:Nat} {a b c:Int} {o:Option OD},TpOk b c m->m + D.length≤100000->∃(ys:List Int) (a' b' c':Int) (o':Option OD),aU (aV (pl.pg.ct (n + 1)) (.nm 0) (.some Fc) (.nm 0)) (D.map PyData.int) (out.map PyData.int) [o,some (Tp a b c)]=some ((out++ys).map PyData.int,[o',some (Tp a' b' c')])/\ys.Sublist D/\TpOk b' c' (m + D.length)
 | [],out,m,a,b,c,o,h,_=>⟨[],a,b,c,o,by rw[aaq];rfl,.slnil,h⟩
 | d::D,out,m,a,b,c,o,h,hm=>by
  rw[aap]at hm
  obtain⟨x,a1,b1,c1,e1,x0,x1,t1⟩:=aq (n:=n) (a:=a) (many:=2) h (by omega) (by decide) (by decide)
  have ht:aZ (pl.pg.ct (n + 1)) Fc [some (It d),some (Tp a b c)]=some (decide (x=0),[some (It d),some (Tp a1 b1 c1)]):=ax (av (ab (ρ3:=[some (It d),some (Tp a1 b1 c1)]) rfl rfl e1 rfl) rfl rfl rfl rfl)
  cases hb:decide (x=0) with
  | false =>
   rw[hb]at ht
   obtain⟨ys,a2,b2,c2,o2,e,hs,t2⟩:=fX (n:=n) (D:=D) (out:=out) (a:=a1) (o:=some (It d)) t1 (by omega)
   refine⟨ys,a2,b2,c2,o2,bs (x:=([],[some (It d),some (Tp a1 b1 c1)])) (qe rfl ht) ?_,.cons _ hs,t2.up (by rw[aap];omega)⟩
   rw[aaq];exact e
  | true =>
   rw[hb]at ht
   obtain⟨ys,a2,b2,c2,o2,e,hs,t2⟩:=fX (n:=n) (D:=D) (out:=out++[d]) (a:=a1) (o:=some (It d)) t1 (by omega)
   refine⟨d::ys,a2,b2,c2,o2,bs (x:=([.int d],[some (It d),some (Tp a1 b1 c1)])) (qd rfl ht rfl rfl) ?_,.cons_cons _ hs,t2.up (by rw[aap];omega)⟩
   rw[aax,aah]at e
   exact e
abbrev iE(sc k t:OD)(f:Cf)(x5:OD)(o6 o7 o8 o9:Option OD):DEnv:=[some sc,some k,some t,some (Rl f.rows),some (Lo f),some x5,o6,o7,o8,o9]
abbrev H1(f:Cf):OD:=.tup [Rl f.rows,Lo f]
abbrev H0(f:Cf):OD:=.tup [Rs f.rows,Il f.longs]
theorem mQ{rs:List R}:(Rs rs).dat=some (.list (rs.map R.d)):=by rw[Rs,<- oy];exact cS _
theorem Fd{sc k t:OD}{f:Cf}{x5:OD}{o6 o7 o8 o9:Option OD}(hx:x5=H0 f\/x5=H1 f):∃y,bD (iE sc k t f x5 o6 o7 o8 o9) (.rf 5) 0=some (Rl f.rows,iE sc k t f (.tup [Rl f.rows,y]) o6 o7 o8 o9)/\bD (iE sc k t f (.tup [Rl f.rows,y]) o6 o7 o8 o9) (.rf 5) 1=some (Lo f,iE sc k t f (H1 f) o6 o7 o8 o9):=by
 rcases hx with rfl | rfl
 ·refine⟨Il f.longs,?_,?_⟩
  ·have:itemS (H0 f) 0=some (.list (f.rows.map R.d),.tup [Rl f.rows,Il f.longs]):=by
    show (match (Rs f.rows).dat with | some d=>some (d,OD.tup ([Rs f.rows,Il f.longs].set 0 (.fz d))) | none=>none)=_
    rw[mQ];rfl
   show (match itemS (H0 f) 0 with | some (d,y)=>some (OD.fz d,(iE sc k t f (H0 f) o6 o7 o8 o9).set 5 (some y)) | none=>none)=_
   rw[this];rfl
  ·have:itemS (.tup [Rl f.rows,Il f.longs]) 1=some (.list (f.longs.map PyData.int),H1 f):=by
    show (match (Il f.longs).dat with | some d=>some (d,OD.tup ([Rl f.rows,Il f.longs].set 1 (.fz d))) | none=>none)=_
    rw[aG];rfl
   show (match itemS (.tup [Rl f.rows,Il f.longs]) 1 with | some (d,y)=>some (OD.fz d,(iE sc k t f (.tup [Rl f.rows,Il f.longs]) o6 o7 o8 o9).set 5 (some y)) | none=>none)=_
   rw[this];rfl
 ·exact⟨Lo f,rfl,rfl⟩
abbrev xM:Ss:=match F_law.body with | .cons (.fr _ _ (.cons _ (.cons (.fr _ _ b) _))) _=>b | _=>.nil
abbrev xN:Ss:=match xM with | .cons _ (.cons _ (.cons (.fr _ _ b) _))=>b | _=>.nil
theorem datL2{ρ:DEnv}{r s:OR}{d e:PyData}(h1:au ρ r=some d)(h2:au ρ s=some e):cA ρ [r,s]=some [d,e]:=by simp only[cA,h1,h2];rfl
theorem Ap{n m:Nat}{sc k:OD}{a b c:Int}{f:Cf}{x5:OD}{o6 o7 o8 o9:Option OD}(hq:Ro (f.r0,f.r1))(h:TpOk b c m)(hm:m≤50000)(hl:f.rows.length≤120)(hx:x5=H0 f\/x5=H1 f) :
  ∃ρ',((bb (.nm 6) (Re f) (iE sc k (Tp a b c) f x5 o6 o7 o8 o9)).bind fun ρ1=>aN (pl.pg.ct (n + 6)) xN ρ1)=some (.nx,ρ')/\∃a' b' c' p6 p7 p8 p9,ρ'=iE sc k (Tp a' b' c') f (H1 f) p6 p7 p8 p9/\TpOk b' c' (m + 200):=by
 have hN:f.rows.length≤200:=aan hl (by decide)
 have h0:0≤f.r0:=hq.1
 have h6:6≤f.r1:=hq.2.2.1
 have hgl:=ud (f:=f)
 obtain⟨D,hD⟩:∃D,D=need f (f.r0 + f.r1) [] (gIx 0 f.rows):=⟨_,rfl⟩
 obtain⟨n1,n2⟩:=oM (f:=f) (far:=f.r0 + f.r1) (by omega) (gs:=gIx 0 f.rows) (acc:=[]) List.Pairwise.nil
 rw[<- hD]at n1 n2
 have nm:∀x∈D,x∈gIx 0 f.rows:=fun x hx=>(n2 x hx).resolve_left aak
 obtain⟨g,e19,g0,hg,I0,I,W⟩:=wG (n:=n) (f:=f) hN
 have hu:g.us.map (·.1)=gIx 0 f.rows:=by
  have h1:=I.ix
  have h2:g.wt=[]:=by rw[hg];exact lr
  rw[h2,aaG,aaq,abS]at h1
  exact h1
 have hle:D.length≤(g.gaps.zip g.words).length:=by
  obtain⟨cs,L⟩:=wL h0 h6 W
  obtain⟨cs',L'⟩:=L.lays h0
  rw[<- hg]at L'
  have:=L'.least D (fun a ha=>by rw[hu];exact nm a ha) n1
  rw[List.length_zip,L'.wl,Nat.min_self]
  exact this
 have hDl:D.length≤200:=by
  have:=I.gl
  rw[List.length_zip]at hle
  omega
 have e30:=qj (n:=n + 2) (f:=f) (far:=f.r0 + f.r1) hN
 have e9:=ue (n:=n + 2) (f:=f) hN
 rw[<- hD]at e30 e9
 have e32:=ug (n:=n + 4) (xs:=D) (by omega)
 have hsub:∀ys,ys.Sublist D->pl.pg.call (n + 6) 10 [Rl f.rows,Lo f,Re f,Dl ys]=some (.fz (.bool true),[Rl f.rows,Lo f,Re f,Dl ys]):=fun ys hs=>wQ (n:=n + 2) hN (by have:=hs.length_le;omega) (fun a ha=>nm a (hs.subset ha)) (n1.sublist hs)
 obtain⟨ys,a1,b1,c1,o1,ep,hs,t1⟩:=fX (n:=n + 5) (D:=D) (out:=[]) (a:=a) (o:=none) h (by omega)
 rw[aaP]at ep
 have ed:=hsub D (abU D)
 have ey:=hsub ys hs
 clear hsub n1 n2 nm hD e32
 have e32:(pl.pg.ct (n + 6)).call 32 ([PyData.list (D.map PyData.int),.list (D.map PyData.int)].map OD.fz)=some (.fz (.bool true),[Dl D,Dl D]):=ug (n:=n + 4) (xs:=D) (by omega)
 have ec:(pl.pg.ct (n + 6)).call=pl.pg.call (n + 6):=rfl
 rw[<- ec]at e30 e9 ed ey e19
 obtain⟨y5,i1,i2⟩:=Fd (sc:=sc) (k:=k) (t:=Tp a b c) (f:=f) (o6:=some (Re f)) (o7:=some (Il D)) (o8:=o8) (o9:=o9) hx
 have hsm:vF .smt [.tuple [.int f.r0,.int f.r1]]=some (.int (f.r0 + f.r1)):=by
  have z1:qm f.r0=true:=by unfold qm;rw[decide_eq_true (by have:=hq.1;omega),decide_eq_true (by have:=hq.2.1;omega)];rfl
  have z2:qm f.r1=true:=by unfold qm;rw[decide_eq_true (by omega),decide_eq_true (by have:=hq.2.2.2;omega)];rfl
  have e:vF .smt [.tuple [.int f.r0,.int f.r1]]=(gd (([f.r0,f.r1]:List Int).all qm=true/\([f.r0,f.r1]:List Int).length≤1000000)).bind fun _=>some (.int ([f.r0,f.r1]:List Int).sum):=rfl
  rw[e]
  refine bg ⟨by rw[abt,z1,abt,z2];rfl,by show 2≤1000000;decide⟩ ?_
  show some (PyData.int (f.r0 + (f.r1 + 0)))=_
  rw[Int.add_zero]
 have s1:cI (pl.pg.ct (n + 6)) (.set 7 (.call 30 (.cons (.nm 3) (.cons (.nm 4) (.cons (.blt .smt (.cons (.nm 6) .nil)) .nil))))) (iE sc k (Tp a b c) f x5 (some (Re f)) o7 o8 o9)=some (.nx,iE sc k (Tp a b c) f x5 (some (Re f)) (some (Il D)) o8 o9):=aj (ρ2:=iE sc k (Tp a b c) f x5 (some (Re f)) o7 o8 o9) (ab (rs:=[.val (Rl f.rows),.val (Lo f),.val (It (f.r0 + f.r1))]) (ρ1:=iE sc k (Tp a b c) f x5 (some (Re f)) o7 o8 o9) (ρ2:=iE sc k (Tp a b c) f x5 (some (Re f)) o7 o8 o9) (ρ3:=iE sc k (Tp a b c) f x5 (some (Re f)) o7 o8 o9) (aa rfl (aa rfl (aa (aJ rfl rfl hsm) af))) rfl e30 rfl) rfl rfl rfl
 have s2:cI (pl.pg.ct (n + 6)) (.set 8 (.call 9 (.cons (.ix (.nm 5) (.int 0)) (.cons (.ix (.nm 5) (.int 1)) (.cons (.nm 6) .nil))))) (iE sc k (Tp a b c) f x5 (some (Re f)) (some (Il D)) o8 o9)=some (.nx,iE sc k (Tp a b c) f (H1 f) (some (Re f)) (some (Il D)) (some (Il D)) o9):=aj (ρ2:=iE sc k (Tp a b c) f (H1 f) (some (Re f)) (some (Il D)) o8 o9) (ab (rs:=[.val (Rl f.rows),.val (Lo f),.val (Re f)]) (ρ1:=iE sc k (Tp a b c) f (H1 f) (some (Re f)) (some (Il D)) o8 o9) (ρ2:=iE sc k (Tp a b c) f (H1 f) (some (Re f)) (some (Il D)) o8 o9) (ρ3:=iE sc k (Tp a b c) f (H1 f) (some (Re f)) (some (Il D)) o8 o9) (aa (aO (x:=.rf 5) (ρ1:=iE sc k (Tp a b c) f x5 (some (Re f)) (some (Il D)) o8 o9) (by rcases hx with rfl | rfl<;>rfl) rfl rfl i1) (aa (aO (x:=.rf 5) (ρ1:=iE sc k (Tp a b c) f (.tup [Rl f.rows,y5]) (some (Re f)) (some (Il D)) o8 o9) rfl rfl rfl i2) (aa rfl af))) rfl e9 rfl) rfl rfl rfl
 have s3:aZ (pl.pg.ct (n + 6)) (.or (.not (.callS 32 (.cons (.nm 8) (.cons (.nm 7) .nil)))) (.cmp .ne (.nm 5) (.tup (.cons (.nm 3) (.cons (.nm 4) .nil))))) (iE sc k (Tp a b c) f (H1 f) (some (Re f)) (some (Il D)) (some (Il D)) o9)=some (false,iE sc k (Tp a b c) f (H1 f) (some (Re f)) (some (Il D)) (some (Il D)) o9):=bZ (bJ (k:=true) (oa (n9 (rs:=[.rf 8,.rf 7]) (ρ1:=iE sc k (Tp a b c) f (H1 f) (some (Re f)) (some (Il D)) (some (Il D)) o9) rfl (datL2 (aG D) (aG D)) e32 rfl))) (ax (av (dx:=Hd f.rows f.longs) (dy:=Hd f.rows f.longs) rfl rfl rfl rfl C8))
 have s4:cI (pl.pg.ct (n + 6)) (.set 9 (.comp 1 [2] (.seq (.nm 7)) (.nm 0) (.some Fc) (.nm 0))) (iE sc k (Tp a b c) f (H1 f) (some (Re f)) (some (Il D)) (some (Il D)) o9)=some (.nx,iE sc k (Tp a1 b1 c1) f (H1 f) (some (Re f)) (some (Dl D)) (some (Il D)) (some (Il ys))):=aj (z:=Il ys) (ρ2:=iE sc k (Tp a1 b1 c1) f (H1 f) (some (Re f)) (some (Dl D)) (some (Il D)) o9) (bL (zc:=([some (Tp a b c)],[some sc,some k,none,some (Rl f.rows),some (Lo f),some (H1 f),some (Re f),some (Dl D),some (Il D),o9])) (ρ1:=iE sc k (Tp a b c) f (H1 f) (some (Re f)) (some (Dl D)) (some (Il D)) o9) (ρ2:=iE sc k (Tp a1 b1 c1) f (H1 f) (some (Re f)) (some (Dl D)) (some (Il D)) o9) (cO (d:=.list (D.map PyData.int)) (x:=.rf 7) (ρ1:=iE sc k (Tp a b c) f (H1 f) (some (Re f)) (some (Il D)) (some (Il D)) o9) rfl (dH rfl (aG D) rfl) rfl) (by rw[aaa];omega) rfl ep rfl) (by rw[gw];rfl) rfl rfl
 have s5:aZ (pl.pg.ct (n + 6)) (.or (.not (.call 10 (.cons (.nm 3) (.cons (.nm 4) (.cons (.nm 6) (.cons (.nm 7) .nil)))))) (.not (.call 10 (.cons (.nm 3) (.cons (.nm 4) (.cons (.nm 6) (.cons (.nm 9) .nil))))))) (iE sc k (Tp a1 b1 c1) f (H1 f) (some (Re f)) (some (Dl D)) (some (Il D)) (some (Il ys)))=some (false,iE sc k (Tp a1 b1 c1) f (H1 f) (some (Re f)) (some (Dl D)) (some (Il D)) (some (Dl ys))):=by
  refine bZ (bJ (k:=true) (aY (ab (rs:=[.val (Rl f.rows),.val (Lo f),.val (Re f),.val (Dl D)]) (ρ1:=iE sc k (Tp a1 b1 c1) f (H1 f) (some (Re f)) (some (Dl D)) (some (Il D)) (some (Il ys))) (ρ2:=iE sc k (Tp a1 b1 c1) f (H1 f) (some (Re f)) (some (Dl D)) (some (Il D)) (some (Il ys))) (ρ3:=iE sc k (Tp a1 b1 c1) f (H1 f) (some (Re f)) (some (Dl D)) (some (Il D)) (some (Il ys))) rfl rfl ed rfl))) (bJ (k:=true) (aY (ab (rs:=[.val (Rl f.rows),.val (Lo f),.val (Re f),.rf 9]) (ρ1:=iE sc k (Tp a1 b1 c1) f (H1 f) (some (Re f)) (some (Dl D)) (some (Il D)) (some (Il ys))) (ρ2:=iE sc k (Tp a1 b1 c1) f (H1 f) (some (Re f)) (some (Dl D)) (some (Il D)) (some (Dl ys))) rfl ?_ ey rfl)))
  have z:frz1 (iE sc k (Tp a1 b1 c1) f (H1 f) (some (Re f)) (some (Dl D)) (some (Il D)) (some (Il ys))) (.rf 9)=some (.list (ys.map PyData.int),iE sc k (Tp a1 b1 c1) f (H1 f) (some (Re f)) (some (Dl D)) (some (Il D)) (some (Dl ys))):=dH rfl (aG _) rfl
  show bc [false,false,false,false] _ [.val (Rl f.rows),.val (Lo f),.val (Re f),.rf 9]=_
  simp only[frz1]at z
  simp only[bc,frz1,OD.dat,ab3]
  rw[z]
 have s6:aZ (pl.pg.ct (n + 6)) (.cmp .lt (.blt .len (.cons (.ix (.call 19 (.cons (.nm 3) (.cons (.nm 4) (.cons (.nm 6) .nil)))) (.int 0)) .nil)) (.blt .len (.cons (.nm 7) .nil))) (iE sc k (Tp a1 b1 c1) f (H1 f) (some (Re f)) (some (Dl D)) (some (Il D)) (some (Dl ys)))=some (false,iE sc k (Tp a1 b1 c1) f (H1 f) (some (Re f)) (some (Dl D)) (some (Il D)) (some (Dl ys))):=ax (av (dx:=.int (g.gaps.zip g.words).length) (dy:=.int D.length) (aJ (ds:=[.list ((g.gaps.zip g.words).map Po)]) (aa (aO (z:=Pq (g.gaps.zip g.words)) (ab (rs:=[.val (Rl f.rows),.val (Lo f),.val (Re f)]) (ρ1:=iE sc k (Tp a1 b1 c1) f (H1 f) (some (Re f)) (some (Dl D)) (some (Il D)) (some (Dl ys))) (ρ2:=iE sc k (Tp a1 b1 c1) f (H1 f) (some (Re f)) (some (Dl D)) (some (Il D)) (some (Dl ys))) (ρ3:=iE sc k (Tp a1 b1 c1) f (H1 f) (some (Re f)) (some (Dl D)) (some (Il D)) (some (Dl ys))) rfl rfl e19 rfl) rfl rfl rfl) af) rfl blen) (aJ rfl rfl blen) rfl rfl (show some (decide (((g.gaps.zip g.words).length:Int) < (D.length:Int)))=some false by rw[decide_eq_false (by omega)]))
 have s7:cI (pl.pg.ct (n + 6)) (.app 8 (.int 0)) (iE sc k (Tp a1 b1 c1) f (H1 f) (some (Re f)) (some (Dl D)) (some (Il D)) (some (Dl ys)))=some (.nx,iE sc k (Tp a1 b1 c1) f (H1 f) (some (Re f)) (some (Dl D)) (some (.lst (D.map It++[It 0]))) (some (Dl ys))):=cb rfl rfl rfl rfl (by rw[aaa];omega) rfl
 have s8:aZ (pl.pg.ct (n + 6)) (.not (.callS 32 (.cons (.call 9 (.cons (.nm 3) (.cons (.nm 4) (.cons (.nm 6) .nil)))) (.cons (.nm 7) .nil)))) (iE sc k (Tp a1 b1 c1) f (H1 f) (some (Re f)) (some (Dl D)) (some (.lst (D.map It++[It 0]))) (some (Dl ys)))=some (false,iE sc k (Tp a1 b1 c1) f (H1 f) (some (Re f)) (some (Dl D)) (some (.lst (D.map It++[It 0]))) (some (Dl ys))):=bJ (k:=true) (oa (n9 (rs:=[.val (Il D),.val (Dl D)]) (ρ1:=iE sc k (Tp a1 b1 c1) f (H1 f) (some (Re f)) (some (Dl D)) (some (.lst (D.map It++[It 0]))) (some (Dl ys))) (aa (ab (rs:=[.val (Rl f.rows),.val (Lo f),.val (Re f)]) (ρ1:=iE sc k (Tp a1 b1 c1) f (H1 f) (some (Re f)) (some (Dl D)) (some (.lst (D.map It++[It 0]))) (some (Dl ys))) (ρ2:=iE sc k (Tp a1 b1 c1) f (H1 f) (some (Re f)) (some (Dl D)) (some (.lst (D.map It++[It 0]))) (some (Dl ys))) (ρ3:=iE sc k (Tp a1 b1 c1) f (H1 f) (some (Re f)) (some (Dl D)) (some (.lst (D.map It++[It 0]))) (some (Dl ys))) rfl rfl e9 rfl) rfl) (datL2 (aG D) rfl) e32 rfl))
 refine⟨_,bs (x:=iE sc k (Tp a b c) f x5 (some (Re f)) o7 o8 o9) rfl (ae s1 (ae s2 (ae (aB s3 rfl) (ae s4 (ae (aB s5 rfl) (ae (aB s6 rfl) (ae s7 (ae (aB s8 rfl) rfl)))))))),a1,b1,c1,_,_,_,_,rfl,t1.up (by omega)⟩
abbrev jE(sc k t:OD)(rs:List R)(ls:List Int)(x5:OD)(o6 o7 o8 o9:Option OD):DEnv:=[some sc,some k,some t,some (Rl rs),some (.fz (.list (ls.map PyData.int))),some x5,o6,o7,o8,o9]
abbrev G0(rs:List R)(ls:List Int):OD:=.tup [Rs rs,Il ls]
abbrev G1(rs:List R)(ls:List Int):OD:=.tup [Rl rs,.fz (.list (ls.map PyData.int))]
theorem lA{n:Nat}{sc k:OD}{rs:List R}{ls:List Int}(hl:rs.length≤120):∀{qs:List (Int × Int)} {m:Nat} {a b c:Int} {x5:OD} {o6 o7 o8 o9:Option OD},(∀q∈qs,Ro q)->TpOk b c m->m + 200 * qs.length≤50000->(x5=G0 rs ls\/x5=G1 rs ls)->∃ρ',bj (fun d ρ'=>(bb (.nm 6) (.fz d) ρ').bind fun ρ1=>aN (pl.pg.ct (n + 6)) xN ρ1) (qs.map fun q=>.tuple [.int q.1,.int q.2]) (jE sc k (Tp a b c) rs ls x5 o6 o7 o8 o9)=some (.nx,ρ')/\∃a' b' c' p3 p4 p5 p6 p7 p8 p9,ρ'=[some sc,some k,some (Tp a' b' c'),p3,p4,p5,p6,p7,p8,p9]/\TpOk b' c' (m + 200 * qs.length)
 | [],m,a,b,c,x5,o6,o7,o8,o9,_,h,_,_=>⟨_,rfl,a,b,c,_,_,_,_,_,_,_,rfl,h⟩
 | q::qs,m,a,b,c,x5,o6,o7,o8,o9,hq,h,hm,hx=>by
  rw[aap]at hm ⊢
  obtain⟨ρ1,e1,a1,b1,c1,p6,p7,p8,p9,rfl,t1⟩:=Ap (n:=n) (sc:=sc) (k:=k) (a:=a) (f:=⟨rs,ls,q.1,q.2⟩) (x5:=x5) (o6:=o6) (o7:=o7) (o8:=o8) (o9:=o9) (hq q aaj) h (by omega) hl hx
  obtain⟨ρ2,e2,a2,b2,c2,q3,q4,q5,q6,q7,q8,q9,rfl,t2⟩:=lA (n:=n) (sc:=sc) (k:=k) hl (qs:=qs) (a:=a1) (x5:=G1 rs ls) (o6:=p6) (o7:=p7) (o8:=p8) (o9:=p9) (fun x hx=>hq x (aag _ hx)) t1 (by omega) (.inr rfl)
  exact⟨_,bs e1 e2,a2,b2,c2,_,_,_,_,_,_,_,rfl,t2.up (by omega)⟩
theorem oQ{C:Ct}{e:E}{ρ ρ1:DEnv}{x:OR}{ds:List PyData}(h1:ev C e ρ=some (x,ρ1))(h2:(dn ρ1 x).bind seqOf=some ds):ev C (.bnw .list e) ρ=some (.val (.lst (ds.map OD.fz)),ρ1):=bs h1 (bs h2 rfl)
theorem lB{n m:Nat}{sc k:OD}{a b c:Int}{o3 o4 o5 o6 o7 o8 o9:Option OD}{rs:List R}(h:TpOk b c m)(hm:m≤40000)(hl:rs.length≤120) :
  ∃ρ',((bb (.nm 3) (.fz (.list (rs.map R.d))) [some sc,some k,some (Tp a b c),o3,o4,o5,o6,o7,o8,o9]).bind fun ρ1=>aN (pl.pg.ct (n + 6)) xM ρ1)=some (.nx,ρ')/\∃a' b' c' p3 p4 p5 p6 p7 p8 p9,ρ'=[some sc,some k,some (Tp a' b' c'),p3,p4,p5,p6,p7,p8,p9]/\TpOk b' c' (m + 2000):=by
 obtain⟨ls,a1,b1,c1,e1,t1⟩:=wx (n:=n + 4) (a:=a) (rs:=rs) (aan hl (by decide)) h (by omega)
 obtain⟨r0,r1,a2,b2,c2,e2,t2,r61,r62,r01,r02⟩:=wu (n:=n + 4) (a:=a1) t1 (by omega)
 obtain⟨qs,a3,b3,c3,e3,hq,hql,t3⟩:=Ao (n:=n + 2) (f:=⟨rs,ls,r0,r1⟩) (a:=a2) (aan hl (by decide)) t2 (by omega)
 have ec:(pl.pg.ct (n + 6)).call=pl.pg.call (n + 6):=rfl
 rw[<- ec]at e1 e2 e3
 obtain⟨ρ4,e4,a4,b4,c4,q3,q4,q5,q6,q7,q8,q9,rfl,t4⟩:=lA (n:=n) (sc:=sc) (k:=k) (rs:=rs) (ls:=ls) hl (qs:=(r0,r1)::qs) (a:=a3) (x5:=G0 rs ls) (o6:=o6) (o7:=o7) (o8:=o8) (o9:=o9) (fun q hx=>by
  rcases aac.mp hx with rfl | hx
  ·exact⟨r01,r02,r61,r62⟩
  ·exact hq q hx) t3 (by rw[aap];omega) (.inl rfl)
 have s1:cI (pl.pg.ct (n + 6)) (.set 4 (.call 25 (.cons (.nm 2) (.cons (.nm 3) .nil)))) [some sc,some k,some (Tp a b c),some (Rl rs),o4,o5,o6,o7,o8,o9]=some (.nx,[some sc,some k,some (Tp a1 b1 c1),some (Rl rs),some (Il ls),o5,o6,o7,o8,o9]):=aj (ρ2:=[some sc,some k,some (Tp a1 b1 c1),some (Rl rs),o4,o5,o6,o7,o8,o9]) (ab (ρ3:=[some sc,some k,some (Tp a1 b1 c1),some (Rl rs),o4,o5,o6,o7,o8,o9]) rfl rfl e1 rfl) rfl rfl rfl
 have l1:ev (pl.pg.ct (n + 6)) (.bnw .list (.nm 3)) [some sc,some k,some (Tp a1 b1 c1),some (Rl rs),some (Il ls),o5,o6,o7,o8,o9]=some (.val (Rs rs),[some sc,some k,some (Tp a1 b1 c1),some (Rl rs),some (Il ls),o5,o6,o7,o8,o9]):=by
  have:=oQ (C:=pl.pg.ct (n + 6)) (e:=.nm 3) (ρ:=[some sc,some k,some (Tp a1 b1 c1),some (Rl rs),some (Il ls),o5,o6,o7,o8,o9]) (ρ1:=[some sc,some k,some (Tp a1 b1 c1),some (Rl rs),some (Il ls),o5,o6,o7,o8,o9]) (x:=.val (Rl rs)) (ds:=rs.map R.d) rfl rfl
  rw[oy]at this
  exact this
 have l2:ev (pl.pg.ct (n + 6)) (.bnw .list (.nm 4)) [some sc,some k,some (Tp a1 b1 c1),some (Rl rs),some (Il ls),o5,o6,o7,o8,o9]=some (.val (Il ls),[some sc,some k,some (Tp a1 b1 c1),some (Rl rs),some (Il ls),o5,o6,o7,o8,o9]):=by
  have:=oQ (C:=pl.pg.ct (n + 6)) (e:=.nm 4) (ρ:=[some sc,some k,some (Tp a1 b1 c1),some (Rl rs),some (Il ls),o5,o6,o7,o8,o9]) (ρ1:=[some sc,some k,some (Tp a1 b1 c1),some (Rl rs),some (Il ls),o5,o6,o7,o8,o9]) (x:=.rf 4) (ds:=ls.map PyData.int) rfl (by have z:listOf (Il ls)=some (ls.map PyData.int):=by { show qk (ls.map It)=_;rw[<- gw];exact eI _ };show seqOf (Il ls)=_;unfold seqOf;rw[z])
  rw[gw]at this
  exact this
 have s2:cI (pl.pg.ct (n + 6)) (.set 5 (.tup (.cons (.bnw .list (.nm 3)) (.cons (.bnw .list (.nm 4)) .nil)))) [some sc,some k,some (Tp a1 b1 c1),some (Rl rs),some (Il ls),o5,o6,o7,o8,o9]=some (.nx,[some sc,some k,some (Tp a1 b1 c1),some (Rl rs),some (Il ls),some (G0 rs ls),o6,o7,o8,o9]):=aj (z:=G0 rs ls) (ρ2:=[some sc,some k,some (Tp a1 b1 c1),some (Rl rs),some (Il ls),o5,o6,o7,o8,o9]) (dB (zs:=[Rs rs,Il ls]) (aa l1 (aa l2 af)) rfl rfl rfl) rfl rfl rfl
 have hn:ev (pl.pg.ct (n + 6)) (.call 33 (.cons (.nm 2) (.cons (.nm 3) (.cons (.nm 4) .nil)))) [some sc,some k,some (Tp a2 b2 c2),some (Rl rs),some (Il ls),some (G0 rs ls),o6,o7,o8,o9]=some (.val (.lst (qs.map fun q=>.fz (.tuple [.int q.1,.int q.2]))),jE sc k (Tp a3 b3 c3) rs ls (G0 rs ls) o6 o7 o8 o9):=by
  refine ab (rs:=[.rf 2,.val (Rl rs),.rf 4]) (ρ1:=[some sc,some k,some (Tp a2 b2 c2),some (Rl rs),some (Il ls),some (G0 rs ls),o6,o7,o8,o9]) (ρ2:=[some sc,some k,none,some (Rl rs),some (.fz (.list (ls.map PyData.int))),some (G0 rs ls),o6,o7,o8,o9]) rfl ?_ e3 rfl
  have z:frz1 [some sc,some k,none,some (Rl rs),some (Il ls),some (G0 rs ls),o6,o7,o8,o9] (.rf 4)=some (.list (ls.map PyData.int),[some sc,some k,none,some (Rl rs),some (.fz (.list (ls.map PyData.int))),some (G0 rs ls),o6,o7,o8,o9]):=dH rfl (aG _) rfl
  show bc [true,false,false] _ [.rf 2,.val (Rl rs),.rf 4]=_
  have zm:mv1 [some sc,some k,some (Tp a2 b2 c2),some (Rl rs),some (Il ls),some (G0 rs ls),o6,o7,o8,o9] (.rf 2)=some (Tp a2 b2 c2,[some sc,some k,none,some (Rl rs),some (Il ls),some (G0 rs ls),o6,o7,o8,o9]):=rfl
  simp only[frz1]at z
  simp only[bc,zm,frz1,OD.dat,ab3]
  rw[z]
 have hi:lC (pl.pg.ct (n + 6)) (.seq (.cat (.lst (.cons (.call 26 (.cons (.nm 2) .nil)) .nil)) (.call 33 (.cons (.nm 2) (.cons (.nm 3) (.cons (.nm 4) .nil)))))) [some sc,some k,some (Tp a1 b1 c1),some (Rl rs),some (Il ls),some (G0 rs ls),o6,o7,o8,o9]=some (((r0,r1)::qs).map fun q=>.tuple [.int q.1,.int q.2],jE sc k (Tp a3 b3 c3) rs ls (G0 rs ls) o6 o7 o8 o9):=by
  refine cO (d:=.list (((r0,r1)::qs).map fun q=>.tuple [.int q.1,.int q.2])) (ρ2:=jE sc k (Tp a3 b3 c3) rs ls (G0 rs ls) o6 o7 o8 o9) (xx (dx:=[.tuple [.int r0,.int r1]]) (dy:=qs.map fun q=>.tuple [.int q.1,.int q.2]) (fg (aa (ab (ρ3:=[some sc,some k,some (Tp a2 b2 c2),some (Rl rs),some (Il ls),some (G0 rs ls),o6,o7,o8,o9]) rfl rfl e2 rfl) af) rfl rfl) hn rfl ?_ (by rw[aaE,aaa];omega)) ?_ rfl
  ·show qk (qs.map fun q=>OD.fz (.tuple [.int q.1,.int q.2]))=_
   have:(qs.map fun q=>OD.fz (.tuple [.int q.1,.int q.2]))=(qs.map fun q=>PyData.tuple [.int q.1,.int q.2]).map OD.fz:=by rw[aa3];rfl
   rw[this];exact eI _
  ·show ((OD.lst (([PyData.tuple [.int r0,.int r1]]++qs.map fun q=>PyData.tuple [.int q.1,.int q.2]).map OD.fz)).dat).map _=_
   rw[cS];rfl
 exact⟨_,bs (x:=[some sc,some k,some (Tp a b c),some (Rl rs),o4,o5,o6,o7,o8,o9]) rfl (ae s1 (ae s2 (ae (cW hi e4) rfl))),a4,b4,c4,_,_,_,_,_,_,_,rfl,t4.up (by rw[aap];omega)⟩
theorem pure(ns:List Int)(hns:ns.length≤63):∃ys,pl.pg.call 7 CV [.fz (.list (ns.map PyData.int))]=some (.fz (.bool true),ys):=by
 have step:∀(i:Nat) (o2 o3 o4 o5 o6 o7 o8 o9:Option OD) (o1:Option OD),i≤8->∃ρ',((bb (.nm 1) (.fz (.int i)) [some (.fz (.list (ns.map PyData.int))),o1,o2,o3,o4,o5,o6,o7,o8,o9]).bind fun ρ1=>aN (pl.pg.ct 6) (match F_law.body with | .cons (.fr _ _ b) _=>b | _=>.nil) ρ1)=some (.nx,ρ')/\∃p1 p2 p3 p4 p5 p6 p7 p8 p9,ρ'=[some (.fz (.list (ns.map PyData.int))),p1,p2,p3,p4,p5,p6,p7,p8,p9]:=by
  intro i o2 o3 o4 o5 o6 o7 o8 o9 o1 hi
  obtain⟨a,b,et,t⟩:=z7 (n:=4) (ns:=ns) hi
  obtain⟨rs,a1,b1,c1,e1,hl1,t1⟩:=z8 (n:=3) (a:=a) t (aaM _)
  obtain⟨rs2,a2,b2,c2,e2,hl2,hc2,t2⟩:=tN (n:=3) (a:=a1) t1 (by decide)
  obtain⟨ρ3,f1,a3,b3,c3,q3,q4,q5,q6,q7,q8,q9,rfl,t3⟩:=lB (n:=0) (sc:=.fz (.list (ns.map PyData.int))) (k:=It i) (a:=a2) (o3:=o3) (o4:=o4) (o5:=o5) (o6:=o6) (o7:=o7) (o8:=o8) (o9:=o9) (rs:=rs) t2 (by decide) (aan hl1 (by decide))
  obtain⟨ρ4,f2,a4,b4,c4,p3,p4,p5,p6,p7,p8,p9,rfl,t4⟩:=lB (n:=0) (sc:=.fz (.list (ns.map PyData.int))) (k:=It i) (a:=a3) (o3:=q3) (o4:=q4) (o5:=q5) (o6:=q6) (o7:=q7) (o8:=q8) (o9:=q9) (rs:=rs2) t3 (by decide) hl2
  refine⟨_,bs (x:=[some (.fz (.list (ns.map PyData.int))),some (It i),o2,o3,o4,o5,o6,o7,o8,o9]) rfl ?_,some (It i),some (Tp a4 b4 c4),p3,p4,p5,p6,p7,p8,p9,rfl⟩
  refine ae (aj (ρ3:=[some (.fz (.list (ns.map PyData.int))),some (It i),some (Tp a b 0),o3,o4,o5,o6,o7,o8,o9]) (ab (ρ3:=[some (.fz (.list (ns.map PyData.int))),some (It i),o2,o3,o4,o5,o6,o7,o8,o9]) rfl rfl et rfl) rfl rfl rfl) ?_
  have hw:lC (pl.pg.ct 6) (.seq (.tup (.cons (.call 24 (.cons (.nm 2) .nil)) (.cons (.call 31 (.cons (.nm 2) .nil)) .nil)))) [some (.fz (.list (ns.map PyData.int))),some (It i),some (Tp a b 0),o3,o4,o5,o6,o7,o8,o9]=some ([.list (rs.map R.d),.list (rs2.map R.d)],[some (.fz (.list (ns.map PyData.int))),some (It i),some (Tp a2 b2 c2),o3,o4,o5,o6,o7,o8,o9]):=by
   refine cO (d:=.tuple [.list (rs.map R.d),.list (rs2.map R.d)]) (dB (zs:=[Rs rs,Rs rs2]) (z:=mkTup [Rs rs,Rs rs2]) (aa (ab (ρ3:=[some (.fz (.list (ns.map PyData.int))),some (It i),some (Tp a1 b1 c1),o3,o4,o5,o6,o7,o8,o9]) rfl rfl e1 rfl) (aa (ab (ρ3:=[some (.fz (.list (ns.map PyData.int))),some (It i),some (Tp a2 b2 c2),o3,o4,o5,o6,o7,o8,o9]) rfl rfl e2 rfl) af)) rfl rfl rfl) ?_ rfl
   show ((OD.tup [Rs rs,Rs rs2]).dat).map _=_
   rw[OD.dat,OD.dats,mQ,OD.dats,mQ];rfl
  exact ae (cW hw (bs f1 (bs f2 rfl))) rfl
 have walk:∀(m i:Nat) (o1 o2 o3 o4 o5 o6 o7 o8 o9:Option OD),i + m≤9->∃ρ',bj (fun d ρ'=>(bb (.nm 1) (.fz d) ρ').bind fun ρ1=>aN (pl.pg.ct 6) (match F_law.body with | .cons (.fr _ _ b) _=>b | _=>.nil) ρ1) (bU i m) [some (.fz (.list (ns.map PyData.int))),o1,o2,o3,o4,o5,o6,o7,o8,o9]=some (.nx,ρ')/\ρ'[0]?.join=some (.fz (.list (ns.map PyData.int))):=by
  intro m
  induction m with
  | zero=>intro i o1 o2 o3 o4 o5 o6 o7 o8 o9 _;exact⟨_,rfl,rfl⟩
  | succ m ih =>
   intro i o1 o2 o3 o4 o5 o6 o7 o8 o9 h
   obtain⟨ρ1,e1,p1,p2,p3,p4,p5,p6,p7,p8,p9,rfl⟩:=step i o2 o3 o4 o5 o6 o7 o8 o9 o1 (by omega)
   obtain⟨ρ2,e2,h2⟩:=ih (i + 1) p1 p2 p3 p4 p5 p6 p7 p8 p9 (by omega)
   refine⟨ρ2,?_,h2⟩
   rw[bu]
   exact bs e1 e2
 obtain⟨mn,hmn⟩:∃mn:Int,mn=if (ns.length:Int) < 8 then (ns.length:Int) else 8:=⟨_,rfl⟩
 have hb:0≤mn/\mn≤8:=by rw[hmn];split<;>omega
 obtain⟨ρ',e,_⟩:=walk (1 + mn).toNat 0 none none none none none none none none none (by omega)
 have hlen:ev (pl.pg.ct 6) (.blt .min (.cons (.int 8) (.cons (.blt .len (.cons (.nm 0) .nil)) .nil))) [some (.fz (.list (ns.map PyData.int))),none,none,none,none,none,none,none,none,none]=some (.val (It mn),[some (.fz (.list (ns.map PyData.int))),none,none,none,none,none,none,none,none,none]):=aJ (aa rfl (aa (aJ rfl rfl blen) af)) rfl (by rw[hmn];rfl)
 exact⟨_,ag (fn:=F_law) rfl rfl (ae (cW (dD (n:=1 + mn) (ah rfl hlen rfl rfl rfl) rfl (by omega)) e) (az rfl)) rfl⟩
set_option maxHeartbeats 0
def lm:Str:="law_nearpool_k20_rows_that_need_pools"
open PySem.W in
def vi(n:Int):Value:=.int n 0
def vr(a:Addr):Value:=.ref a
def vs(x:Str)(t:Nat):Value:=.str x t
def nt(P:Params)(k:Str)(t:Nat)(v:Value):DictEntry:=⟨PyData.keyHash P k,.str k t,v⟩
def fo(d:Df)(m:Str)(t c:Nat):Obj:=⟨.type "function",none,.func (PySem.W.fnOf d.name d.qual (dN d.st) (bO d.st) (aH d.st) .none .none .none (.str m t) none (.ref c) .none),List.toArray []⟩
def cq(vs:List Value):Obj:=⟨.type "code",none,.fields (List.toArray vs),List.toArray []⟩
def cu(n q:Str)(t l a r T:Nat):Obj:=cq [vs n t,vs q (t+1),vs "/claim/cut.py" (t+2),vi l,vi a,vi 0,vi 0,vi 3,vr r,.bool true,vi 181,vr (r+1),.none,vr (r+2),vr (r+3),vr (r+4),vi T,vi l,vs "/claim/cut.py" (T+1)]
def cw(n q:Str)(t l a r T:Nat):Obj:=cq [vs n t,vs q (t+1),vs "/claim/cut.py" (t+2),vi l,vi a,vi 0,vi 0,vi 3,vr r,.bool true,vi 181,vr (r+1),.none,.none,.none,vr (r+2),vi T,vi l,vs "/claim/cut.py" (T+1)]
def KK(P:Params):WF:=[(3,⟨(.type "dict"),none,(.dict (List.toArray [nt P "__name__" 165 (vs lm 402),nt P "__doc__" 166 .none,nt P "__package__" 167 .none,nt P "__loader__" 168 (.builtin "__main__.__loader__#opaque"),nt P "__spec__" 169 .none,nt P "__annotations__" 170 (vr 6),nt P "__builtins__" 171 (vr 4),nt P "__file__" 173 (vs "/claim/cut.py" 172),nt P "__cached__" 174 .none,nt P "GREATEST_SMALL" 190 (.int (99) 189),nt P "is_number_below" 198 (vr 21),nt P "is_great" 205 (vr 28),nt P "greats_of" 211 (vr 33),nt P "falls" 218 (vr 40),nt P "OVER_CELLS" 222 (.int (2) 221),nt P "WORD_CELLS" 224 (.int (2) 223),nt P "size_of" 233 (vr 47),nt P "has_over" 241 (vr 54),nt P "first_word" 250 (vr 61),nt P "placed" 256 (vr 66),nt P "are_apart" 268 (vr 73),nt P "needed_rows" 282 (vr 80),nt P "shows_needed" 288 (vr 85),nt P "Going" 390 (vr 149),nt P "pools_for" 401 (vr 160),nt P "_law_cell_at" 411 (vr 167),nt P "_law_tape" 420 (vr 174),nt P "_law_take" 430 (vr 181),nt P "_law_great" 439 (vr 188),nt P "_law_rows" 456 (vr 195),nt P "_law_longs" 462 (vr 200),nt P "_law_reach" 471 (vr 207),nt P "_law_is_great" 478 (vr 214),nt P "_law_size" 487 (vr 221),nt P "_law_placed" 502 (vr 228),nt P "_law_needed" 515 (vr 235),nt P "_law_sparse" 521 (vr 240),nt P "_law_same" 527 (vr 245),nt P "_law_near" 533 (vr 250),nt P "law" 539 (vr 255)]) 40),List.toArray []⟩),
 (20,cu "is_number_below" "is_number_below" 191 3 2 15 196),
 (21,fo cj "nearpool.rows" 187 20),
 (27,cu "is_great" "is_great" 199 7 1 22 203),
 (28,fo iu "nearpool.rows" 187 27),
 (32,cw "greats_of" "greats_of" 206 9 1 29 209),
 (33,fo gn "nearpool.rows" 187 32),
 (39,cu "falls" "falls" 212 11 1 34 216),
 (40,fo oo "nearpool.rows" 187 39),
 (46,cu "size_of" "size_of" 225 16 3 41 231),
 (47,fo i4 "nearpool.places" 219 46),
 (53,cu "has_over" "has_over" 234 18 2 48 239),
 (54,fo iw "nearpool.places" 219 53),
 (60,cu "first_word" "first_word" 242 20 3 55 248),
 (61,fo fq "nearpool.places" 219 60),
 (65,cw "placed" "placed" 251 24 3 62 254),
 (66,fo k4 "nearpool.places" 219 65),
 (72,cu "are_apart" "are_apart" 259 38 4 67 266),
 (73,fo gp "nearpool.needed" 257 72),
 (79,cu "needed_rows" "needed_rows" 269 40 3 74 280),
 (80,fo eC "nearpool.needed" 257 79),
 (84,cw "shows_needed" "shows_needed" 283 47 4 81 286),
 (85,fo dF "nearpool.needed" 257 84),
 (98,cu "__init__" "Going.__init__" 303 58 4 93 310),
 (99,fo cG "nearpool.pooling" 289 98),
 (105,cu "is_due" "Going.is_due" 313 69 2 100 321),
 (106,fo dG "nearpool.pooling" 289 105),
 (112,cu "lay" "Going.lay" 324 78 2 107 332),
 (113,fo gq "nearpool.pooling" 289 112),
 (119,cu "finds" "Going.finds" 335 90 2 114 340),
 (120,fo eD "nearpool.pooling" 289 119),
 (126,cu "may_put" "Going.may_put" 343 95 2 121 348),
 (127,fo cX "nearpool.pooling" 289 126),
 (133,cu "come" "Going.come" 351 100 2 128 357),
 (134,fo ft "nearpool.pooling" 289 133),
 (140,cu "cross" "Going.cross" 360 110 2 135 365),
 (141,fo eE "nearpool.pooling" 289 140),
 (145,cw "plan" "Going.plan" 368 118 1 142 371),
 (146,fo fu "nearpool.pooling" 289 145),
 (148,⟨(.type "dict"),none,(.dict (List.toArray [nt P "__module__" 298 (vs "nearpool.pooling" 289),nt P "__firstlineno__" 302 (.int (56) 301),nt P "__init__" 312 (vr 99),nt P "is_due" 323 (vr 106),nt P "lay" 334 (vr 113),nt P "finds" 342 (vr 120),nt P "may_put" 350 (vr 127),nt P "come" 359 (vr 134),nt P "cross" 367 (vr 141),nt P "plan" 373 (vr 146),nt P "__static_attributes__" 383 (vr 147),nt P "__dict__" 385 (vr 150),nt P "__weakref__" 387 (vr 151),nt P "__doc__" 388 .none]) 4),List.toArray []⟩),
 (149,⟨(.type "type"),none,(.cls ⟨"Going",[(.type "object")],[(vr 149),(.type "object")],148,"Going",true,[],[],false,none,false⟩),List.toArray [none,none,(some (vs "Going" 291)),(some (vs "Going" 299)),(some (.builtin "object.__new__")),(some (.bool true))]⟩),
 (159,cu "pools_for" "pools_for" 391 121 3 154 399),
 (160,fo gu "nearpool.pooling" 289 159),
 (166,cu "_law_cell_at" "_law_cell_at" 404 127 2 161 409),
 (167,fo i5 lm 402 166),
 (173,cu "_law_tape" "_law_tape" 412 129 2 168 418),
 (174,fo tF lm 402 173),
 (180,cu "_law_take" "_law_take" 421 132 2 175 428),
 (181,fo tG lm 402 180),
 (187,cu "_law_great" "_law_great" 431 141 1 182 437),
 (188,fo oq lm 402 187),
 (194,cu "_law_rows" "_law_rows" 440 145 1 189 454),
 (195,fo tH lm 402 194),
 (199,cw "_law_longs" "_law_longs" 457 161 2 196 460),
 (200,fo ou lm 402 199),
 (206,cu "_law_reach" "_law_reach" 463 165 1 201 469),
 (207,fo ow lm 402 206),
 (213,cu "_law_is_great" "_law_is_great" 472 169 1 208 476),
 (214,fo fv lm 402 213),
 (220,cu "_law_size" "_law_size" 479 171 3 215 485),
 (221,fo tI lm 402 220),
 (227,cu "_law_placed" "_law_placed" 488 173 3 222 500),
 (228,fo iy lm 402 227),
 (234,cu "_law_needed" "_law_needed" 503 186 3 229 513),
 (235,fo k5 lm 402 234),
 (239,cw "_law_sparse" "_law_sparse" 516 192 1 236 519),
 (240,fo k6 lm 402 239),
 (244,cw "_law_same" "_law_same" 522 202 2 241 525),
 (245,fo tJ lm 402 244),
 (249,cw "_law_near" "_law_near" 528 214 3 246 531),
 (250,fo tK lm 402 249),
 (254,cw "law" "law" 534 223 1 251 537),
 (255,fo D_law lm 402 254)]
def qv:Program:=PySem.W.view PySem.Challenge.pw_nearpool_k20_rows_that_need_pools [1,2,3,4,5,7,8,9,10,11,12,14,15,16,18,19,21,22,23,24,25,26,27,28,29,30,31,32,33,34,35]
open PySem.W PyProof.Rows in
theorem wU{p q:Program}{loose:List Str}{Xt:Shared->Bool}{α:Type}{Yf:Shared->α}{Ya:World->α}{N:Nat}{g0:Bool}(e:opening p=plainProg p.main.scope.names)(hN:Nat.ble 600 N=true)(f:∀s,fenceModules? p s=some s)
  (h:∀(w:World) (os:OsState),(topFrom treeTable p w N ⟨boot_heap w.params,Array.mk [],boot_drawn,boot_toks,os⟩).map (fun s=>(openSeen q loose (importedModules p.main.body) Xt g0 s,Yf s))=some (openGood q loose,Ya w)):LeftO p q loose Xt Yf Ya N g0:=fun w=>by
 obtain⟨⟨hh,gs,d,k,os⟩,e1,e2⟩:=aaH.mp (boot_open e hN f w)
 obtain⟨rfl,rfl,rfl,rfl⟩:hh=boot_heap w.params/\gs=Array.mk []/\d=boot_drawn/\k=boot_toks:=by simpa using e2
 unfold openEnds
 rw[e1]
 exact h w os
def hk:PySem.W.Hook:=PySem.W.kHook KK [3,20,21,27,28,32,33,39,40,46,47,53,54,60,61,65,66,72,73,79,80,84,85,98,99,105,106,112,113,119,120,126,127,133,134,140,141,145,146,148,149,159,160,166,167,173,174,180,181,187,188,194,195,199,200,206,207,213,214,220,221,227,228,234,235,239,240,244,245,249,250,254,255] (fun _=>by kernel_rfl)
abbrev xt(s:Shared):Bool:=PySem.W.xlAt qv [] s && PySem.W.recOk (PySem.W.RowW.records (PySem.Challenge.rw_nearpool_k20_rows_that_need_pools).row.toRowW) s
theorem left:PySem.W.LeftO PySem.Challenge.pw_nearpool_k20_rows_that_need_pools qv [] xt (PySem.W.Hook.obs hk) (PySem.W.Hook.val hk) 2818:=wU (by kernel_rfl) (by rfl) (fun s=>by kernel_rfl) (fun w os=>by kernel_rfl)
def dd:DefRec:=⟨"law",dN D_law.st,bO D_law.st,aH D_law.st,match D_law.st with | .FunctionDef _ _ _ _ _ _ _ _ _ p=>p | _=>⟨0,0,0,0⟩⟩
theorem said:(PySem.Challenge.rw_nearpool_k20_rows_that_need_pools).wellSaid=true:=by kernel_rfl
def ui(K:WF):L2.Sp:=fun vs H Q _=>∃(a:Addr) (ns:List Int),vs=[.ref a]/\SqL K H a (ns.map V.int)/\ns.length≤63/\∀H',Q (.bl true) H'
def Du:Option (Option Value)->Bool
 | some none=>true
 | _=>false
def Av(f:Nat):Option (Option Value)->Bool
 | some (some (.ref g))=>g == f
 | _=>false
def Fe:Option (Option Value)->Bool
 | some (some (.builtin s))=>decide (s="object.__setattr__")
 | _=>false
theorem uj{o:Option (Option Value)}(h:Du o=true):o=some none:=by
 unfold Du at h;split at h
 ·rfl
 ·cases h
theorem j6{f:Nat}{o:Option (Option Value)}(h:Av f o=true):o=some (some (.ref f)):=by
 unfold Av at h;split at h
 ·rw[beq_iff_eq.mp h]
 ·cases h
theorem Aq{o:Option (Option Value)}(h:Fe o=true):o=some (some (.builtin "object.__setattr__")):=by
 unfold Fe at h;split at h
 ·rw[of_decide_eq_true h]
 ·cases h
open PySem.W in
def Fg(K:Frag)(C:Addr):Bool:=plainGet K C Str.empty && (hasDictIn K C && (plainOver K C && Fe (findIn K (.ref C) "__setattr__")))
theorem uk{K:WF}{C:Addr}(h:Fg K C=true):Cls K C:=by
 obtain⟨h1,h⟩:=an2 h;obtain⟨h2,h⟩:=an2 h;obtain⟨h3,h⟩:=an2 h
 exact⟨h1,h2,h3,Aq h⟩
open PySem.W in
def FX(K:Frag)(d:Df)(f c:Nat):Kd->Bool
 | .fn=>codeIn K (.ref c) d.qual && (keepIn K (.ref f) && Av f (nsIn K mainGlobals d.name))
 | .me x=>codeIn K (.ref c) d.qual && (keepIn K (.ref f) && (Fg K (am K x) && (Av f (findIn K (.ref (am K x)) d.name) && isFn K (.ref f))))
 | .ini x=>codeIn K (.ref c) d.qual && (keepIn K (.ref f) && (makesIn K (am K x) && (Av f (findIn K (.ref (am K x)) "__init__") && (isFn K (.ref f) && (keepIn K (.ref (am K x)) && Av (am K x) (nsIn K mainGlobals x))))))
theorem fk{K:WF}{h:Heap}{mg:Str->Option Value}(X:K.In h)(G:h.Ns mainGlobals mg){d:Df}{kd:Kd}(m:Str)(t c f:Nat)(l:K.lookup f=some (fo d m t c))(q:FX K d f c kd=true)
  (b:∀us:List Value,us.length=d.ps.length->bindArgs (PySem.W.fnOf d.name d.qual (dN d.st) (bO d.st) (aH d.st) .none .none .none (.str m t) none (.ref c) .none) ⟨us,[]⟩=Pure.pure (d.ps.zip us)):xw K mg (d,kd):=by
 cases kd with
 | fn =>
  obtain⟨h1,q⟩:=an2 q;obtain⟨h2,h3⟩:=an2 q
  exact⟨f,_,jn l h1 h2,.all b,abE X G (j6 h3),h2⟩
 | me x =>
  obtain⟨h1,q⟩:=an2 q;obtain⟨h2,q⟩:=an2 q;obtain⟨h3,q⟩:=an2 q;obtain⟨h4,h5⟩:=an2 q
  exact⟨f,_,jn l h1 h2,.all b,uk h3,j6 h4,h5,h2⟩
 | ini x =>
  obtain⟨h1,q⟩:=an2 q;obtain⟨h2,q⟩:=an2 q;obtain⟨h3,q⟩:=an2 q;obtain⟨h4,q⟩:=an2 q;obtain⟨h5,q⟩:=an2 q;obtain⟨h6,h7⟩:=an2 q
  exact⟨f,_,jn l h1 h2,.all b,⟨h3,j6 h4,h5,h6⟩,abE X G (j6 h7)⟩
theorem fm{α:Type}{P:α->Prop}{x:α}{l:List α}(h:P x)(k:∀y∈l,P y):∀y∈x::l,P y:=List.forall_mem_cons.mpr ⟨h,k⟩
theorem fC{K:WF}{h:Heap}{mg:Str->Option Value}(X:K.In h)(G:h.Ns mainGlobals mg){x:Str}{k:Int}(t:Nat)(e:PySem.W.nsIn K mainGlobals x=some (some (.int k t))):∃v u,mg x=some u/\RelV v u/\∀S H,Fz K S H v (.int k):=⟨.int k,_,abE X G e,⟨_,rfl⟩,fun _ _=>.int _⟩
theorem b1{α:Type}{P:List α->Prop}(h:∀a0,P [a0])(l:List α)(e:l.length=1):P l:=by
 match l,e with
 | [a0],_=>exact h a0
theorem b2{α:Type}{P:List α->Prop}(h:∀a0 a1,P [a0,a1])(l:List α)(e:l.length=2):P l:=by
 match l,e with
 | [a0,a1],_=>exact h a0 a1
theorem b3{α:Type}{P:List α->Prop}(h:∀a0 a1 a2,P [a0,a1,a2])(l:List α)(e:l.length=3):P l:=by
 match l,e with
 | [a0,a1,a2],_=>exact h a0 a1 a2
theorem b4{α:Type}{P:List α->Prop}(h:∀a0 a1 a2 a3,P [a0,a1,a2,a3])(l:List α)(e:l.length=4):P l:=by
 match l,e with
 | [a0,a1,a2,a3],_=>exact h a0 a1 a2 a3
theorem gives {w:World} {mg:Str->Option Value} {fa:Addr} {h:Heap} (X:(KK w.params).In h) (G:h.Ns mainGlobals mg) (hmg:mg "law"=some (.ref fa)) :
  ∃fd:FuncData,(∀(s:Shared) (v:Value),BindsTo s fd ⟨[v],[]⟩ [("_law_script",v)])/\∀base:Heap,(KK w.params).In base->base.Ns mainGlobals mg->FnOk (PySem.Challenge.rw_nearpool_k20_rows_that_need_pools).prog w (KK w.params) mg base CX0 8 fa fd ["_law_script"] (ui (KK w.params)):=by
 have M:Md (KK w.params) mg pl.tb pl.pg pl.D:=Pl.md CW (fm (fk X G "nearpool.rows" 187 20 21 (by kernel_rfl) (by kernel_rfl) (b2 fun _ _=>rfl))
  (fm (fk X G "nearpool.rows" 187 27 28 (by kernel_rfl) (by kernel_rfl) (b1 fun _=>rfl))
  (fm (fk X G "nearpool.rows" 187 32 33 (by kernel_rfl) (by kernel_rfl) (b1 fun _=>rfl))
  (fm (fk X G "nearpool.rows" 187 39 40 (by kernel_rfl) (by kernel_rfl) (b1 fun _=>rfl))
  (fm (fk X G "nearpool.places" 219 46 47 (by kernel_rfl) (by kernel_rfl) (b3 fun _ _ _=>rfl))
  (fm (fk X G "nearpool.places" 219 53 54 (by kernel_rfl) (by kernel_rfl) (b2 fun _ _=>rfl))
  (fm (fk X G "nearpool.places" 219 60 61 (by kernel_rfl) (by kernel_rfl) (b3 fun _ _ _=>rfl))
  (fm (fk X G "nearpool.places" 219 65 66 (by kernel_rfl) (by kernel_rfl) (b3 fun _ _ _=>rfl))
  (fm (fk X G "nearpool.needed" 257 72 73 (by kernel_rfl) (by kernel_rfl) (b4 fun _ _ _ _=>rfl))
  (fm (fk X G "nearpool.needed" 257 79 80 (by kernel_rfl) (by kernel_rfl) (b3 fun _ _ _=>rfl))
  (fm (fk X G "nearpool.needed" 257 84 85 (by kernel_rfl) (by kernel_rfl) (b4 fun _ _ _ _=>rfl))
  (fm (fk X G "nearpool.pooling" 289 98 99 (by kernel_rfl) (by kernel_rfl) (b4 fun _ _ _ _=>rfl))
  (fm (fk X G "nearpool.pooling" 289 105 106 (by kernel_rfl) (by kernel_rfl) (b2 fun _ _=>rfl))
  (fm (fk X G "nearpool.pooling" 289 112 113 (by kernel_rfl) (by kernel_rfl) (b2 fun _ _=>rfl))
  (fm (fk X G "nearpool.pooling" 289 119 120 (by kernel_rfl) (by kernel_rfl) (b2 fun _ _=>rfl))
  (fm (fk X G "nearpool.pooling" 289 126 127 (by kernel_rfl) (by kernel_rfl) (b2 fun _ _=>rfl))
  (fm (fk X G "nearpool.pooling" 289 133 134 (by kernel_rfl) (by kernel_rfl) (b2 fun _ _=>rfl))
  (fm (fk X G "nearpool.pooling" 289 140 141 (by kernel_rfl) (by kernel_rfl) (b2 fun _ _=>rfl))
  (fm (fk X G "nearpool.pooling" 289 145 146 (by kernel_rfl) (by kernel_rfl) (b1 fun _=>rfl))
  (fm (fk X G "nearpool.pooling" 289 159 160 (by kernel_rfl) (by kernel_rfl) (b3 fun _ _ _=>rfl))
  (fm (fk X G lm 402 166 167 (by kernel_rfl) (by kernel_rfl) (b2 fun _ _=>rfl))
  (fm (fk X G lm 402 173 174 (by kernel_rfl) (by kernel_rfl) (b2 fun _ _=>rfl))
  (fm (fk X G lm 402 180 181 (by kernel_rfl) (by kernel_rfl) (b2 fun _ _=>rfl))
  (fm (fk X G lm 402 187 188 (by kernel_rfl) (by kernel_rfl) (b1 fun _=>rfl))
  (fm (fk X G lm 402 194 195 (by kernel_rfl) (by kernel_rfl) (b1 fun _=>rfl))
  (fm (fk X G lm 402 199 200 (by kernel_rfl) (by kernel_rfl) (b2 fun _ _=>rfl))
  (fm (fk X G lm 402 206 207 (by kernel_rfl) (by kernel_rfl) (b1 fun _=>rfl))
  (fm (fk X G lm 402 213 214 (by kernel_rfl) (by kernel_rfl) (b1 fun _=>rfl))
  (fm (fk X G lm 402 220 221 (by kernel_rfl) (by kernel_rfl) (b3 fun _ _ _=>rfl))
  (fm (fk X G lm 402 227 228 (by kernel_rfl) (by kernel_rfl) (b3 fun _ _ _=>rfl))
  (fm (fk X G lm 402 234 235 (by kernel_rfl) (by kernel_rfl) (b3 fun _ _ _=>rfl))
  (fm (fk X G lm 402 239 240 (by kernel_rfl) (by kernel_rfl) (b1 fun _=>rfl))
  (fm (fk X G lm 402 244 245 (by kernel_rfl) (by kernel_rfl) (b2 fun _ _=>rfl))
  (fm (fk X G lm 402 249 250 (by kernel_rfl) (by kernel_rfl) (b3 fun _ _ _=>rfl))
  (fm (fk X G lm 402 254 255 (by kernel_rfl) (by kernel_rfl) (b1 fun _=>rfl))
  (fun _ h=>by cases h)))))))))))))))))))))))))))))))))))) (fm (fC X G 189 (by kernel_rfl))
  (fm (fC X G 221 (by kernel_rfl))
  (fm (fC X G 223 (by kernel_rfl))
  (fun _ h=>by cases h))))
  (fun x hx=>PySem.W.mg_none_of X G (uj (aaU.mp (by kernel_rfl:(pl.nog.all fun x=>Du (PySem.W.nsIn (KK w.params) mainGlobals x))=true) x hx)))
  (fun z hz=>have q:=an2 (aaU.mp (by kernel_rfl:(pl.fld.all fun z=>Fg (KK w.params) (am (KK w.params) z.1) && Du (PySem.W.findIn (KK w.params) (.ref (am (KK w.params) z.1)) z.2))=true) z hz);⟨uk q.1,uj q.2⟩)
 have e:=hmg.symm.trans (abE X G (by kernel_rfl:PySem.W.nsIn (KK w.params) mainGlobals "law"=some (some (.ref 255))))
 cases e
 have F:Fun (KK w.params) D_law.name D_law.qual D_law.st 255 _:=jn (by kernel_rfl:(KK w.params).lookup 255=some (fo D_law lm 402 254)) (by kernel_rfl) (by kernel_rfl)
 exact⟨_,fun s v=>.of_eq rfl,fun base _ _=>M.law (n:=7) (j:=CV) (d:=D_law) rfl F pure⟩
theorem walk{l:PySem.W.OpenLaw}{q:Program}{loose:List Str}{XP:(Str->Option Value)->Heap->Prop}{YP:World->Heap->Prop}{d:DefRec}{K:Params->WF}(hn:l.most=some 63)(hdf:d.params.defaults=[])
  (hY:∀(w:World) (h:Heap),YP w h->(K w.params).In h)
  (F:∀(w:World) (mg:Str->Option Value) (fa:Addr) (h:Heap),(K w.params).In h->h.Ns mainGlobals mg->mg d.name=some (.ref fa) ->
   ∃fd:FuncData,(∀(s:Shared) (u:Value),BindsTo s fd ⟨[u],[]⟩ [("_law_script",u)])/\∀base:Heap,(K w.params).In base->base.Ns mainGlobals mg->FnOk l.prog w (K w.params) mg base CX0 8 fa fd ["_law_script"] (ui (K w.params))) :
  PySem.W.WalkO q loose XP YP l.row.toRowW d [] (fun f vs=>PySem.call f vs) :=
 L2.walk_of (n:=63) (k:=8) (x:="_law_script") (CX:=fun _=>CX0) (sp:=fun w=>ui (K w.params)) hn (by decide) hdf ⟨rfl,by decide,by decide,rfl⟩ hY F (fun _ _ a ns hl _ hS=>⟨a,ns,rfl,hS,hl,fun _=>rfl⟩) fun _ _ _ _ _ z=>z
end Np
open PySem PySem.W PyProof.Rows
set_option maxRecDepth 100000 in
set_option maxHeartbeats 0 in
theorem PySem.Challenge.cw_nearpool_k20_rows_that_need_pools_holds : PySem.Challenge.rw_nearpool_k20_rows_that_need_pools.Holds := by
 w_on
 refine holds_law Np.said fun said=>?_
 refine holds_open (q:=Np.qv) (loose:=[]) (Xt:=Np.xt) (XP:=XL Np.qv []) (Yf:=Hook.obs Np.hk) (Ya:=Hook.val Np.hk) (YP:=Hook.says Np.hk) (N:=2818) (d:=Np.dd) (kwd:=[]) Np.left (Hook.of Np.hk) (Hook.keeps Np.hk) (fun s e=>xl_of s (aby.mp e).1) XL.keeps (by kernel_rfl) (by kernel_rfl) (by kernel_rfl) (fun s e=>recFacts_of (aby.mp e).2) (by rfl) said (by kernel_rfl) ⟨rfl,rfl,rfl,rfl,rfl,by decide +kernel⟩ ?hw ?hc
 case hw=>w_witness2
 case hc=>exact Np.walk (l:=PySem.Challenge.rw_nearpool_k20_rows_that_need_pools) (K:=Np.KK) (d:=Np.dd) rfl (by kernel_rfl) (fun w h Y=>kIn_of Y) (fun w mg fa h KX G hmg=>Np.gives KX G hmg)
