import PyProof.Rows.All
import Wide.All
import OpenK.AllK
import Wide.FinOn
import Lean
import PyProof.EqAt
import PyProof.EqKinds
import PyProof.TupleCall
import PyProof.Draws
import PyProof.ZipIter
import PyProof.SeqI3
import PyProof.CallStr
import PyProof.StrHeap
import PyProof.ReprBulk
import PyProof.Rows.ListRangeD
import PyProof.EnumFor
import PyProof.EnumStmt
import PyProof.EnumMake
import PyProof.AutoListH
import PyProof.RangeFor
import PyProof.Rows.Range3
import KE.KUnpack
import PyProof.ReprRoads
import PyProof.ReprLen
import PyProof.FitsInt
import PyProof.DictCompW
import KE.KDictSum
import PyProof.NeKinds
import PyProof.SumWalk
import PySem.Challenge.RW_nearpool_k27_rows_that_settle
set_option compiler.extract_closed false
set_option genSizeOf false
set_option Elab.async false
set_option linter.all false
set_option maxRecDepth 100000
noncomputable section
def Daa:=@of_decide_eq_true
def Dab:=@decide_eq_false
def Dac:=@decide_eq_true
def Dad:=@of_decide_eq_false
abbrev Waa:=PySem.W.Frag
def aaa:=@List.length_map
def aab:=@List.mem_cons
def aac:=@List.mem_append_right
def aad:=@List.append_assoc
def aae:=@List.mem_append_left
def aaf:=@Bool.false_ne_true
def aag:=@Nat.le_refl
def aah:=@List.mem_cons_of_mem
def aai:=@List.mem_cons_self
def aaj:=@List.map_cons
def aak:=@List.mem_append
def aal:=@List.length_append
def aam:=@List.append_nil
def aan:=@Nat.le_trans
def aao:=@Nat.ne_of_lt
def aap:=@List.getElem?_eq_getElem
def aaq:=@List.length_cons
def aar:=@List.getElem?_eq_some_iff
def aas:=@List.perm_middle
def aat:=@Nat.lt_of_lt_of_le
def aau:=@List.size_toArray
def aav:=@List.getElem?_map
def aaw:=@List.not_mem_nil
def aax:=@List.map_append
def aay:=@List.mem_map
def aaz:=@List.mem_singleton
def aaA:=@List.nodup_append
def aaB:=@List.nodup_cons
def aaC:=@List.map_nil
def aaD:=@Option.some.inj
def aaE:=@Bool.and_eq_true
def aaF:=@List.set_cons_succ
def aaG:=@Ne.symm
def aaH:=@Nat.zero_le
def aaI:=@List.length_singleton
def aaJ:=@Option.map_eq_some_iff
def aaK:=@List.cons_append
def aaL:=@Option.bind_eq_some_iff
def aaM:=@List.nil_append
def aaN:=@List.length_set
def aaO:=@Nat.zero_add
def aaP:=@List.any_cons
def aaQ:=@Nat.le_of_lt
def aaR:=@List.getElem?_set_self
def aaS:=@List.getElem?_set_ne
def aaT:=@List.pairwise_cons
def aaU:=@List.length_filter_le
def aaV:=@List.lookup_cons
def aaW:=@List.find?_cons
def aaX:=@List.length_nil
def aaY:=@List.perm_append_comm
def aaZ:=@List.Perm.append_left
def aa0:=@List.map_map
def aa1:=@List.getElem?_concat_length
def aa2:=@List.filter_cons
def aa3:=@Nat.lt_irrefl
def aa4:=@Nat.ne_of_gt
def aa5:=@Nat.lt_succ_self
def aa6:=@Nat.le_succ
def aa7:=@PySem.mem_of_lookup
def aa8:=@Nat.le_add_right
def aa9:=@List.findIdx?_cons
def aba:=@List.all_eq_true
def abb:=@List.of_mem_zip
def abc:=@Option.isSome_iff_exists
def abd:=@List.mem_of_getElem?
def abe:=@Int.toNat_natCast
def abf:=@List.replicate_succ
def abg:=@List.isEmpty_iff
def abh:=@Bool.true_and
def abi:=@List.mem_filter
def abj:=@Bool.eq_iff_iff
def abk:=@List.length_take
def abl:=@Nat.lt_succ_of_lt
def abm:=@Bool.and_eq_true_iff
def abn:=@Bool.or_eq_true
def abo:=@Int.emod_nonneg
def abp:=@Int.emod_lt_of_pos
def abq:=@List.filter_nil
def abr:=@List.filter_cons_of_neg
def abt:=@List.append_inj'
def abu:=@Array.length_toList
def abv:=@List.set_comm
def abw:=@PyProof.Rows.callWith_type1
def abx:=@List.getElem?_append_right
def aby:=@List.length_replicate
def abz:=@Bool.or_false
def abA:=@Nat.lt_trans
def abB:=@List.nodup_nil
def abC:=@List.zip_cons_cons
def abD:=@List.set_cons_zero
def abE:=@List.drop_length
def abF:=@Bool.not_eq_true'
def abG:=@List.any_eq_true
def abH:=@Nat.blt_eq
def abI:=@List.filter_cons_of_pos
def abJ:=@Nat.sub_self
def abK:=@Bool.and_self
def abL:=@List.countP_cons
def abM:=@List.countP_le_length
def abN:=@List.pairwise_append
def abO:=@List.countP_eq_length_filter
def abP:=@PySem.W.mg_of
def abQ:=@List.filterMap_cons
def abR:=@Bool.false_and
def abS:=@PySem.W.plainGet_of
def abT:=@Nat.le_of_eq
def abU:=@PySem.W.callWith_K
def abV:=@List.getElem?_append_left
def abW:=@List.forIn_cons
def abX:=@Nat.lt_of_le_of_lt
def abY:=@Bool.false_or
def abZ:=@Option.isSome_map
def ab0:=@List.getD_eq_getElem?_getD
def ab1:=@List.perm_append_comm_assoc
def ab2:=@List.getElem?_drop
def ab3:=@Classical.axiomOfChoice
def ab4:=@Option.bind_some
def ab5:=@Bool.or_eq_false_iff
def ab6:=@List.drop_eq_getElem_cons
def ab7:=@List.length_eq_zero_iff
def ab8:=@PySem.F.plainAttrs_list
def ab9:=@PySem.F.slot_list_append
def aca:=@PySem.F.type_list_append
def acb:=@List.length_zipWith
def acd:=@Nat.add_le_add_left
def ace:=@List.set_append_right
def acf:=@List.eq_nil_or_concat
def acg:=@List.concat_eq_append
def ach:=@Int.zero_add
def aci:=@List.tail_drop
def acj:=@List.getLast?_append
def ack:=@List.map_set
def acl:=@PySem.W.methodCall_KW
def acm:=@PySem.W.cellsFrom_some
def acn:=@List.getElem?_replicate
def aco:=@Nat.add_sub_cancel_left
def acp:=@Array.getElem?_toList
def acq:=@Nat.add_left_cancel
def acr:=@List.Perm.append_right
def acs:=@Classical.choose_spec
def acu:=@List.map_congr_left
def acv:=@Nat.add_le_add_right
def acw:=@Nat.le_of_ble_eq_true
def acx:=@Int.le_add_of_nonneg_right
def acy:=@Nat.mul_le_mul_left
def acz:=@List.getElem?_cons_succ
def acA:=@List.getElem?_eq_none
def acB:=@List.map_eq_nil_iff
def acC:=@List.filter_eq_nil_iff
namespace L2
open PySem PySem.Spec PyProof.Rows
section
abbrev Key:=Sum Int Str
def keyIs:Key->Value->Bool
 |.inl k,v=>Value.isInt k v
 |.inr x,v=>Value.isStrOf x v
def keyH(w:World):Key->Int
 |.inl k=>hashInt k
 |.inr x=>hashStr w x
def aP:∀{k:Key}{v:Value},keyIs k v=true->(∃i t,k=Sum.inl i/\v=Value.int i t)\/(∃x t,k=Sum.inr x/\v=Value.str x t)
 |.inl i,v,h=>by obtain⟨t,e⟩:=Value.isInt_shape h;exact .inl ⟨i,t,rfl,e⟩
 |.inr x,v,h=>by obtain⟨t,e⟩:=Value.isStrOf_shape h;exact .inr ⟨x,t,rfl,e⟩
def qW(i:Int)(t:Tok):keyIs (.inl i) (.int i t)=true:=by simp[keyIs,Value.isInt]
def qX(x:Str)(t:Tok):keyIs (.inr x) (.str x t)=true:=by simp[keyIs,Value.isStrOf]
def zW(a b:Int):decide ((Sum.inl a:Key)=Sum.inl b)=(a==b):=by
 by_cases e:a=b
 ·subst e;simp
 ·have h:¬ (Sum.inl a:Key)=Sum.inl b:=λq=>e (Sum.inl.inj q);rw[Dab h];exact(beq_eq_false_iff_ne.mpr e).symm
def zX(a b:Str):decide ((Sum.inr a:Key)=Sum.inr b)=decide (a=b):=by
 by_cases e:a=b
 ·subst e;simp
 ·have h:¬ (Sum.inr a:Key)=Sum.inr b:=λq=>e (Sum.inr.inj q);rw[Dab h,Dab e]
def zY(a:Int)(b:Str):decide ((Sum.inl a:Key)=Sum.inr b)=false:=Dab (λq=>nomatch q)
def zZ(a:Str)(b:Int):decide ((Sum.inr a:Key)=Sum.inl b)=false:=Dab (λq=>nomatch q)
def bj(prog:Program)(w:World):PySem.KeyKind prog w Key where
 is:=keyIs
 hash:=keyH w
 inj:=λv a b f d=>by
  rcases aP f with ⟨i,t,rfl,rfl⟩|⟨x,t,rfl,rfl⟩
  ·rcases aP d with ⟨j,u,rfl,e⟩|⟨y,u,rfl,e⟩
   ·injection e with e1 _;rw[e1]
   ·exact nomatch e
  ·rcases aP d with ⟨j,u,rfl,e⟩|⟨y,u,rfl,e⟩
   ·exact nomatch e
   ·injection e with e1 _;rw[e1]
 byValue:=λk v h=>by rcases aP h with ⟨i,t,rfl,rfl⟩|⟨x,t,rfl,rfl⟩<;>rfl
 pyHash:=λc h=>by
  rcases aP c with ⟨i,t,rfl,rfl⟩|⟨x,t,rfl,rfl⟩
  ·exact wpAny_pyHash_int h
  ·exact wpAny_pyHash_str h
 eqBool:=λg c h=>by
  rcases aP g with ⟨i,t,rfl,rfl⟩|⟨x,t,rfl,rfl⟩
  ·rcases aP c with ⟨j,u,rfl,rfl⟩|⟨y,u,rfl,rfl⟩
   ·rw[zW]at h;exact wpAny_eqBool_int h
   ·rw[zY]at h;exact SeqAt.EqAt.int_str i t y u _ _ _ _ h
  ·rcases aP c with ⟨j,u,rfl,rfl⟩|⟨y,u,rfl,rfl⟩
   ·rw[zZ]at h;exact SeqAt.EqAt.str_int x t j u _ _ _ _ h
   ·rw[zX]at h;exact wpAny_eqBool_str h
 «strs»:=λk x t v h=>by
  rcases aP h with ⟨i,u,rfl,e⟩|⟨y,u,rfl,e⟩
  ·exact nomatch e
  ·injection e with e1 _;subst e1;cases v<;>rfl
def lG(prog:Program)(w:World)(i:Int)(t:Tok):(bj prog w).is (.inl i) (.int i t)=true:=qW i t
def mixKind_str(prog:Program)(w:World)(x:Str)(t:Tok):(bj prog w).is (.inr x) (.str x t)=true:=qX x t
end
section
inductive V where
 |non|bl (b:Bool)|int (i:Int)|str (x:Str)|byt (b:Array UInt8)|flt (b:UInt64)|ref (a:Addr)|ty (n:String)
 deriving DecidableEq
def RelV:V->Value->Prop
 |.non,u=>u=Value.none
 |.bl b,u=>u=Value.bool b
 |.int i,u=>∃t,u=Value.int i t
 |.str x,u=>∃t,u=Value.str x t
 |.byt b,u=>∃t,u=Value.bytes b t
 |.flt b,u=>∃t,u=Value.float b t
 |.ref a,u=>u=Value.ref a
 |.ty n,u=>u=Value.type n
abbrev Vals:List V->List Value->Prop:=Paired RelV
def Vals.length{xs:List V}{us:List Value}(r:Vals xs us):xs.length=us.length:=Paired.length r
def Vals.get:∀{xs:List V}{us:List Value}{i:Nat}{x:V},Vals xs us->xs[i]?=some x->∃u,us[i]?=some u/\RelV x u
 |_,_,_,_,.nil,e=>by simp at e
 |_,_,0,_,.cons r _,e=>by simp at e;subst e;exact⟨_,rfl,r⟩
 |_,_,i+1,x,.cons _ t,e=>by obtain⟨u,b,a⟩:=Vals.get (i:=i) (x:=x) t (by simpa using e);exact⟨u,by simpa using b,a⟩
def Vals.set(r:RelV x u):∀{xs:List V}{us:List Value} (i:Nat),Vals xs us->Vals (xs.set i x) (us.set i u)
 |_,_,_,.nil=>.nil
 |_,_,0,.cons _ t=>.cons r t
 |_,_,i+1,.cons q t=>.cons q (Vals.set r i t)
def Vals.append:∀{xs ys:List V}{us ws:List Value},Vals xs us->Vals ys ws->Vals (xs++ys) (us++ws)
 |_,_,_,_,.nil,s=>s
 |_,_,_,_,.cons r t,s=>.cons r (Vals.append t s)
def RelO:Option V->Option Value->Prop
 |some v,some u=>RelV v u
 |none,none=>True
 |_,_=>False
def KV{a:Type}:List (a×V)->List (a×Value)->Prop:=Paired λ(p:a×V) (q:a×Value)=>p.1=q.1/\RelV p.2 q.2
def kV:Key->V
 |.inl i=>.int i
 |.inr x=>.str x
inductive HO where
 |lst (xs:List V)
 |tup (xs:List V)
 |dK (kvs:List (Key×V))|dT (kvs:List (List Key×V))
 |set (S:Int->Bool) (n:Nat)
 |ins (C dx:Addr) (fs:List (Str×V))
 |own (x:Addr)
 |xd (fs:List (Str×V))
 |met (f x:Addr)
 |rng (lo hi:Int)
 |frz (o:Obj) (u:HO)
 |tbl (ps:Array Value)
 |ext (φ:Heap->Prop)
abbrev Hp:=Addr->Option HO
def upd(H:Hp)(a:Addr)(o:HO):Hp:=λb=>if b=a then some o else H b
def au{H:Hp}:upd H a o a=some o:=by unfold upd;rw[if_pos rfl]
def upd_ne{H:Hp}(h:b≠a):upd H a o b=H b:=by unfold upd;rw[if_neg h]
def CW{H:Hp}(h:H a=some o)(h':H b=some u)(d:o≠u):a≠b:=by intro e;subst e;rw[h]at h';exact d (aaD h')
def ao{H:Hp}(h:H a=some o)(h':H b=none):a≠b:=by intro e;subst e;rw[h]at h';cases h'
section
variable(P:Program)(w:World)
def ObjOk(H:Hp)(h:Heap)(a:Addr):HO->Prop
 |.lst xs=>xs.length<=sizeLine/\∃(b:List Value) (n:Nat),Vals xs b/\h.get? a=some { cls:=.type "list",data:=.seq b.toArray n }
 |.tup xs=>xs.length<=sizeLine/\∃b:List Value,Vals xs b/\IsTup h a b.toArray
 |.dK kvs=>kvs.length<=sizeLine/\(a==sysModules)=false/\∃d,KV kvs d/\h.DictOf (bj P w) a d
 |.dT kvs=>kvs.length<=sizeLine/\(a==sysModules)=false/\∃xs:List (List Key×Addr×Value),
   Paired (λ(p:List Key×V) (q:List Key×Addr×Value)=>p.1=q.1/\H q.2.1=some (.tup (p.1.map kV))/\RelV p.2 q.2.2) kvs xs /\
   ∃o g j,h.get? a=some o/\o.ExactDict/\o.data=.dict g j/\g.toList=xs.map (entryOfKey (tupleKind (bj P w)))/\(xs.map (·.1)).Nodup
 |.set S n=>h.SetOf (intKind P w) a S n
 |.ins C dx fs=>H dx=some (.own a)/\fs.length<=1000/\dx≠a/\h.get? a=some (PySem.W.instObj C dx) /\
   ∃c,h.Ns1 dx c/\(∀f,RelO (fs.lookup f) (c f))/\PySem.Within c (fs.map (·.1))
 |.own _=>∃o,h.get? a=some o
 |.xd fs=>∃c,h.Ns1 a c/\∀f,RelO (fs.lookup f) (c f)
 |.rng lo hi=>∃t u v,h.get? a=some { cls:=.type "range",data:=.fields #[.int lo t,.int hi u,.int 1 v] }
 |.frz o u=>h.get? a=some o/\ObjOk H h a u
 |.tbl ps=>h.get? a=some { cls:=.none,data:=.fields ps }
 |.met f x=>h.get? a=some (PySem.W.methodObj (.ref f) (.ref x))
 |.ext φ=>φ h/\(∃o,h.get? a=some o)/\∀i e:Heap,φ i->(∀o,i.get? a=some o->e.get? a=some o)->φ e
def HOk(H:Hp)(h:Heap):Prop:=∀a o,H a=some o->ObjOk P w H h a o
end
section
variable{P:Program}{w:World}{H H':Hp}{h h':Heap}{a:Addr}{o:HO}
def ObjOk.lt(x:ObjOk P w H h a o):a<h.objs.size:=by
 cases o with
 |lst d=>obtain⟨_,_,_,_,e⟩:=x;exact Heap.lt_size e
 |tup d=>obtain⟨_,_,_,p⟩:=x;exact p.lt
 |dK b=>obtain⟨_,_,_,_,o,_,_,e,_⟩:=x;exact Heap.lt_size e
 |dT b=>obtain⟨_,_,_,_,o,_,_,e,_⟩:=x;exact Heap.lt_size e
 |set S n=>obtain⟨o,_,_,_,e,_⟩:=x;exact Heap.lt_size e
 |ins C g c=>obtain⟨_,_,_,e,_⟩:=x;exact Heap.lt_size e
 |own y=>obtain⟨_,e⟩:=x;exact Heap.lt_size e
 |xd c=>obtain⟨_,⟨_,_,_,e,_⟩,_⟩:=x;exact Heap.lt_size e
 |rng j l=>obtain⟨_,_,_,e⟩:=x;exact Heap.lt_size e
 |frz m u=>obtain⟨e,_⟩:=x;exact Heap.lt_size e
 |tbl i=>exact Heap.lt_size (show h.get? a=some _ from x)
 |met f y=>exact Heap.lt_size (show h.get? a=some _ from x)
 |ext k=>obtain⟨_,⟨_,e⟩,_⟩:=x;exact Heap.lt_size e
def Paired.mapP{g e:Type}{F G:g->e->Prop}:∀{c:List g}{d:List e},Paired F c d->(∀a b,F a b->G a b)->Paired G c d
 |_,_,.nil,_=>.nil
 |_,_,.cons r t,f=>.cons (f _ _ r) (Paired.mapP t f)
def ObjOk.kl(x:ObjOk P w H h a o)(k:∀b u,(b=a\/H b=some (.own a))->h.get? b=some u->h'.get? b=some u)
  (O:∀b,H b=some (.own a)->H' b=some (.own a)) (L:∀b xs,H b=some (.tup xs)->H' b=some (.tup xs)):ObjOk P w H' h' a o:=by
 induction o with
 |lst xs=>obtain⟨z,l,n,r,e⟩:=x;exact⟨z,l,n,r,k _ _ (.inl rfl) e⟩
 |tup xs=>obtain⟨z,l,r,g,e,c⟩:=x;exact⟨z,l,r,g,k _ _ (.inl rfl) e,c⟩
 |dK A=>obtain⟨z,y,F,r,g,j,i,e,c⟩:=x;exact⟨z,y,F,r,g,j,i,k _ _ (.inl rfl) e,c⟩
 |dT A=>obtain⟨z,y,xs,r,g,j,i,e,c⟩:=x;exact⟨z,y,xs,Paired.mapP r λp q z=>⟨z.1,L _ _ z.2.1,z.2.2⟩,g,j,i,k _ _ (.inl rfl) e,c⟩
 |set S n=>obtain⟨g,j,i,t,e,c⟩:=x;exact⟨g,j,i,t,k _ _ (.inl rfl) e,c⟩
 |ins C Q J=>obtain⟨d,z,M,e,s,⟨m,j,i,I,c⟩,r⟩:=x;exact⟨O _ d,z,M,k _ _ (.inl rfl) e,s,⟨m,j,i,k _ _ (.inr d) I,c⟩,r⟩
 |own y=>obtain⟨g,e⟩:=x;exact⟨g,k _ _ (.inl rfl) e⟩
 |xd J=>obtain⟨s,⟨m,j,i,e,c⟩,r⟩:=x;exact⟨s,⟨m,j,i,k _ _ (.inl rfl) e,c⟩,r⟩
 |rng T X=>obtain⟨t,u,v,e⟩:=x;exact⟨t,u,v,k _ _ (.inl rfl) e⟩
 |frz g u N=>obtain⟨e,q⟩:=x;exact⟨k _ _ (.inl rfl) e,N q⟩
 |tbl B=>have e:h.get? a=some { cls:=.none,data:=.fields B }:=x;show h'.get? a=some { cls:=.none,data:=.fields B };exact k a _ (.inl rfl) e
 |met f y=>have e:h.get? a=some (PySem.W.methodObj (.ref f) (.ref y)):=x;show h'.get? a=some (PySem.W.methodObj (.ref f) (.ref y));exact k a _ (.inl rfl) e
 |ext U=>obtain⟨p,⟨o,e⟩,D⟩:=x;exact⟨D _ _ p λo q=>k _ _ (.inl rfl) q,⟨o,k _ _ (.inl rfl) e⟩,D⟩
def HOk.lt(x:HOk P w H h)(e:H a=some o):a<h.objs.size:=(x a o e).lt
def HOk.fresh(x:HOk P w H h)(e:h.objs.size<=a):H a=none:=by
 cases q:H a with
 |none=>rfl
 |some u=>exact absurd (aat (x.lt q) e) (aa3 _)
def HOk.kept(x:HOk P w H h)(k:∀b u,h.get? b=some u->h'.get? b=some u):HOk P w H h':=λa o e=>
 (x a o e).kl (λb u _ q=>k b u q) (λ_ q=>q) λ_ _ q=>q
def HOk.laid(x:HOk P w H h)(k:∀b u,h.get? b=some u->h'.get? b=some u)(i:h.objs.size<=a)(d:ObjOk P w (upd H a o) h' a o):HOk P w (upd H a o) h':=λb u e=>by
 have f:=x.fresh i;by_cases g:b=a
 ·subst g;rw[au]at e;cases e;exact d
 ·rw[upd_ne g]at e;exact(x b u e).kl (λc v _ q=>k c v q) (λc q=>by rw[upd_ne (ao q f)];exact q) λc j q=>by rw[upd_ne (ao q f)];exact q
end
def Rd(H:Hp)(a:Addr)(u:HO):Prop:=H a=some u\/∃o,H a=some (.frz o u)
def Rd.ok{P:Program}{w:World}(r:Rd H a u)(x:HOk P w H h):ObjOk P w H h a u:=by
 rcases r with r|⟨o,r⟩
 ·exact x a u r
 ·obtain⟨_,q⟩:=x a _ r;exact q
def CY:Option HO->Prop
 |some (.lst _)=>True
 |some (.dK _)=>True
 |some (.dT _)=>True
 |some (.set _ _)=>True
 |some (.ins _ _ _)=>True
 |some (.ext _)=>True
 |_=>False
section
variable{P:Program}{w:World}{H:Hp}{h h':Heap}{x e:Addr}{o':HO}
def HOk.write(s:HOk P w H h)(j:CY (H x))(p:e=x\/H e=some (.own x))(k:∀b u,b≠e->h.get? b=some u->h'.get? b=some u)(m:∃u,h'.get? e=some u)
  (n:ObjOk P w (upd H x o') h' x o'):HOk P w (upd H x o') h':=λb u q=>by
 have d:∀c y,H c=some (.own y)->c≠x:=λc y r z=>by subst z;rw[r]at j;exact j
 have f:∀c l,H c=some (.tup l)->c≠x:=λc l r z=>by subst z;rw[r]at j;exact j
 by_cases g:b=x
 ·subst g;rw[au]at q;cases q;exact n
 ·rw[upd_ne g]at q;by_cases a:b=e
  ·have o:H b=some (.own x):=by
    rcases p with z|z
    ·exact absurd (a.trans z) g
    ·rw[a];exact z
   rw[q]at o;cases o;obtain⟨v,t⟩:=m;exact⟨v,by rw[a];exact t⟩
  ·refine(s b u q).kl (λc v i r=>k c v ?_ r) (λc r=>by rw[upd_ne (d c b r)];exact r) λc l r=>by rw[upd_ne (f c l r)];exact r
   rcases i with rfl|i
   ·exact a
   ·rintro rfl;rcases p with z|z
    ·exact d c b i z
    ·rw[i]at z;cases z;exact g rfl
end
structure Un (fs ex:List Addr)(H H':Hp)(h h':Heap):Prop where
 keep:∀b o,h.get? b=some o->H b=none->b ∉ fs->b ∉ ex->h'.get? b=some o
 slot:∀b o,h.get? b=some o->H b=none->b∈fs->b ∉ ex->∃sl,h'.get? b=some { o with slots:=sl }
 free:∀b o,h.get? b=some o->H b=none->b ∉ ex->H' b=none
 there:∀b o,h.get? b=some o->b ∉ ex->∃o',h'.get? b=some o'
 tups:∀b xs,H b=some (.tup xs)->H' b=some (.tup xs)
 frzs:∀b o u,H b=some (.frz o u)->H' b=some (.frz o u)
 tbls:∀b ps,H b=some (.tbl ps)->∃more,H' b=some (.tbl (ps++more))
section
variable{fs fs' ex ex':List Addr}{H H1 H2:Hp}{h h1 h2 h':Heap}{a x e:Addr}{o:HO}
def Un.any(u:Un fs ex H H1 h h1){b:Addr}{c:Obj}(q:h.get? b=some c)(n:H b=none)(d:b ∉ ex):∃g,h1.get? b=some { c with slots:=g }:=by
 by_cases f:b∈fs
 ·exact u.slot b c q n f d
 ·exact⟨c.slots,u.keep b c q n f d⟩
def Un.kept(k:∀b u,h.get? b=some u->h'.get? b=some u):Un fs ex H H h h':=
 ⟨λb c q _ _ _=>k b c q,λb c q _ _ _=>⟨c.slots,k b c q⟩,λ_ _ _ n _=>n,λb c q _=>⟨c,k b c q⟩,λ_ _ q=>q,λ_ _ _ q=>q,λ_ d q=>⟨#[],by rw[q];simp⟩⟩
def Un.refl:Un fs ex H H h h:=Un.kept λ_ _ q=>q
def Un.laid(k:∀b u,h.get? b=some u->h'.get? b=some u)(f:h.objs.size<=a)(c:H a=none):Un fs ex H (upd H a o) h h' where
 keep:=λb u q _ _ _=>k b u q
 slot:=λb u q _ _ _=>⟨u.slots,k b u q⟩
 free:=λb u q n _=>by rw[upd_ne (aao (aat (Heap.lt_size q) f))];exact n
 there:=λb u q _=>⟨u,k b u q⟩
 tups:=λb d q=>by rw[upd_ne (ao q c)];exact q
 frzs:=λb u d q=>by rw[upd_ne (ao q c)];exact q
 tbls:=λb g q=>⟨#[],by rw[upd_ne (ao q c),q];simp⟩
def Un.write(d:CY (H x))(m:e=x\/H e=some (.own x))(k:∀b u,b≠e->h.get? b=some u->h'.get? b=some u)(g:∃u,h'.get? e=some u):Un fs ex H (upd H x o) h h':=by
 have i:∀b,H b=none->b≠x:=λb n z=>by subst z;rw[n]at d;exact d
 have j:∀b,H b=none->b≠e:=λb n z=>by
  subst z;rcases m with r|r
  ·exact i b n r
  ·rw[n]at r;cases r
 have f:∀b u,H b=some u->¬ CY (some u)->b≠x:=λb u q p z=>by subst z;rw[q]at d;exact p d
 refine⟨λb u q n _ _=>k b u (j b n) q,λb u q n _ _=>⟨u.slots,k b u (j b n) q⟩,λb u q n _=>by rw[upd_ne (i b n)];exact n,λb u q _=>?_,
  λb l q=>by rw[upd_ne (f b _ q λz=>z)];exact q,λb u l q=>by rw[upd_ne (f b _ q λz=>z)];exact q,λb s q=>⟨#[],by rw[upd_ne (f b _ q λz=>z),q];simp⟩⟩
 by_cases c:b=e
 ·subst c;exact g
 ·exact⟨u,k b u c q⟩
end
def trk(h:Heap)(H:Hp):List Addr:=(List.range h.objs.size).filter λa=>(H a).isSome
def j3(h:Heap)(H:Hp):Heap:=PySem.W.hideAll h (trk h H)
def qY(h:Heap)(H:Hp):(j3 h H).objs.size=h.objs.size:=PySem.W.hideAll_size _ _
def hidT_get(e:h.get? b=some o)(n:H b=none):(j3 h H).get? b=some o:=
 PySem.W.hideAll_get _ e λa=>by have q:(H b).isSome=true:=(abi.mp a).2;rw[n]at q;simp at q
def wG(e:(j3 h H).get? b=some o):h.get? b=some o/\H b=none:=by
 have a:h.get? b=some o:=PySem.W.of_hideAll (trk h H) e;refine⟨a,?_⟩;cases q:H b with
 |none=>rfl
 |some x=>have c:b∈trk h H:=abi.mpr ⟨List.mem_range.mpr (Heap.lt_size a),by simp[q]⟩;have z:(j3 h H).get? b=none:=PySem.W.hideAll_none (trk h H) c;rw[z]at e;cases e
end
section
structure Mod (K:Waa)(mg:Str->Option Value)(base:Heap):Prop where
 kin:K.In base
 glob:base.Ns mainGlobals mg
 blt:∃mb,base.Ns builtinsNs mb/\∀x:Str,x≠"__name__"->mb x=bootBuiltins x
 nolimit:base.NoLimit
structure Cx where
 prog:Program
 w:World
 K:Waa
 mg:Str->Option Value
 base:Heap
 A:Around
 N:List Str
 s₀:Shared
 H₀:Hp
 env:Env
 outer:List Env
 stack:List Env
 ex:List Addr
 fn:Str->Bool
 calm:Bool
 pn:List (Addr×Obj)
 xe:Value->Shared->Prop
def sG(l:List Env):List Addr:=l.filterMap (·.frame)
abbrev Cx.fs(X:Cx):List Addr:=sG X.outer
def Vis(sc:Scope)(x:Str):Prop:=sc.names.lookup x=some .local\/sc.names.lookup x=some .cell\/sc.names.lookup x=some .free
def Loc(sc:Scope)(x:Str):Prop:=sc.names.lookup x=some .local\/sc.names.lookup x=some .cell
def Look(env:Env)(h:Heap)(m:Str->Option Value)(x:Str)(u:Value):Prop:=
 (env.kindOf x=some .local/\m x=some u)\/((env.kindOf x=some .cell\/env.kindOf x=some .free)/\∃c,env.cells.lookup x=some c/\h.IsCell c (some u))
structure Cx.Ok (X:Cx):Prop where
 mod:Mod X.K X.mg X.base
 kind:X.env.scope.kind=.function
 glob:X.env.globals=mainGlobals
 blt:X.env.builtins=builtinsNs
 above:X.s₀.heap.objs.size<=X.env.locals
 inj:∀x y c,X.env.cells.lookup x=some c->X.env.cells.lookup y=some c->x=y
 has:∀x,(X.env.kindOf x=some .cell\/X.env.kindOf x=some .free)->∃c,X.env.cells.lookup x=some c
 cab:∀x c,X.fn x=true->X.env.cells.lookup x=some c->X.s₀.heap.objs.size<=c
 hd:X.calm=true->X.A.handled=none
 frames:X.A.frames=some X.stack
 stk:X.stack=X.outer\/(X.stack=X.env::X.outer/\X.env.frame=some X.env.locals)
 exf:∀b∈X.ex,b≠X.env.locals/\∀x c,X.env.cells.lookup x=some c->c≠b
 bs:∀b o,X.base.get? b=some o->X.s₀.heap.get? b=some o/\X.H₀ b=none
 bsz:X.base.objs.size<=X.s₀.heap.objs.size
 noex:∀b o,X.base.get? b=some o->b ∉ X.ex
 exfs:∀b∈X.ex,b ∉ X.fs
 funs:X.s₀.heap.FunFrames X.base X.outer
 frf:∀b∈X.fs,X.H₀ b=none
structure Inv (X:Cx)(pins:List (Addr×Obj))(σ:List (Option V))(H:Hp)(s:Shared):Prop where
 ok:X.Ok
 os:s.os=X.s₀.os
 bare:AllBare s.gens
 base:Un X.fs X.ex X.H₀ H X.s₀.heap s.heap
 loc:∃m,s.heap.Ns X.env.locals m/\∀(i:Nat) (x:Str) (v:V),X.N[i]?=some x->σ[i]?=some (some v)->Vis X.env.scope x->∃u,RelV v u/\Look X.env s.heap m x u
 cell:∀x c,X.env.cells.lookup x=some c->∃v,s.heap.IsCell c v
 free:H X.env.locals=none
 freeC:∀x c,X.env.cells.lookup x=some c->H c=none
 pin:∀p∈X.pn++pins,s.heap.get? p.1=some p.2/\H p.1=none/\p.1≠X.env.locals/\p.1 ∉ X.fs/\∀v,p.2.data≠.cell v
 hok:HOk X.prog X.w H s.heap
 len:σ.length=X.N.length
section
variable{X:Cx}{pins:List (Addr×Obj)}{σ:List (Option V)}{H H':Hp}{s:Shared}{h':Heap}
def Cx.Ok.nofr(a:X.Ok)(e:X.base.get? b=some o):b ∉ X.fs:=λc=>by have:=(a.funs.mem c).1;rw[e]at this;cases this
def Inv.bs(I:Inv X pins σ H s):∀b o,X.base.get? b=some o->s.heap.get? b=some o/\H b=none:=λb o e=>
 ⟨I.base.keep b o (I.ok.bs b o e).1 (I.ok.bs b o e).2 (I.ok.nofr e) (I.ok.noex b o e),I.base.free b o (I.ok.bs b o e).1 (I.ok.bs b o e).2 (I.ok.noex b o e)⟩
def Inv.bk(I:Inv X pins σ H s):∀b o,X.base.get? b=some o->s.heap.get? b=some o:=λb o e=>(I.bs b o e).1
def Inv.mod(I:Inv X pins σ H s):Mod X.K X.mg X.base:=I.ok.mod
def Inv.rd(I:Inv X pins σ H s):X.K.In s.heap:=I.ok.mod.kin.keeps I.bk
def Inv.fr(I:Inv X pins σ H s):∃m,Fr X.base X.env.locals s.heap m:=
 let ⟨m,a,_⟩:=I.loc
 ⟨m,a,I.bk,aan I.ok.bsz I.ok.above⟩
def Inv.lt(I:Inv X pins σ H s):X.env.locals<s.heap.objs.size:=let ⟨_,a,_⟩:=I.loc;a.lt
def Inv.sz(I:Inv X pins σ H s):X.s₀.heap.objs.size<=s.heap.objs.size:=aan I.ok.above (aaQ I.lt)
def Inv.nofs(I:Inv X pins σ H s)(h:s.heap.objs.size<=a):a ∉ X.fs:=λb=>by obtain⟨_,o,c,_⟩:=I.ok.funs.mem b;exact absurd (aat (Heap.lt_size c) (aan I.sz h)) (aa3 _)
def Inv.cne(I:Inv X pins σ H s):∀x c,X.env.cells.lookup x=some c->c≠X.env.locals:=λx c e z=>by obtain⟨v,o,d,f⟩:=I.cell x c e;obtain⟨m,⟨g,h,i,b,a,_⟩,_⟩:=I.loc;rw[z,b]at d;cases d;rw[a]at f;cases f
def Inv.funs(I:Inv X pins σ H s):s.heap.FunFrames X.base X.outer:=by
 have d:∀(l:List Env),(∀b∈sG l,b∈X.fs)->X.s₀.heap.FunFrames X.base l->s.heap.FunFrames X.base l:=by
  intro l;induction l with
  |nil=>intro _ _;trivial
  |cons m r n=>intro g k;obtain⟨i,⟨L,o,c,j,q,p⟩,h⟩:=k;have f:L∈X.fs:=g L (by unfold sG;rw[abQ,c];exact aai);obtain⟨t,e⟩:=I.base.slot L o q (I.ok.frf L f) f λz=>I.ok.exfs L z f;exact⟨i,⟨L,_,c,j,e,p⟩,n (λb a=>g b (by unfold sG;rw[abQ,c];exact aah _ a)) h⟩
 exact d X.outer (λ_ a=>a) I.ok.funs
def Inv.stack(I:Inv X pins σ H s):s.heap.FunFrames X.base X.stack:=by
 rcases I.ok.stk with e|⟨e,b⟩
 ·rw[e];exact I.funs
 ·rw[e];obtain⟨m,a,_⟩:=I.loc;refine .cons (by rw[I.ok.kind];decide) b a ?_ I.funs;exact Heap.get?_none_of_le (aan I.ok.bsz I.ok.above)
def Inv.pa(I:Inv X pins σ H s):∀b∈sG X.stack,b∈X.env.locals::X.fs:=λb a=>by
 rcases I.ok.stk with e|⟨e,c⟩
 ·rw[e]at a;exact aah _ a
 ·rw[e]at a;unfold sG at a;rw[abQ,c]at a;exact a
def Inv.sj(I:Inv X pins σ H s):∀b∈sG X.stack,H b=none:=λb a=>by
 rcases aab.mp (I.pa b a) with e|a
 ·rw[e];exact I.free
 ·obtain⟨_,o,c,_⟩:=I.ok.funs.mem a;exact I.base.free b o c (I.ok.frf b a) λz=>I.ok.exfs b z a
def Inv.step{g':Array GenState}{t':Nat}{d':Drawn}{ch:List Addr}(I:Inv X pins σ H s)
  (h:∀b∈ch,(b∈X.ex\/X.s₀.heap.objs.size<=b)/\b≠X.env.locals/\(∀x c,X.env.cells.lookup x=some c->c≠b)/\∀p∈X.pn++pins,p.1≠b)
  (f:∀b o,b≠X.env.locals->b ∉ X.fs->b ∉ ch->s.heap.get? b=some o->H b=none->h'.get? b=some o)
  (A:∀b o,b≠X.env.locals->b∈X.fs->b ∉ ch->s.heap.get? b=some o->H b=none->∃W,h'.get? b=some { o with slots:=W }) (free:∀b o,b ∉ ch->s.heap.get? b=some o->H b=none->H' b=none)
  (D:∀b o,b ∉ ch->s.heap.get? b=some o->∃J,h'.get? b=some J)
  (O:∀b B,H b=some (.tup B)->H' b=some (.tup B)) (M:∀b o u,H b=some (.frz o u)->H' b=some (.frz o u)) (N:∀b S,H b=some (.tbl S)->∃Q,H' b=some (.tbl (S++Q)))
  (ns:∀m,s.heap.Ns X.env.locals m->h'.Ns X.env.locals m) (U:HOk X.prog X.w H' h') (hg:AllBare g'):
  Inv X pins σ H' { s with heap:=h',gens:=g',drawn:=d',toks:=t' }:=by
 have P:∀b o,X.s₀.heap.get? b=some o->b≠X.env.locals:=λb o e=>aao (aat (Heap.lt_size e) I.ok.above);have y:∀b o,X.s₀.heap.get? b=some o->b ∉ X.ex->b ∉ ch:=λb o e a C=>by
  rcases (h b C).1 with z|z
  ·exact a z
  ·exact absurd (aat (Heap.lt_size e) z) (aa3 _)
 have j:∀x c,X.env.cells.lookup x=some c->∀v,s.heap.IsCell c v->h'.IsCell c v:=λx c e v ⟨o,F,Y⟩=>by
  have g:c ∉ ch:=λz=>(h c z).2.2.1 x c e rfl;by_cases hc:c∈X.fs
  ·obtain⟨W,q⟩:=A c o (I.cne x c e) hc g F (I.freeC x c e);exact⟨_,q,Y⟩
  ·exact⟨o,f c o (I.cne x c e) hc g F (I.freeC x c e),Y⟩
 refine⟨I.ok,I.os,hg,⟨λb o e n C a=>?_,λb o e n C a=>?_,λb o e n a=>?_,λb o e a=>?_,λb B e=>O b B (I.base.tups b B e),λb o B e=>M b o B (I.base.frzs b o B e),λb S e=>?_⟩,?_,λx c e=>?_,?_,λx c e=>?_,λp hp=>?_,U,I.len⟩
 ·exact f b o (P b o e) C (y b o e a) (I.base.keep b o e n C a) (I.base.free b o e n a)
 ·obtain⟨W,t⟩:=I.base.slot b o e n C a;obtain⟨T,L⟩:=A b _ (P b o e) C (y b o e a) t (I.base.free b o e n a);exact⟨T,L⟩
 ·obtain⟨J,t⟩:=I.base.there b o e a;exact free b J (y b o e a) t (I.base.free b o e n a)
 ·obtain⟨J,t⟩:=I.base.there b o e a;exact D b J (y b o e a) t
 ·obtain⟨m1,t⟩:=I.base.tbls b S e;obtain⟨m2,L⟩:=N b _ t;exact⟨m1++m2,by rw[L,Array.append_assoc]⟩
 ·obtain⟨m,hn,hl⟩:=I.loc;refine⟨m,ns m hn,λi x v t L e3=>?_⟩;obtain⟨u,r,l⟩:=hl i x v t L e3;refine⟨u,r,?_⟩;rcases l with l|⟨k,c,e,z⟩
  ·exact .inl l
  ·exact .inr ⟨k,c,e,j x c e _ z⟩
 ·obtain⟨v,z⟩:=I.cell x c e;exact⟨v,j x c e v z⟩
 ·obtain⟨m,⟨o,_,_,F,_⟩,_⟩:=I.loc;exact free _ o (λz=>(h _ z).2.1 rfl) F I.free
 ·obtain⟨v,o,F,Y⟩:=I.cell x c e;exact free c o (λz=>(h c z).2.2.1 x c e rfl) F (I.freeC x c e)
 ·obtain⟨e,n,ne,Z,d⟩:=I.pin p hp;have g:p.1 ∉ ch:=λz=>(h p.1 z).2.2.2 p hp rfl;exact⟨f p.1 p.2 ne Z g e n,free p.1 p.2 g e n,ne,Z,d⟩
def Inv.un{t':Nat}(I:Inv X pins σ H s)(u:Un X.fs [] H H' s.heap h')(g:HOk X.prog X.w H' h'):Inv X pins σ H' { s with heap:=h',toks:=t' }:=by
 obtain⟨m,⟨o,t,p,h,r⟩,_⟩:=id I.loc;obtain⟨v,j⟩:=u.any h I.free (by simp);exact I.step (ch:=[]) (λ_ z=>nomatch z) (λb o _ f _ e n=>u.keep b o e n f (by simp)) (λb o _ f _ e n=>u.slot b o e n f (by simp)) (λb o _ e n=>u.free b o e n (by simp)) (λb o _ e=>u.there b o e (by simp)) u.tups u.frzs u.tbls (λq i=>by
  obtain⟨l,c,d,a,k⟩:=i;rw[h]at a;cases a;exact⟨_,c,d,j,k⟩) g I.bare
def Inv.call{t':Nat}{q:Drawn}(I:Inv X pins σ H s)(u:Un (sG X.stack) ch H H' s.heap h')(i:HOk X.prog X.w H' h')(t:AllBare g')
  (d:∀b∈ch,(b∈X.ex\/X.s₀.heap.objs.size<=b)/\b≠X.env.locals/\(∀x c,X.env.cells.lookup x=some c->c≠b)/\∀p∈X.pn++pins,p.1≠b):
  Inv X pins σ H' { s with heap:=h',gens:=g',drawn:=q,toks:=t' }:=by
 obtain⟨m,⟨o,D,B,k,r⟩,_⟩:=id I.loc;obtain⟨F,j⟩:=u.any k I.free λz=>(d _ z).2.1 rfl;exact I.step d (λb o j l a e n=>u.keep b o e n (λz=>(aab.mp (I.pa b z)).elim j l) a) (λb o _ _ a e n=>u.any e n a) (λb o a e n=>u.free b o e n a) (λb o a e=>u.there b o e a) u.tups u.frzs u.tbls (λC v=>by
  obtain⟨A,g,h,f,y⟩:=v;rw[k]at f;cases f;exact⟨_,g,h,j,y⟩) i t
def Inv.turned{t':Nat}(I:Inv X pins σ H s)(k:∀b o,b≠it->s.heap.get? b=some o->h'.get? b=some o)(l:H it=none)(f:it≠X.env.locals)
  (w:it∈X.ex\/X.s₀.heap.objs.size<=it) (j:∀x c,X.env.cells.lookup x=some c->c≠it) (g:∀p∈X.pn++pins,p.1≠it):Inv X pins σ H { s with heap:=h',toks:=t' }:=by
 have d:∀b u,H b=some u->b≠it:=λb u e z=>by rw[z,l]at e;cases e
 refine I.step (ch:=[it]) (λb h=>?_) (λb o _ _ a e _=>k b o (λz=>a (by simp[z])) e) (λb o _ _ a e _=>⟨o.slots,k b o (λz=>a (by simp[z])) e⟩) (λ_ _ _ _ n=>n)
  (λb o a e=>⟨o,k b o (λz=>a (by simp[z])) e⟩) (λ_ _ e=>e) (λ_ _ _ e=>e) (λb B e=>⟨#[],by rw[e];simp⟩) (λm y=>?_) (λb u e=>?_) I.bare
 ·have e:b=it:=by simpa using h
  subst e;exact⟨w,f,j,g⟩
 ·obtain⟨o,t,i,A,r⟩:=y;exact⟨o,t,i,k _ o (aaG f) A,r⟩
 ·refine(I.hok b u e).kl (λc v a q=>k c v ?_ q) (λ_ q=>q) λ_ _ q=>q;rcases a with z|z
  ·rw[z];exact d b u e
  ·exact d c _ z
def Inv.tok(I:Inv X pins σ H s)(t:Nat):Inv X pins σ H { s with toks:=t }:=I.un (h':=s.heap) (t':=t) Un.refl I.hok
def Inv.kept{t':Nat}(I:Inv X pins σ H s)(k:∀b u,s.heap.get? b=some u->h'.get? b=some u):Inv X pins σ H { s with heap:=h',toks:=t' }:=I.un (Un.kept k) (I.hok.kept k)
def Inv.laid{a:Addr}{o:HO}{t':Nat}(I:Inv X pins σ H s)(k:∀b u,s.heap.get? b=some u->h'.get? b=some u)(d:s.heap.objs.size<=a)(c:ObjOk X.prog X.w (upd H a o) h' a o):
  Inv X pins σ (upd H a o) { s with heap:=h',toks:=t' }:=I.un (Un.laid k d (I.hok.fresh d)) (I.hok.laid k d c)
def Inv.write{t':Nat}(I:Inv X pins σ H s)(f:CY (H x))(d:e=x\/H e=some (.own x))(k:∀b u,b≠e->s.heap.get? b=some u->h'.get? b=some u)(a:∃u,h'.get? e=some u)
  (c:ObjOk X.prog X.w (upd H x o) h' x o):Inv X pins σ (upd H x o) { s with heap:=h',toks:=t' }:=I.un (Un.write f d k a) (I.hok.write f d k a c)
def Inv.ub(I:Inv X pins σ H s)(h:∀p∈pins',s.heap.get? p.1=some p.2/\H p.1=none/\p.1≠X.env.locals/\p.1 ∉ X.fs/\∀v,p.2.data≠.cell v):Inv X pins' σ H s:=
 ⟨I.ok,I.os,I.bare,I.base,I.loc,I.cell,I.free,I.freeC,λp a=>(aak.mp a).elim (λz=>I.pin p (aae _ z)) (h p),I.hok,I.len⟩
def lH{N:List Str}(d:N.Nodup){i j:Nat}(a:N[i]?=some x)(b:N[j]?=some x):i=j:=by obtain⟨g,c⟩:=aar.mp a;obtain⟨f,e⟩:=aar.mp b;exact(List.getElem_inj d).mp (c.trans e.symm)
def fZ{M:Model}{A:Around}{E:Value->Shared->Prop}(I:Inv X pins σ H s)(hN:X.N.Nodup)(U:X.N[i]?=some x)(B:Loc X.env.scope x)(r:RelV v u)
  (h:∀s',Inv X pins (σ.set i (some v)) H s'->(∃a,Heap.SameBut a s.heap s'.heap/\(a=X.env.locals\/X.env.cells.lookup x=some a))->Q () s') (hf:X.fn x=true\/X.env.scope.names.lookup x=some .local:=by first|exact .inl rfl|exact .inr rfl|assumption):wpAny M A (storeName X.env x u) Q E s:=by
 obtain⟨m,hn,hl⟩:=id I.loc;have a0:(X.env.scope.kind==.class||(X.env.scope.kind==.module&&X.env.locals !=X.env.globals))=false:=by rw[I.ok.kind];rfl
 have F:i<σ.length:=by rw[I.len];exact(aar.mp U).1
 have S:=I.cne;have g:∀{a:Addr}{h':Heap},(∃o,s.heap.get? a=some o/\H a=none)->Heap.SameBut a s.heap h'->HOk X.prog X.w H h':=λ{a h'} ha f b ob e=>by
  obtain⟨_,_,C⟩:=ha;refine(I.hok b ob e).kl (λc w' t q=>(f.2 c ?_).trans q) (λ_ q=>q) λ_ _ q=>q;rintro rfl;rcases t with rfl|t
  ·rw[C]at e;cases e
  ·rw[C]at t;cases t
 rcases B with J|J
 ·refine wpAny_storeName_local J hn (λh' a1 f=>?_) a0;obtain⟨oL,_,_,a2,_⟩:=id hn;refine h _ ⟨I.ok,I.os,I.bare,⟨λb o e n L B=>?_,λb o e n L B=>?_,I.base.free,λb o e B=>?_,I.base.tups,I.base.frzs,I.base.tbls⟩,⟨_,a1,λj y v' l D e3=>?_⟩,λy c e=>?_,I.free,I.freeC,λp hp=>?_,g ⟨oL,a2,I.free⟩ f,by simpa using I.len⟩ ⟨_,f,.inl rfl⟩
  ·exact(f.2 b (aao (aat (Heap.lt_size e) I.ok.above))).trans (I.base.keep b o e n L B)
  ·obtain⟨sl,l⟩:=I.base.slot b o e n L B;exact⟨sl,(f.2 b (aao (aat (Heap.lt_size e) I.ok.above))).trans l⟩
  ·obtain⟨o',l⟩:=I.base.there b o e B;exact⟨o',(f.2 b (aao (aat (Heap.lt_size e) I.ok.above))).trans l⟩
  ·by_cases O:j=i
   ·subst O;rw[U]at l;cases l;rw[aaR F]at D;cases D;exact⟨u,r,.inl ⟨J,by simp⟩⟩
   ·rw[aaS (aaG O)]at D;obtain⟨u',r',q⟩:=hl j y v' l D e3;refine⟨u',r',?_⟩;rcases q with ⟨k,e⟩|⟨k,c,e,z⟩
    ·refine .inl ⟨k,?_⟩;have:y≠x:=λe=>O (lH hN l (e▸U));simp[this,e]
    ·exact .inr ⟨k,c,e,z.sameBut f (S y c e)⟩
  ·obtain⟨w',z⟩:=I.cell y c e;exact⟨w',z.sameBut f (S y c e)⟩
  ·obtain⟨e,n,ne,nf,d⟩:=I.pin p hp;exact⟨(f.2 p.1 ne).trans e,n,ne,nf,d⟩
 ·have P:X.fn x=true:=by
   rcases hf with z|z
   ·exact z
   ·rw[z]at J;cases J
  obtain⟨c,t⟩:=I.ok.has x (.inl J);obtain⟨w',z⟩:=I.cell x c t;refine wpAny_storeName_cell I.ok.kind J t z (λh' W f=>?_);obtain⟨oc,Y,T⟩:=id z;refine h { s with heap:=h' } ⟨I.ok,I.os,I.bare,⟨λb o e n L B=>?_,λb o e n L B=>?_,I.base.free,λb o e B=>?_,I.base.tups,I.base.frzs,I.base.tbls⟩,⟨m,hn.sameBut f (aaG (S x c t)),λj y v' l D e3=>?_⟩,λy c' e=>?_,I.free,I.freeC,λp hp=>?_,g ⟨oc,Y,I.freeC x c t⟩ f,by simpa using I.len⟩ ⟨c,f,.inr t⟩
  ·exact(f.2 b (aao (aat (Heap.lt_size e) (I.ok.cab x c P t)))).trans (I.base.keep b o e n L B)
  ·obtain⟨sl,l⟩:=I.base.slot b o e n L B;exact⟨sl,(f.2 b (aao (aat (Heap.lt_size e) (I.ok.cab x c P t)))).trans l⟩
  ·obtain⟨o',l⟩:=I.base.there b o e B;exact⟨o',(f.2 b (aao (aat (Heap.lt_size e) (I.ok.cab x c P t)))).trans l⟩
  ·by_cases O:j=i
   ·subst O;rw[U]at l;cases l;rw[aaR F]at D;cases D;exact⟨u,r,.inr ⟨.inl J,c,t,W⟩⟩
   ·rw[aaS (aaG O)]at D;obtain⟨u',r',q⟩:=hl j y v' l D e3;refine⟨u',r',?_⟩;rcases q with q|⟨k,c',e,z'⟩
    ·exact .inl q
    ·refine .inr ⟨k,c',e,z'.sameBut f ?_⟩;rintro rfl;exact O (lH hN l (I.ok.inj _ _ _ e t▸U))
  ·by_cases Z:c'=c
   ·subst Z;exact⟨_,W⟩
   ·obtain⟨w2,z2⟩:=I.cell y c' e;exact⟨w2,z2.sameBut f Z⟩
  ·obtain⟨e,n,ne,nf,d⟩:=I.pin p hp;refine⟨(f.2 p.1 ?_).trans e,n,ne,nf,d⟩;intro q;rw[q,Y]at e;have q':oc=p.2:=aaD e;exact d w' (by rw[<-q'];exact T)
def bY{M:Model}{A:Around}{E:Value->Shared->Prop}(I:Inv X pins σ H s)(b:X.N.Nodup)(f:X.N[i]?=some x)(c:Loc X.env.scope x)(r:RelV v u)
  (h:∀a,Inv X pins (σ.set i (some v)) H a->Q () a) (e:X.fn x=true\/X.env.scope.names.lookup x=some .local:=by first|exact .inl rfl|exact .inr rfl|assumption):wpAny M A (storeName X.env x u) Q E s:=
 fZ I b f c r (λa d _=>h a d) e
def Inv.call'(I:Inv X pins σ H s)(h:s'.os=s.os)(u:Un (sG X.stack) ch H H' s.heap s'.heap)(d:HOk X.prog X.w H' s'.heap)(g:AllBare s'.gens)
  (a:∀b∈ch,(b∈X.ex\/X.s₀.heap.objs.size<=b)/\b≠X.env.locals/\(∀x c,X.env.cells.lookup x=some c->c≠b)/\∀p∈X.pn++pins,p.1≠b):Inv X pins σ H' s':=by
 obtain⟨h',k,i,j,f⟩:=s';have e:f=s.os:=h;subst e;exact I.call u d g a
end
abbrev XK:=Value->Option Addr->Hp->Prop
abbrev St:=List (Option V)
abbrev VK:=V->Hp->Prop
abbrev TE:=St->Hp->VK->Prop
abbrev TT:=St->Hp->(Bool->Hp->Prop)->Prop
abbrev TA:=St->Hp->(List V->Hp->Prop)->Prop
structure Ends where
 nx:St->Hp->Prop
 rt:VK
 bk:St->Hp->Prop:=λ_ _=>False
 ct:St->Hp->Prop:=λ_ _=>False
abbrev TS:=Ends->St->Hp->Prop
def EP(X:Cx)(a:List (Addr×Obj))(σ:St)(Q:VK)(u:Value)(c:Shared):Prop:=∃v b,Inv X a σ b c/\RelV v u/\Q v b
def TP(X:Cx)(a:List (Addr×Obj))(σ:St)(Q:Bool->Hp->Prop)(b:Bool)(d:Shared):Prop:=∃c,Inv X a σ c d/\Q b c
def AP(X:Cx)(a:List (Addr×Obj))(σ:St)(Q:List V->Hp->Prop)(us:List Value)(d:Shared):Prop:=∃b c,Inv X a σ c d/\Vals b us/\Q b c
def SP(X:Cx)(b:List (Addr×Obj))(D:Ends)(f:Flow)(d:Shared):Prop:=
 match f with
 |.next=>∃a c,Inv X b a c d/\D.nx a c
 |.brk=>∃a c,Inv X b a c d/\D.bk a c
 |.cont=>∃a c,Inv X b a c d/\D.ct a c
 |.ret u=>∃v a c,Inv X b a c d/\RelV v u/\D.rt v c
def PE(X:Cx)(e:Expr)(t:TE):Prop:=
 ∀(a:List (Addr×Obj)) (s:Shared) (b:St) (H:Hp) (Q:VK),Inv X a b H s->t b H Q->wpAny (model X.prog X.w) X.A (eval e X.env) (EP X a b Q) X.xe s
def PT(X:Cx)(e:Expr)(t:TT):Prop:=
 ∀(a:List (Addr×Obj)) (s:Shared) (b:St) (H:Hp) (Q:Bool->Hp->Prop),Inv X a b H s->t b H Q->wpAny (model X.prog X.w) X.A (isTrue e X.env (eval e X.env)) (TP X a b Q) X.xe s
def PW(X:Cx)(e:Expr)(t:TT):Prop:=
 ∀(b:Sem Value) (a:List (Addr×Obj)) (s:Shared) (c:St) (H:Hp) (Q:Bool->Hp->Prop),Inv X a c H s->t c H Q->wpAny (model X.prog X.w) X.A (isTrue e X.env b) (TP X a c Q) X.xe s
def PW.pt(h:PW X e t):PT X e t:=h _
def PA(X:Cx)(es:List Expr)(t:TA):Prop:=
 ∀(c:Pos) (a:List (Addr×Obj)) (s:Shared) (b:St) (H:Hp) (Q:List V->Hp->Prop),Inv X a b H s->t b H Q->wpAny (model X.prog X.w) X.A (spliced (backTo c (starEach es X.env))) (AP X a b Q) X.xe s
def PS(X:Cx)(st:Stmt)(t:TS):Prop:=
 ∀(a:List (Addr×Obj)) (s:Shared) (b:St) (H:Hp) (D:Ends),Inv X a b H s->t D b H->wpAny (model X.prog X.w) X.A (exec st X.env) (SP X a D) X.xe s
def PSs(X:Cx)(st:List Stmt)(t:TS):Prop:=
 ∀(a:List (Addr×Obj)) (s:Shared) (b:St) (H:Hp) (D:Ends),Inv X a b H s->t D b H->wpAny (model X.prog X.w) X.A (execs st X.env) (SP X a D) X.xe s
def thn{b:Type}{t:Sem b}{Q c:b->Shared->Prop}{A:Around}(h:wpAny M A t Q E s)(d:∀a s,Q a s->c a s):wpAny M A t c E s:=wpAny_mono h d λ_ _ x=>x
end
section
section
variable{X:Cx}
def tVar(i:Nat):TE:=λa H Q=>∃v,a[i]?=some (some v)/\Q v H
def tC(v:V):TE:=λ_ H Q=>Q v H
def aZ{pos:Pos} (n:X.N[i]?=some x) (t:Vis X.env.scope x) (j:(x==("__debug__":Str))=false:=by decide) (g:(x==("__classdict__":Str))=false:=by decide):PE X (.Name x pos) (tVar i):=by
 intro f s w H Q I h;obtain⟨v,e,h⟩:=h;obtain⟨m,o,p⟩:=I.loc;obtain⟨u,r,l⟩:=p i x v n e t;have b:EP X f w Q u s:=⟨v,H,I,r,h⟩
 rcases l with ⟨d,q⟩|⟨d,c,k,a⟩
 ·exact wpAny_Name (wpAny_loadName_local I.ok.kind d o q b) j
 ·rcases d with d|d
  ·exact wpAny_Name (wpAny_loadName_cell I.ok.kind d k a b) j
  ·exact wpAny_Name (wpAny_loadName_free I.ok.kind d k a b g) j
def f6{i j pos}:PE X (.Constant (.int i) j pos) (tC (.int i)):=λ_ _ _ H _ I h=>wpAny_Constant_int ⟨.int i,H,I.tok _,⟨_,rfl⟩,h⟩
def CZ{b j pos}:PE X (.Constant (.bool b) j pos) (tC (.bl b)):=λ_ _ _ H _ I h=>Constant_bool ⟨.bl b,H,I,rfl,h⟩
def z5{x j pos}:PE X (.Constant (.str x) j pos) (tC (.str x)):=λ_ _ _ H _ I h=>Calls.Constant_str ⟨.str x,H,I.tok _,⟨_,rfl⟩,h⟩
def Gl(X:Cx)(x:Str):Prop:=X.env.kindOf x=some .globalImplicit
def j4{E:Value->Shared->Prop}{pos:Pos}(I:Inv X pins σ H s)(b:Gl X x)(a:X.mg x=some u)(h:Q u s)
  (c:(x==("__debug__":Str))=false:=by decide):wpAny (model X.prog X.w) X.A (eval (.Name x pos) X.env) Q E s:=
 Calls.Name_function_global I.ok.kind b (Calls.loadGlobal_global (by rw[I.ok.glob];exact I.mod.glob.keeps I.bk) a h) c
def f9{E:Value->Shared->Prop}{a:List (Addr×Obj)}{s:Shared}{pos:Pos}(I:Inv X a σ H s)(d:Gl X x)(c:X.mg x=none)(g:bootBuiltins x=some u)(h:Q u s)
  (b:x≠"__name__":=by decide) (f:(x==("__debug__":Str))=false:=by decide):wpAny (model X.prog X.w) X.A (eval (.Name x pos) X.env) Q E s:=by
 obtain⟨j,i,e⟩:=I.mod.blt;exact Calls.Name_function_global I.ok.kind d (Calls.loadGlobal_builtin (by rw[I.ok.glob];exact I.mod.glob.keeps I.bk) c (by rw[I.ok.blt];exact i.keeps I.bk) ((e x b).trans g) h) f
def wH{pos:Pos} (b:Gl X x) (a:X.mg x=some u) (r:RelV v u) (c:(x==("__debug__":Str))=false:=by decide):PE X (.Name x pos) (tC v):=
 λ_ _ _ H _ I h=>j4 I b a ⟨v,H,I,r,h⟩ c
def wI{pos:Pos} (c:Gl X x) (b:X.mg x=none) (e:bootBuiltins x=some u) (r:RelV v u) (a:x≠"__name__":=by decide) (d:(x==("__debug__":Str))=false:=by decide):PE X (.Name x pos) (tC v):=
 λ_ _ _ H _ I h=>f9 I c b e ⟨v,H,I,r,h⟩ a d
variable{a b:Expr}{ta tb:TE}{pos:Pos}
def PC(X:Cx)(g:CmpOp)(a b:Expr)(t:TE):Prop:=
 ∀(c:List (Addr×Obj)) (s:Shared) (f:St) (H:Hp) (Q:VK),Inv X c f H s->t f H Q ->
  wpAny (model X.prog X.w) X.A (eval a X.env) (λv d=>wpAny (model X.prog X.w) X.A (eval b X.env) (λu e=>wpAny (model X.prog X.w) X.A (compareOp g v u) (EP X c f Q) X.xe e) X.xe d) X.xe s
def nobehind(b:Expr)(h:op≠.In)(c:op≠.NotIn):behindInMarks op b=false:=by
 have d:(op==CmpOp.In)=false:=by cases op<;>first|rfl|exact absurd rfl h
 have e:(op==CmpOp.NotIn)=false:=by cases op<;>first|rfl|exact absurd rfl c
 cases b<;>simp[behindInMarks,d,e]
def F2(ta:TE):TE:=λd H Q=>ta d H λx c=>Q (.bl (decide (x=.non))) c
def C0(ta:TE):TE:=λd H Q=>ta d H λx c=>Q (.bl (!decide (x=.non))) c
def RelV.rr{x:V}{v:Value}(r:RelV x v):(v==Value.none)=decide (x=.non):=by
 cases x with
 |non=>cases r;rfl
 |bl _=>cases r;rfl
 |int _=>obtain⟨t,rfl⟩:=r;rfl
 |str _=>obtain⟨t,rfl⟩:=r;rfl
 |byt _=>obtain⟨t,rfl⟩:=r;rfl
 |flt _=>obtain⟨t,rfl⟩:=r;rfl
 |ref _=>cases r;rfl
 |ty _=>cases r;rfl
def sH{j pos'}(e:PE X a ta):PC X .Is a (.Constant .none j pos') (F2 ta):=by intro c s i H Q I h;refine thn (e c s i H _ I h) λv m f=>?_;obtain⟨x,g,d,l,k⟩:=f;exact Constant_none (is_none_gen ⟨.bl _,g,d,by rw[l.rr];rfl,k⟩)
def oG{j pos'}(e:PE X a ta):PC X .IsNot a (.Constant .none j pos') (C0 ta):=by intro c s i H Q I h;refine thn (e c s i H _ I h) λv m f=>?_;obtain⟨x,g,d,l,k⟩:=f;exact Constant_none (isnot_none_gen ⟨.bl _,g,d,by rw[l.rr];rfl,k⟩)
def tB(t:TE):TT:=λe H Q=>t e H λx d=>∃c,x=.bl c/\Q c d
def j5(h:PC X op a b t)(d:behindInMarks op b=false:=by first|exact nobehind _ (by decide) (by decide)|rfl):PE X (.Compare a [op] [b] pos) t:=λc s f H Q I e=>wpAny_Compare1 (h c s f H Q I e) d
def j6{g:CmpOp}{t:TE}(h:PC X g a b t)(f:behindInMarks g b=false:=by first|exact nobehind _ (by decide) (by decide)|rfl):PT X (.Compare a [g] [b] pos) (tB t):=by intro e s p H Q I l;refine wpAny_isTrue_Compare1 (thn (h e s p H _ I l) λv y f=>thn f λu r j=>thn j λc w m=>?_) f;obtain⟨x,k,i,o,n⟩:=m;obtain⟨d,rfl,q⟩:=n;cases o;exact wpAny_truthy_bool ⟨k,i,q⟩
variable{tA tB':TT}{rest:List Expr}
def F3(t u:TT):TT:=λe H Q=>t e H λc d=>if c=true then u e d Q else Q false d
def Ii(t u:TT):TT:=λe H Q=>t e H λc d=>if c=true then Q true d else u e d Q
def F4(t:TT):TT:=λe H Q=>t e H λc d=>Q (!c) d
def wJ(f:PT X a tA):PW X (.BoolOp .And [a] pos) tA:=by
 intro i d s g H Q I h;refine isTrue_and (thn (f d s g H Q I h) λc j e=>?_);cases c with
 |true=>exact isTrue_and_nil e
 |false=>exact e
def z6(f:PT X a tA):PW X (.BoolOp .Or [a] pos) tA:=by
 intro i d s g H Q I h;refine isTrue_or (thn (f d s g H Q I h) λc j e=>?_);cases c with
 |false=>exact isTrue_or_nil e
 |true=>exact e
def z7(j:PT X a tA)(k:PW X (.BoolOp .And (b::rest) pos) tB'):PW X (.BoolOp .And (a::b::rest) pos) (F3 tA tB'):=by
 intro l d s i H Q I h;refine isTrue_and (thn (j d s i H _ I h) λc n m=>?_);obtain⟨f,e,g⟩:=m;cases c with
 |true=>exact k l d n i f Q e g
 |false=>exact⟨f,e,g⟩
def C1(j:PT X a tA)(k:PW X (.BoolOp .Or (b::rest) pos) tB'):PW X (.BoolOp .Or (a::b::rest) pos) (Ii tA tB'):=by
 intro l d s i H Q I h;refine isTrue_or (thn (j d s i H _ I h) λc n m=>?_);obtain⟨f,e,g⟩:=m;cases c with
 |true=>exact⟨f,e,g⟩
 |false=>exact k l d n i f Q e g
def z8(e:PT X a tA):PT X (.UnaryOp .Not a pos) (F4 tA):=by intro d s g H Q I h;exact isTrue_not (e d s g H (λc f=>Q (!c) f) I h)
def C3(ta tb:TE):TE:=λe H Q=>ta e H λx d=>∃c,x=.bl c/\if c=true then tb e d Q else Q (.bl false) d
def F5(ta tb:TE):TE:=λe H Q=>ta e H λx d=>∃c,x=.bl c/\if c=true then Q (.bl true) d else tb e d Q
def C4(ta:TE):TE:=λe H Q=>ta e H λx d=>∃c,x=.bl c/\Q (.bl (!c)) d
def z9{e}(h:PE X a t):PE X (.BoolOp e [a] pos) t:=λc s f H Q I d=>BoolOp_one (h c s f H Q I d)
def Aa(k:PE X a ta)(j:PE X (.BoolOp .And (b::rest) pos) tb):PE X (.BoolOp .And (a::b::rest) pos) (C3 ta tb):=by
 intro d s i H Q I h;refine BoolOp_and (thn (k d s i H _ I h) λv l m=>?_);obtain⟨x,g,f,n,e⟩:=m;obtain⟨c,rfl,e⟩:=e;cases n;refine wpAny_truthy_bool ?_;cases c with
 |true=>exact j d l i g Q f e
 |false=>exact⟨.bl false,g,f,rfl,e⟩
def C5(k:PE X a ta)(j:PE X (.BoolOp .Or (b::rest) pos) tb):PE X (.BoolOp .Or (a::b::rest) pos) (F5 ta tb):=by
 intro d s i H Q I h;refine BoolOp_or (thn (k d s i H _ I h) λv l m=>?_);obtain⟨x,g,f,n,e⟩:=m;obtain⟨c,rfl,e⟩:=e;cases n;refine wpAny_truthy_bool ?_;cases c with
 |false=>exact j d l i g Q f e
 |true=>exact⟨.bl true,g,f,rfl,e⟩
def Ab(g:PE X a ta):PE X (.UnaryOp .Not a pos) (C4 ta):=by intro d s k H Q I h;refine UnaryOp_ (thn (g d s k H _ I h) λv m i=>?_);obtain⟨x,j,f,l,e⟩:=i;obtain⟨c,rfl,e⟩:=e;cases l;exact not_of (wpAny_truthy_bool ⟨.bl (!c),j,f,rfl,e⟩)
def Ij(t:TT)(ta tb:TE):TE:=λd H Q=>t d H λc e=>if c=true then ta d e Q else tb d e Q
def lI{c:Expr}(o:PT X c tA)(l:PE X a ta)(m:PE X b tb):PE X (.IfExp c a b pos) (Ij tA ta tb):=by
 intro e s f H Q I h;refine wpAny_IfExp (thn (o e s f H _ I h) λd k n=>?_);obtain⟨i,g,j⟩:=n;cases d with
 |true=>exact l e k f i Q g j
 |false=>exact m e k f i Q g j
end
end
section
def SqL(K:Waa)(H:Hp)(a:Addr)(xs:List V):Prop:=
 Rd H a (.lst xs) \/
  ∃(o:Obj) (b:Array Value) (n:Nat),K.lookup a=some o/\o.cls=.type "list"/\o.dict=none/\o.data=.seq b n/\b.size<=sizeLine/\Vals xs b.toList
def SqT(K:Waa)(H:Hp)(a:Addr)(xs:List V):Prop:=
 Rd H a (.tup xs) \/
  ∃(o:Obj) (b:Array Value) (n:Nat),K.lookup a=some o/\o.cls=.type "tuple"/\o.data=.seq b n/\b.size<=sizeLine/\Vals xs b.toList
def F6:Value->Option V
 |.none=>some .non
 |.bool b=>some (.bl b)
 |.int i _=>some (.int i)
 |.str x _=>some (.str x)
 |.bytes b _=>some (.byt b)
 |.float b _=>some (.flt b)
 |.ref a=>some (.ref a)
 |.type n=>some (.ty n)
 |_=>none
def RelV.abs(r:RelV x u):F6 u=some x:=by
 cases x with
 |non=>cases r;rfl
 |bl _=>cases r;rfl
 |int _=>obtain⟨t,rfl⟩:=r;rfl
 |str _=>obtain⟨t,rfl⟩:=r;rfl
 |byt _=>obtain⟨t,rfl⟩:=r;rfl
 |flt _=>obtain⟨t,rfl⟩:=r;rfl
 |ref _=>cases r;rfl
 |ty _=>cases r;rfl
def RelV.inj{x y:V}{u:Value}(r:RelV x u)(q:RelV y u):x=y:=aaD (r.abs.symm.trans q.abs)
def Vals.inj{xs ys:List V}{us:List Value}(h:Vals xs us)(h':Vals ys us):xs=ys:=by
 induction us generalizing xs ys with
 |nil=>cases h;cases h';rfl
 |cons u us a=>cases h with|cons r t=>cases h' with|cons c b=>rw[r.inj c,a t b]
section
variable{X:Cx}{pins:List (Addr×Obj)}{σ:St}{H:Hp}{s:Shared}{a:Addr}{xs ys:List V}
def SqL.of{K:Waa}(h:H a=some (.lst xs)):SqL K H a xs:=.inl (.inl h)
def SqT.of{K:Waa}(h:H a=some (.tup xs)):SqT K H a xs:=.inl (.inl h)
def Inv.list(I:Inv X pins σ H s)(h:SqL X.K H a xs):∃b:List Value,Vals xs b/\PlainL s.heap a b.toArray/\xs.length<=sizeLine:=by
 rcases h with h|⟨o,b,n,f,g,d,c,i,r⟩
 ·obtain⟨z,b,n,r,e⟩:=h.ok I.hok;exact⟨b,r,⟨_,n,e,rfl,rfl,rfl⟩,z⟩
 ·refine⟨b.toList,r,⟨o,n,I.rd a o f,g,d,by simpa using c⟩,?_⟩;have e:=r.length;simp only[abu]at e;omega
def Inv.tuple(I:Inv X pins σ H s)(h:SqT X.K H a xs):∃b:List Value,Vals xs b/\IsTup s.heap a b.toArray/\xs.length<=sizeLine:=by
 rcases h with h|⟨o,b,n,d,f,c,g,r⟩
 ·obtain⟨z,b,r,p⟩:=h.ok I.hok;exact⟨b,r,p,z⟩
 ·refine⟨b.toList,r,⟨o,I.rd a o d,f,n,by simpa using c⟩,?_⟩;have e:=r.length;simp only[abu]at e;omega
def Inv.rx(I:Inv X pins σ H s)(h:SqL X.K H a xs)(h':SqL X.K H a ys):xs=ys:=by
 obtain⟨c,r,⟨o,n,e,_,_,d⟩,_⟩:=I.list h;obtain⟨b,i,⟨j,k,g,_,_,f⟩,_⟩:=I.list h';rw[e]at g;cases g;rw[d]at f;injection f with d1 _;have:c=b:=by simpa using congrArg Array.toList d1
 subst this;exact r.inj i
def Inv.u0(I:Inv X pins σ H s)(h:SqT X.K H a xs)(h':SqT X.K H a ys):xs=ys:=by
 obtain⟨c,r,⟨o,e,_,n,d⟩,_⟩:=I.tuple h;obtain⟨b,i,⟨j,g,_,k,f⟩,_⟩:=I.tuple h';rw[e]at g;cases g;rw[d]at f;injection f with d1 _;have:c=b:=by simpa using congrArg Array.toList d1
 subst this;exact r.inj i
end
abbrev Cx.kq(X:Cx)(E:Value->Shared->Prop):Cx:={ X with xe:=E }
abbrev Cx.nox(X:Cx):Cx:=X.kq λ_ _=>False
def Cx.Ok.kq{X:Cx}(a:X.Ok)(E:Value->Shared->Prop):(X.kq E).Ok:=
 ⟨a.mod,a.kind,a.glob,a.blt,a.above,a.inj,a.has,a.cab,a.hd,a.frames,a.stk,a.exf,a.bs,a.bsz,a.noex,a.exfs,a.funs,a.frf⟩
def Cx.Ok.fx{X:Cx}(a:(X.kq E).Ok):X.Ok:=
 ⟨a.mod,a.kind,a.glob,a.blt,a.above,a.inj,a.has,a.cab,a.hd,a.frames,a.stk,a.exf,a.bs,a.bsz,a.noex,a.exfs,a.funs,a.frf⟩
section
variable{X:Cx}{pins:List (Addr×Obj)}{σ:St}{H:Hp}{s:Shared}{E:Value->Shared->Prop}
def Inv.kq(I:Inv X pins σ H s)(E:Value->Shared->Prop):Inv (X.kq E) pins σ H s:=⟨I.ok.kq E,I.os,I.bare,I.base,I.loc,I.cell,I.free,I.freeC,I.pin,I.hok,I.len⟩
def Inv.fx(I:Inv (X.kq E) pins σ H s):Inv X pins σ H s:=⟨I.ok.fx,I.os,I.bare,I.base,I.loc,I.cell,I.free,I.freeC,I.pin,I.hok,I.len⟩
def SP.fx{D:Ends}(h:SP (X.kq E) pins D f s'):SP X pins D f s':=by
 cases f with
 |next=>obtain⟨a,b,I,q⟩:=h;exact⟨a,b,I.fx,q⟩
 |brk=>obtain⟨a,b,I,q⟩:=h;exact⟨a,b,I.fx,q⟩
 |cont=>obtain⟨a,b,I,q⟩:=h;exact⟨a,b,I.fx,q⟩
 |ret u=>obtain⟨v,a,b,I,r,q⟩:=h;exact⟨v,a,b,I.fx,r,q⟩
def PSs.nox{a:List Stmt}(h:PSs X.nox a t):PSs X a t:=λpins s σ H D I b=>
 wpAny_mono (h pins s σ H D (I.kq _) b) (λ_ _ q=>q.fx) λ_ _ z=>False.elim z
end
section
variable{X:Cx}{st:Stmt}{rest:List Stmt}{t u:TS}{e:Expr}{te:TE}{pos:Pos}
def tNext:TS:=λD a H=>D.nx a H
def F7(t u:TS):TS:=λD a H=>t { D with nx:=u D } a H
def wK:PSs X [] tNext:=λ_ _ a H _ I h=>wpAny_execs_nil ⟨a,H,I,h⟩
def ip(c:PS X st t)(d:PSs X rest u):PSs X (st::rest) (F7 t u):=by
 intro a s k H D I h;refine wpAny_execs_cons (thn (c a s k H { D with nx:=u D } I h) λf j q=>?_);cases f with
 |next=>obtain⟨b,g,i,q⟩:=q;exact d a j b g D i q
 |ret v=>exact q
 |brk=>exact q
 |cont=>exact q
def tBreak:TS:=λD a H=>D.bk a H
def tCont:TS:=λD a H=>D.ct a H
def sI:PS X (.Break pos) tBreak:=λ_ _ a H _ I h=>wpAny_Break ⟨a,H,I,h⟩
def lJ:PS X (.Continue pos) tCont:=λ_ _ a H _ I h=>wpAny_Continue ⟨a,H,I,h⟩
def Inv.quiet{a:List (Addr×Obj)}{σ:St}(I:Inv X a σ H s):interactive X.env=false:=by simp[interactive,I.ok.kind]
def C6(te:TE):TS:=λD a H=>te a H λ_ b=>D.nx a b
def ie(g:PE X e te)(d:swapsWith e none pos.line X.env=pure false:=by rfl):PS X (.Expr e pos) (C6 te):=by intro a s b H D I h;exact wpAny_Expr_any (thn (g a s b H _ I h) λv k ⟨x,f,c,j,i⟩=>⟨b,f,c,i⟩) I.quiet d
def F8(te:TE):TS:=λD a H=>te a H D.rt
def Ac(f:PE X e te):PS X (.Return (some e) pos) (F8 te):=by intro a s b H D I h;exact wpAny_Return_some (thn (f a s b H _ I h) λv j ⟨x,d,c,i,g⟩=>⟨x,b,d,c,i,g⟩)
def F9(c:TT)(t u:TS):TS:=λD a H=>c a H λb d=>if b=true then t D a d else u D a d
def C7{c:Expr}{a b:List Stmt}{j:TT}(o:PT X c j)(p:PSs X a t)(n:PSs X b u):PS X (.If c a b pos) (F9 j t u):=by
 intro f s g H D I h;refine wpAny_If (thn (o f s g H _ I h) λd l q=>?_);obtain⟨k,i,m⟩:=q;cases d with
 |true=>exact p f l g k D i m
 |false=>exact n f l g k D i m
def tNever:TS:=λ_ _ _=>False
def lK:PS X st tNever:=λ_ _ _ _ _ _ h=>h.elim
end
abbrev TG:=V->St->Hp->(St->Hp->Prop)->Prop
abbrev TGs:=List V->St->Hp->(St->Hp->Prop)->Prop
def PG(X:Cx)(a:Expr)(t:TG):Prop:=
 ∀(b:List (Addr×Obj)) (s:Shared) (e:St) (H:Hp) (v:V) (u:Value) (Q:St->Hp->Prop),Inv X b e H s->RelV v u->t v e H Q ->
  wpAny (model X.prog X.w) X.A (assign a X.env u) (λ_ f=>∃c d,Inv X b c d f/\Q c d) X.xe s
def CN(X:Cx)(ts:List Expr)(t:TGs):Prop:=
 ∀(a:List (Addr×Obj)) (s:Shared) (e:St) (H:Hp) (vs:List V) (c:List Value) (Q:St->Hp->Prop),Inv X a e H s->Vals vs c->t vs e H Q ->
  wpAny (model X.prog X.w) X.A (assignInOrder ((assignEach ts X.env).map (·.2)) c) (λ_ f=>∃b d,Inv X a b d f/\Q b d) X.xe s
abbrev Ad:=V->V->V->Hp->(Hp->Prop)->Prop
def PSet(X:Cx)(t:Ad):Prop:=
 ∀(a:List (Addr×Obj)) (s:Shared) (d:St) (H:Hp) (o i v:V) (b e u:Value) (Q:Hp->Prop),Inv X a d H s->RelV o b->RelV i e->RelV v u->t o i v H Q ->
  wpAny (model X.prog X.w) X.A (setItem b e u) (λ_ f=>∃c,Inv X a d c f/\Q c) X.xe s
abbrev TIp:=V->V->Hp->VK->Prop
def FM(X:Cx)(c:Operator)(t:TIp):Prop:=
 ∀(a:List (Addr×Obj)) (s:Shared) (b:St) (H:Hp) (x y:V) (v u:Value) (Q:VK),Inv X a b H s->RelV x v->RelV y u->t x y H Q ->
  wpAny (model X.prog X.w) X.A (inplaceOp c v u) (EP X a b Q) X.xe s
section
variable{X:Cx}{pos:Pos}
def lL(i:Nat):TG:=λv a H Q=>Q (a.set i (some v)) H
def j7(d:X.N.Nodup)(c:X.N[i]?=some x)(e:Loc X.env.scope x)(b:X.fn x=true\/X.env.scope.names.lookup x=some .local:=by first|exact .inl rfl|exact .inr rfl|assumption):PG X (.Name x pos) (lL i):=by intro a s j H v u Q I r h;exact wpAny_assign_Name (bY I d c e r (λg f=>⟨_,H,f,h⟩) b)
def gNil:TGs:=λb a H Q=>b=[]/\Q a H
def C8(t:TG)(u:TGs):TGs:=λb d H Q=>∃v r,b=v::r/\t v d H λa c=>u r a c Q
def oH:CN X [] gNil:=by intro a s b H d c Q I r h;obtain⟨e,h⟩:=h;subst e;cases r;exact assignInOrder_nil ⟨b,H,I,h⟩
def iq{e:Expr}{es:List Expr}(l:PG X e t)(g:CN X es u)
  (d:(assignEach (e::es) X.env).map (·.2)=assign e X.env::(assignEach es X.env).map (·.2):=by rfl):CN X (e::es) (C8 t u):=by
 intro a s o H q w Q I r h;obtain⟨v,p,f,h⟩:=h;subst f;cases r with
 |cons r i=>rw[d];refine assignInOrder_cons (thn (l a s o H _ _ _ I r h) λ_ k m=>?_);obtain⟨b,j,c,n⟩:=m;exact g a k b j _ _ Q c i n
def Ga(K:Waa)(n:Nat)(t:TGs):TG:=λv c H Q=>∃a b,v=.ref a/\SqT K H a b/\b.length=n/\t b c H Q
def sJ{k:Nat}(p:X.calm=true)(h:CN X es t)
  (x:(assignEach es X.env).length=n:=by rfl) (d:(assignEach es X.env).findIdx? (·.1)=none:=by rfl):PG X (.Tuple es k pos) (Ga X.K n t):=by
 intro c s i H v u Q I r f;obtain⟨a,y,m,l,z,f⟩:=f;subst m;cases r;obtain⟨q,g,w,C⟩:=I.tuple l;refine assign_Tuple_tuple (I.ok.hd p) w (by simp[x,<-z,g.length]) d λB A=>?_;have j:Inv X c i H { s with heap:=B }:=I.kept λb o e=>A b o (aao (Heap.lt_size e)) e;exact h c _ i H y _ Q j (by simpa using g) f
def Gb(f d:TE)(t:Ad):TG:=λv a H Q=>f a H λo c=>d a c λi e=>t o i v e λb=>Q a b
def sL{o i:Expr}{f g:TE}{t:Ad}(M:PE X o f)(D:PE X i g)(l:PSet X t)
  (q:∀v,assign (.Subscript o i pos) X.env v=(do
   let b <-holding [v] (eval o X.env)
   let c <-holding [v,b] (eval i X.env)
   standAt pos
   holding [v,b,c] (setItem b c v)
   release [v,b,c] []):=by intro _;rfl):PG X (.Subscript o i pos) (Gb f g t):=by
 intro a s e H v u Q I r h;rw[q];refine wpAny_bind (wpAny_holding (thn (M a s e H _ I h) λb C d=>?_));obtain⟨x,B,j,L,J⟩:=d;refine wpAny_bind (wpAny_holding (thn (D a C e B _ j J) λc k d=>?_));obtain⟨y,n,p,F,m⟩:=d;refine wpAny_bind (wpAny_standAt (wpAny_bind (wpAny_holding (thn (l a k e n x y v b c u _ p L F r m) λ_ N d=>?_))));obtain⟨A,w,z⟩:=d;exact wpAny_release ⟨e,A,w,z⟩
def sM(c:TE)(g:TG):TS:=λD a H=>c a H λx b=>g x a b D.nx
def nh{b e:Expr}{c:TE}{g:TG}(l:PE X e c)(j:PG X b g)(i:swapsWithSole [b] e pos.line X.env=pure false:=by rfl)(o:swappedStores [b] e X.env=pure none:=by rfl)
  (n:(assignEach [b] X.env).map (·.2)=[assign b X.env]:=by rfl):PS X (.Assign [b] e pos) (sM c g):=by
 intro a s d H D I h;refine wpAny_Assign_stores (thn (l a s d H _ I h) λv m p=>?_) i o;obtain⟨x,k,f,t,r⟩:=p;rw[n];exact thn (j a m d k x v _ f t r) λ_ u q=>q
def Ae{i:Nat}{x:Str}(f:X.N.Nodup)(m:X.N[i]?=some x)(j:Loc X.env.scope x)(k:PE X e te)(c:swapsWith e (some (.Name x pos')) pos.line X.env=pure false:=by rfl)(l:X.fn x=true\/X.env.scope.names.lookup x=some .local:=by first|exact .inl rfl|exact .inr rfl|assumption):
  PS X (.Assign [.Name x pos'] e pos) (sM te (lL i)):=by
 intro a s q H D I h;refine wpAny_Assign_Name (thn (k a s q H _ I h) λv t n=>?_) c;obtain⟨y,g,b,p,o⟩:=n;exact bY b f m j p (λr d=>⟨_,g,d,o⟩) l
def Gc(i j:Nat)(b:TA):TS:=λD a H=>b a H λc d=>∃v w,c=[v,w]/\D.nx ((a.set i (some v)).set j (some w)) d
def Af{i j:Nat}{x y:Str}{m l d}(Q:X.calm=true)(B:X.N.Nodup)(hi:X.N[i]?=some x)(hj:X.N[j]?=some y)(n:i≠j)
  (J:X.env.scope.names.lookup x=some .local) (z:X.env.scope.names.lookup y=some .local) (W:PA X [a,b] ta)
  (hw:swappedStores [.Tuple [.Name x px,.Name y py] m pt] (.Tuple [a,b] l d) X.env=pure (some [x,y]))
  (O:swapsWithSole [.Tuple [.Name x px,.Name y py] m pt] (.Tuple [a,b] l d) pos.line X.env=pure false:=by rfl):
  PS X (.Assign [.Tuple [.Name x px,.Name y py] m pt] (.Tuple [a,b] l d) pos) (Gc i j ta):=by
 intro c s L H D I h;rw[exec_Assign_arm];refine wpAny_bind (wpAny_standAt ?_);rw[O];refine wpAny_bind (wpAny_pure ?_);rw[if_neg (by decide)];refine wpAny_bind (Tuple_ (thn (W _ c s L H _ I h) λS k hZ=>?_));obtain⟨vs,F,M,r1,u⟩:=hZ;obtain⟨v,w,P,u⟩:=u;subst P;obtain⟨f,g,rfl,T,t⟩:∃f g,S=[f,g]/\RelV v f/\RelV w g:=by
  cases r1 with
  |cons p q=>
   cases q with
   |cons p' q'=>cases q';exact⟨_,_,rfl,p,p'⟩
 refine wpAny_newObj_type ?_ (by show 2<=sizeLine;decide);have U:Inv X c L F { k with heap:=k.heap.push { cls:=.type "tuple",data:=.seq [f,g].toArray } }:=M.kept λb o e=>Heap.get?_push_of_some _ e;rw[hw];refine wpAny_bind (wpAny_pure ?_);show wpAny (model X.prog X.w) X.A (do rule "assign.swapped-stores";let items <-unpackItems (.ref k.heap.objs.size) 2 none;assignInOrder [λv=>bindName X.env y v,λv=>bindName X.env x v] items.reverse;pure Flow.next) _ _ _;refine wpAny_bind (wpAny_rule (wpAny_bind (unpackItems_tuple (items:=#[f,g]) (I.ok.hd Q) (IsTup.new k.heap _) λh' r=>?_)));have Z:=U.kept (t':=k.toks) λb o e=>r b o (aao (Heap.lt_size e)) e;show wpAny _ _ (assignInOrder [λv=>bindName X.env y v,λv=>bindName X.env x v] [g,f] >>= λ_=>pure Flow.next) _ _ _;refine wpAny_bind (assignInOrder_cons (wpAny_bindName (bY Z B hj (.inl z) t (λs2 Y=>?_) (.inr z))));refine assignInOrder_cons (wpAny_bindName (bY Y B hi (.inl J) T (λs3 C=>assignInOrder_nil (wpAny_pure ?_)) (.inr J)));rw[abv _ _ (aaG n)]at C;exact⟨_,F,C,u⟩
def Gd(i:Nat)(e:TE)(c:TIp):TS:=λD a H=>∃x,a[i]?=some (some x)/\e a H λy b=>c x y b λz d=>D.nx (a.set i (some z)) d
def Ag{i:Nat}{x:Str}{pos':Pos}(P:X.N.Nodup)(q:X.N[i]?=some x)(n:Loc X.env.scope x)(T:PE X e te)(ho:FM X op ti)(Y:X.fn x=true\/X.env.scope.names.lookup x=some .local:=by first|exact .inl rfl|exact .inr rfl|assumption):
  PS X (.AugAssign (.Name x pos') op e pos) (Gd i te ti):=by
 intro a s t H D I h;obtain⟨v,F,h⟩:=h;obtain⟨m,Q,U⟩:=I.loc;have j:Vis X.env.scope x:=by rcases n with k|k;exact .inl k;exact .inr (.inl k)
 obtain⟨u,r,l⟩:=U i x v q F j;refine wpAny_AugAssign_Name ?_;have p:wpAny (model X.prog X.w) X.A (eval e X.env) (λw g=>wpAny (model X.prog X.w) X.A (inplaceOp op u w) (λr f=>wpAny (model X.prog X.w) X.A (storeName X.env x r) (λ_=>SP X a D .next) X.xe f) X.xe g) X.xe s:=by refine thn (T a s t H _ I h) λw W o=>?_;obtain⟨y,S,B,r1,q1⟩:=o;refine thn (ho a W t S v y u w _ B r r1 q1) λz s2 o=>?_;obtain⟨zv,J,M,r2,C⟩:=o;exact bY M P q n r2 (λs3 O=>⟨_,J,O,C⟩) Y
 rcases l with ⟨b,Z⟩|⟨b,c,L,d⟩
 ·exact wpAny_loadName_local I.ok.kind b Q Z p
 ·rcases b with b|b
  ·exact wpAny_loadName_cell I.ok.kind b L d p
  ·rcases n with k|k
   ·have:X.env.scope.names.lookup x=some .free:=b;rw[k]at this;cases this
   ·have:X.env.scope.names.lookup x=some .free:=b;rw[k]at this;cases this
def Ge(f:Int->Int->Int):TIp:=λx y H Q=>∃i j,x=.int i/\y=.int j/\Q (.int (f i j)) H
def Ah:FM X .Add (Ge λi j=>i+j):=by intro a s g H x y v u Q I e d h;obtain⟨i,j,b,c,q⟩:=h;subst b;subst c;obtain⟨t,rfl⟩:=e;obtain⟨f,rfl⟩:=d;exact iadd_int ⟨.int _,H,I.tok _,⟨_,rfl⟩,q⟩
def Ai:FM X .Sub (Ge λi j=>i-j):=by intro a s g H x y v u Q I e d h;obtain⟨i,j,b,c,q⟩:=h;subst b;subst c;obtain⟨t,rfl⟩:=e;obtain⟨f,rfl⟩:=d;exact isub_int ⟨.int _,H,I.tok _,⟨_,rfl⟩,q⟩
end
section
variable{X:Cx}{pos:Pos}
def Aj(c:TT)(h:TS):TS:=λD a H=>∃W:Nat->St->Hp->Prop,(∃m,W m a H)/\∀m a H,W m a H ->
 c a H λb f=>if b=true then ∃N:St->Hp->Prop,(∀d g,N d g->∃e,e<m/\W e d g)/\h { D with nx:=N,ct:=N,bk:=D.nx } a f else D.nx a f
def sN{c:Expr}{g:List Stmt}(z:PassesOwn (model X.prog X.w) X.A X.env X.xe)(P:PT X c tc)(O:PSs X g tb):PS X (.While c g [] pos) (Aj tc tb):=by
 intro d s Y H D I h;obtain⟨W,⟨M,T⟩,i⟩:=h;refine wpAny_While (codeAny_whileLoop (λn Q=>∃k C,Inv X d k C Q/\W n k C) ?_ M ⟨Y,H,I,T⟩);rintro n S ⟨e,B,F,L⟩;refine wpAny_passesOwn z (thn (P d S e B _ F (i n e B L)) λb J U=>?_);obtain⟨u,x,l⟩:=U;cases b with
 |true=>
  obtain⟨N,y,l⟩:=l;rw[if_pos rfl];refine wpAny_passesOwn z (thn (O d J e u _ x l) λf Z m=>?_);cases f with
  |next=>obtain⟨a,j,p,r⟩:=m;obtain⟨o,q,t⟩:=y a j r;exact⟨o,q,a,j,p,t⟩
  |cont=>obtain⟨a,j,p,r⟩:=m;obtain⟨o,q,t⟩:=y a j r;exact⟨o,q,a,j,p,t⟩
  |brk=>exact m
  |ret v=>exact m
 |false=>rw[if_neg aaf];exact wpAny_execs_nil ⟨e,u,x,l⟩
end
structure It where
 go:Nat->Hp->Prop
 yld:Nat->Hp->V->Hp->Prop
 stop:Nat->Hp->Prop
def FpOk(X:Cx)(a:List (Addr×Obj))(H:Hp)(b:Addr):Prop:=
 H b=none/\b≠X.env.locals/\b ∉ X.fs/\(b∈X.ex\/X.s₀.heap.objs.size<=b)/\(∀x c,X.env.cells.lookup x=some c->c≠b)/\∀p∈X.pn++a,p.1≠b
def Inv.r3(I:Inv X pins σ H s)(a:s.heap.objs.size<=b)(d:H' b=none):FpOk X pins H' b:=by
 refine⟨d,aa4 (aat I.lt a),I.nofs a,.inr (aan I.sz a),λx c e z=>?_,λp f z=>?_⟩
 ·obtain⟨v,q⟩:=I.cell x c e;exact absurd (aat q.lt (by rw[z];exact a)) (aa3 _)
 ·exact absurd (aat (Heap.lt_size (I.pin p f).1) (by rw[z];exact a)) (aa3 _)
structure Turn (P:Program)(w:World)(K:Waa)(tg:Expr)(J:It)(fp:List Addr)(it:Addr)(tn:Nat->Heap->Prop):Prop where
 mem:it∈fp
 obj:∀i h,tn i h->∀b∈fp,∃o,h.get? b=some o/\∀v,o.data≠.cell v
 keep:∀i h h',tn i h->(∀b∈fp,∀o,h.get? b=some o->h'.get? b=some o)->tn i h'
 item:∀(X:Cx),X.prog=P->X.w=w->X.K=K->X.calm=true->∀(i:Nat) (pins:List (Addr×Obj)) (s:Shared) (σ:St) (H:Hp) (E:Value->Shared->Prop),Inv X pins σ H s->(∀b∈fp,FpOk X pins H b)->tn i s.heap->J.go i H ->
  wpAny (model P w) X.A (pyNext (.ref it)) (λr s1=>∃u,r=some u /\
   wpAny (model P w) X.A (letOwnedTupleGo tg (.ref it) u) (λ_ s2=>∃x H',Inv X pins σ H' s2/\RelV x u/\J.yld i H x H'/\tn (i+1) s2.heap/\∀b∈fp,H' b=none) E s1) E s
 done:∀(X:Cx),X.prog=P->X.w=w->X.K=K->X.calm=true->∀(i:Nat) (pins:List (Addr×Obj)) (s:Shared) (σ:St) (H:Hp) (E:Value->Shared->Prop),Inv X pins σ H s->(∀b∈fp,FpOk X pins H b)->tn i s.heap->J.stop i H ->
  wpAny (model P w) X.A (pyNext (.ref it)) (λr s1=>r=none/\Inv X pins σ H s1) E s
 self:∀(A:Around) (i:Nat) (s:Shared) (Q:Value->Shared->Prop) (E:Value->Shared->Prop),tn i s.heap->Q (.ref it) s->wpAny (model P w) A (pyIter (.ref it)) Q E s
abbrev TI:=St->Hp->(It->Hp->Prop)->Prop
def HF(X:Cx)(a:List (Addr×Obj))(σ:St)(i:Expr)(R:It->Hp->Prop)(c:Value)(e:Shared):Prop:=
 ∃(h:Addr) (g:List Addr) (f:Nat->Heap->Prop) (J:It) (d:Hp),c=.ref h/\Inv X a σ d e/\Turn X.prog X.w X.K i J g h f/\f 0 e.heap/\(∀b∈g,FpOk X a d b)/\R J d
def PI(X:Cx)(d b:Expr)(f:TI):Prop:=
 ∀(a:List (Addr×Obj)) (s:Shared) (c:St) (H:Hp) (R:It->Hp->Prop),Inv X a c H s->f c H R ->
  wpAny (model X.prog X.w) X.A (eval b X.env) (λv e=>wpAny (model X.prog X.w) X.A (pyIter v) (HF X a c d R) X.xe e) X.xe s
def sO(e:s.heap.get? it=some o)(d:o.cls=.type n)(c:o.data=.fields vs)
  (b:["enumerate","zip","dict_itemiterator","dict_reverseitemiterator","odict_iterator","itertools.zip_longest","itertools.pairwise"].contains n=false) (a:Q () s):wpAny M A (letOwnedTupleGo tg (.ref it) u) Q E s:=by
 unfold letOwnedTupleGo;cases tg<;>first
  |exact wpAny_pure a
  | (cases u<;>first
    |exact wpAny_pure a
    | (refine wpAny_bind (wpAny_load e ?_)
       rw[d,c];show wpAny M A (if (["enumerate","zip","dict_itemiterator","dict_reverseitemiterator","odict_iterator","itertools.zip_longest","itertools.pairwise"].contains n&&vs[0]?==some (rawInt _))=true then _ else _) Q E s;rw[if_neg (by intro h;rw[b,abR]at h;cases h)];exact wpAny_pure a))
def FN(K:Waa)(a:Addr):It:=
 ⟨λi H=>∃b x,SqL K H a b/\b[i]?=some x,λi H x c=>c=H/\∀b,SqL K H a b->b[i]?=some x,λi H=>∃b,SqL K H a b/\b.length<=i⟩
def Gf(K:Waa)(a:Addr):It:=
 ⟨λi H=>∃b x,SqT K H a b/\b[i]?=some x,λi H x c=>c=H/\∀b,SqT K H a b->b[i]?=some x,λi H=>∃b,SqT K H a b/\b.length<=i⟩
def FO(lo:Int)(n:Nat):It:=⟨λi _=>i<n,λi H x a=>a=H/\x=.int (lo+i),λi _=>n<=i⟩
def qZ{K:Waa}(a it:Addr):Turn P w K tg (FN K a) [it] it (λi h=>h.IsListIter it a i) where
 mem:=by simp
 obj:=λi h f b j=>by
  have e:b=it:=by simpa using j
  subst e;obtain⟨o,e,c,d⟩:=f;exact⟨o,e,λv z=>by rw[d]at z;cases z⟩
 keep:=λi h C f k=>f.at λo e=>k it (by simp) o e
 item:=by intro X D M L O i g s Q H E I n f y;subst D M L;obtain⟨Y,x,m,B⟩:=y;obtain⟨q,r,p,U⟩:=I.list m;obtain⟨u,Z,ru⟩:=r.get B;obtain⟨N,J,f2,F,A,t⟩:=n it (by simp);refine wpAny_pyNext_list_item f p.isList (by simpa using Z) λC l T=>?_;have S:Inv X g Q H { s with heap:=C }:=I.turned (λb o j e=>(T.2 b j).trans e) N J F A t;obtain⟨o,e,c,d⟩:=id l;exact⟨u,rfl,sO e c d (by decide) ⟨x,H,S,ru,⟨rfl,λys W=>by rw[I.rx W m];exact B⟩,l,λb j=>(n b j).1⟩⟩
 done:=by
  intro X D M L O i g s Q H E I n f y;subst D M L;obtain⟨Y,m,B⟩:=y;obtain⟨q,r,p,U⟩:=I.list m;obtain⟨N,J,f2,F,A,t⟩:=n it (by simp);have hl:=r.length;exact wpAny_pyNext_list_end (I.ok.hd O) f p.isList (by simp;omega) λC eb=>⟨rfl,I.turned (λb o j e=>eb b o j e) N J F A t⟩
 self:=λ_ _ _ _ _ f h=>wpAny_pyIter_listiter f h
def ni{K:Waa}(a it:Addr):Turn P w K tg (Gf K a) [it] it (λi h=>h.IsTupleIter it a i) where
 mem:=by simp
 obj:=λi h f b j=>by
  have e:b=it:=by simpa using j
  subst e;obtain⟨o,e,c,d⟩:=f;exact⟨o,e,λv z=>by rw[d]at z;cases z⟩
 keep:=λi h C f k=>f.at λo e=>k it (by simp) o e
 item:=by intro X D M L O i g s Q H E I q f y;subst D M L;obtain⟨Y,x,n,B⟩:=y;obtain⟨l,r,p,U⟩:=I.tuple n;obtain⟨u,Z,ru⟩:=r.get B;obtain⟨N,J,f2,F,A,t⟩:=q it (by simp);refine wpAny_pyNext_tuple_item f (show s.heap.IsTuple a l.toArray from p) (by simpa using Z) λC m T=>?_;have S:Inv X g Q H { s with heap:=C }:=I.turned (λb o j e=>(T.2 b j).trans e) N J F A t;obtain⟨o,e,c,d⟩:=id m;exact⟨u,rfl,sO e c d (by decide) ⟨x,H,S,ru,⟨rfl,λys W=>by rw[I.u0 W n];exact B⟩,m,λb j=>(q b j).1⟩⟩
 done:=by
  intro X D M L O i g s Q H E I q f y;subst D M L;obtain⟨Y,n,B⟩:=y;obtain⟨l,r,p,U⟩:=I.tuple n;obtain⟨N,J,f2,F,A,t⟩:=q it (by simp);have hl:=r.length;exact wpAny_pyNext_tuple_end (I.ok.hd O) f (show s.heap.IsTuple a l.toArray from p) (by simp;omega) λC eb=>⟨rfl,I.turned (λb o j e=>eb b o j e) N J F A t⟩
 self:=λ_ _ _ _ _ f h=>wpAny_pyIter_tupleiter f h
def nj{K:Waa}(it:Addr)(lo:Int)(n:Nat):Turn P w K tg (FO lo n) [it] it (λi h=>IsRangeIter h it (lo+(i:Nat)*1) ((n:Int)-(i:Nat)) 1) where
 mem:=by simp
 obj:=λi h a b d=>by
  have e:b=it:=by simpa using d
  subst e;exact⟨_,a,λv z=>by
   have J:Data.fields _=Data.cell v:=z;cases J⟩
 keep:=λi h q a k=>k it (by simp) _ a
 item:=by intro X r A y j i c s C H E I g a m;subst r A y;obtain⟨B,x,M,u,p,l⟩:=g it (by simp);have W:=Walks.range (prog:=X.prog) (w:=X.w) (I.ok.hd j) it lo 1 n;refine W.item i s _ _ m a λv q F O f L=>?_;obtain⟨t,rfl⟩:=O;have D:Inv X c C H { s with heap:=q,toks:=F }:=I.turned (λb o d e=>L b o (by simpa using d) e) B x u p l;refine⟨_,rfl,sO f rfl rfl (by decide) ⟨.int (lo+i),H,D,⟨t,?_⟩,⟨rfl,rfl⟩,f,λb d=>(g b d).1⟩⟩;rw[Int.mul_one]
 done:=by
  intro X r A y j i c s C H E I g a m;subst r A y;obtain⟨B,x,M,u,p,l⟩:=g it (by simp);exact wpAny_pyNext_range_end (I.ok.hd j) a (by have:n<=i:=m;omega) λq N=>⟨rfl,I.turned (λb o d e=>N b o d e) B x u p l⟩
 self:=λ_ _ _ _ _ a h=>wpAny_pyIter_rangeiter a h
end
section
section
variable{X:Cx}{tg:Expr}
def C9(K:Waa)(d:TE):TI:=λe H R=>d e H λx b=>∃a,x=.ref a/\(∃c,SqL K b a c)/\R (FN K a) b
def Gg(K:Waa)(d:TE):TI:=λe H R=>d e H λx b=>∃a,x=.ref a/\(∃c,SqT K b a c)/\R (Gf K a) b
def oI{l:Expr}{g:TE}(n:PE X l g):PI X tg l (C9 X.K g):=by
 intro c s w H R I h;refine thn (n c s w H _ I h) λv f r=>?_;obtain⟨x,m,d,u,t⟩:=r;obtain⟨a,e,⟨A,i⟩,q⟩:=t;subst e;cases u;obtain⟨k,z,p,y⟩:=d.list i;refine wpAny_pyIter_list p.isList ?_;refine⟨f.heap.objs.size,[f.heap.objs.size],_,_,m,rfl,d.kept (t':=f.toks) λb o e=>Heap.get?_push_of_some _ e,qZ a _,⟨_,Heap.get?_push_size _ rfl,rfl,rfl⟩,λb j=>?_,q⟩;have e:b=f.heap.objs.size:=by simpa using j
 subst e;exact d.r3 (aag _) (d.hok.fresh (aag _))
def Ak{l:Expr}{i:TE}(n:PE X l i):PI X tg l (Gg X.K i):=by
 intro c s w H R I h;refine thn (n c s w H _ I h) λv d r=>?_;obtain⟨x,m,f,u,t⟩:=r;obtain⟨a,e,⟨A,j⟩,q⟩:=t;subst e;cases u;obtain⟨g,z,p,y⟩:=f.tuple j;refine wpAny_pyIter_tuple (show d.heap.IsTuple a g.toArray from p) ?_;refine⟨d.heap.objs.size,[d.heap.objs.size],_,_,m,rfl,f.kept (t':=d.toks) λb o e=>Heap.get?_push_of_some _ e,ni a _,⟨_,Heap.get?_push_size _ rfl,rfl,rfl⟩,λb k=>?_,q⟩;have e:b=d.heap.objs.size:=by simpa using k
 subst e;exact f.r3 (aag _) (f.hok.fresh (aag _))
def sR{R:It->Hp->Prop}{a c:Int}{t u v:Tok}{f:Nat}(I:Inv X pins σ H s)(m:-(2^62)<=a)(k:a<2^62)(g:-(2^62)<=c)(l:c<2^62)
  (q:R (FO a (c-a).toNat) H):wpAny (model X.prog X.w) X.A (pyIter (.ref s.heap.objs.size)) (HF X pins σ tg R) E { s with heap:=s.heap.push { cls:=.type "range",data:=.fields #[.int a t,.int c u,.int 1 v] },toks:=f }:=by
 refine wpAny_pyIter_range (IsRange.new ..) (small_one m k g l) ?_;have d:Inv X pins σ H { s with heap:=s.heap.push { cls:=.type "range",data:=.fields #[.int a t,.int c u,.int 1 v] },toks:=f }:=I.kept λb o e=>Heap.get?_push_of_some _ e;refine⟨(s.heap.push { cls:=.type "range",data:=.fields #[.int a t,.int c u,.int 1 v] }).objs.size,[(s.heap.push { cls:=.type "range",data:=.fields #[.int a t,.int c u,.int 1 v] }).objs.size],_,_,H,rfl,
  d.kept λb o e=>Heap.get?_push_of_some _ e,nj _ a (c-a).toNat,?_,λb j=>?_,q⟩
 ·have h:a+((0:Nat):Int)*1=a:=by simp
  have i:(((c-a).toNat:Nat):Int)-((0:Nat):Int)=Builtin.Range.rangeSize a c 1:=by rw[rangeSize_one];split<;>omega
  show IsRangeIter _ _ (a+((0:Nat):Int)*1) ((((c-a).toNat:Nat):Int)-((0:Nat):Int)) 1;rw[h,i];exact Heap.get?_push_size _ rfl
 ·have e:b=(s.heap.push { cls:=.type "range",data:=.fields #[.int a t,.int c u,.int 1 v] }).objs.size:=by simpa using j
  subst e;exact d.r3 (aag _) (d.hok.fresh (aag _))
def Da(a:TA):TI:=λd H R=>a d H λb c=>∃j:Int,b=[.int j]/\-(2^62)<=j/\j<2^62/\R (FO 0 j.toNat) c
def rg{a:Expr}{d:TA}{p pos:Pos} (k:Gl X "range") (n:X.mg "range"=none) (l:PA X [a] d) (g:starEach [a] X.env=[(false,eval a X.env)]:=by rfl):PI X tg (.Call (.Name "range" p) [a] [] pos) (Da d):=by
 intro b s v H R I h;refine Call_ (f9 I k n boot_range (abw (thn (l pos b s v H _ I h) λx z o=>?_) g rfl));obtain⟨w,y,f,u,c⟩:=o;obtain⟨j,e,c,i,q⟩:=c;subst e;cases u with
 |cons r m=>cases m;obtain⟨t,rfl⟩:=r;exact call_range_1 (sR f (by omega) (by omega) c i (by simpa using q))
def Gh(j:TI)(g:TG)(k:TS):TS:=λD a H=>j a H λJ f=>∃W:Nat->Nat->St->Hp->Prop,(∃m,W 0 m a f)/\∀i m a H,W i m a H ->
 (J.stop i H/\D.nx a H)\/(J.go i H/\∃N:St->Hp->Prop,(∀b c,N b c->∃e,e<m/\W (i+1) e b c)/\∀x c,J.yld i H x c->g x a c λd h=>k { D with nx:=N,ct:=N,bk:=D.nx } d h)
def pinsAt(a:List Addr)(h:Heap):List (Addr×Obj):=a.filterMap λb=>(h.get? b).map λo=>(b,o)
def bN(a:b∈fp)(e:h.get? b=some o):(b,o)∈pinsAt fp h:=List.mem_filterMap.mpr ⟨b,a,by rw[e];rfl⟩
def rh(c:p∈pinsAt fp h):p.1∈fp/\h.get? p.1=some p.2:=by
 obtain⟨b,d,e⟩:=List.mem_filterMap.mp c;cases q:h.get? b with
 |none=>rw[q]at e;cases e
 |some o=>rw[q]at e;have a:(b,o)=p:=aaD e;subst a;exact⟨d,q⟩
def Inv.pinned(I:Inv X pins σ H s)(j:∀b∈fp,FpOk X pins H b)(k:∀b∈fp,∃o,s.heap.get? b=some o/\∀v,o.data≠.cell v):Inv X (pins++pinsAt fp s.heap) σ H s:=
 I.ub λp h=>(aak.mp h).elim (λz=>I.pin p (aac _ z)) λz=>by obtain⟨c,e⟩:=rh z;obtain⟨i,f,g,_⟩:=j p.1 c;obtain⟨o,a,d⟩:=k p.1 c;rw[e]at a;cases a;exact⟨e,i,f,g,d⟩
def Inv.ez(I:Inv X (pins++pl) σ H s):Inv X pins σ H s:=I.ub λp a=>I.pin p (aac _ (aae _ a))
def Am{j:Expr}{C:List Stmt}{pos:Pos}(Y:PassesOwn (model X.prog X.w) X.A X.env X.xe)(hc:X.calm=true)(hi:PI X tg j wi)(hg:PG X tg g)(k:PSs X C tb)
  (hs:∀x,foldedSetIterable j X.env x=pure x:=by intro _;rfl):PS X (.For tg j C [] pos) (Gh wi g tb):=by
 intro a s σ H D I h;refine wpAny_For (thn (hi a s σ H _ I h) λv s1 h1=>thn h1 λa4 s2 h2=>?_) hs;obtain⟨it,S,tn,J,H2,e,I2,T,a2,f2,W,⟨m0,w0⟩,Q⟩:=h2;subst e;have l:∀{B:Hp},(∀b∈S,B b=none)->∀b∈S,FpOk X a B b:=λhn b k=>⟨hn b k,(f2 b k).2⟩
 refine codeAny_forLoop_any (λn s'=>∃i p B,Inv X a p B s'/\tn i s'.heap/\(∀b∈S,B b=none)/\W i n p B) ?_ m0 ⟨0,σ,H2,I2,a2,λb k=>(f2 b k).1,w0⟩;rintro n s3 ⟨i,z,H3,I3,P,U,w3⟩;rcases Q i n z H3 w3 with ⟨O,qn⟩|⟨go,N,hN,Z⟩
 ·refine wpAny_passesOwn Y (thn (T.done X rfl rfl rfl hc i a s3 z H3 X.xe I3 (l U) P O) λr s4 L=>?_);obtain⟨hr,I4⟩:=L;subst hr;exact wpAny_execs_nil ⟨z,H3,I4,qn⟩
 ·refine wpAny_passesOwn Y (thn (T.item X rfl rfl rfl hc i a s3 z H3 X.xe I3 (l U) P go) λr s4 L=>?_);obtain⟨u,hr,h4⟩:=L;subst hr;refine wpAny_passesOwn Y (thn h4 λ_ s5 L=>?_);obtain⟨x,H5,I5,r5,y5,M,a3⟩:=L;have a0:=I5.pinned (l a3) (T.obj _ _ M);refine wpAny_passesOwn Y (thn (hg _ s5 z H5 x u _ a0 r5 (Z x H5 y5)) λ_ s6 L=>?_);obtain⟨a1,H6,I6,q6⟩:=L;refine wpAny_passesOwn Y (thn (k _ s6 a1 H6 _ I6 q6) λf s7 F=>?_);have y:∀{c:St}{q:Hp},Inv X (a++pinsAt S s5.heap) c q s7->N c q->∃m,m<n/\∃i p B,Inv X a p B s7/\tn i s7.heap/\(∀b∈S,B b=none)/\W i m p B:=λ{c q} t n7=>by obtain⟨m',hm,w7⟩:=hN c q n7;refine⟨m',hm,i+1,c,q,t.ez,T.keep _ _ _ M λb k o e=>(t.pin (b,o) (aac _ (aac _ (bN k e)))).1,λb k=>?_,w7⟩;obtain⟨o,e,d⟩:=T.obj _ _ M b k;exact(t.pin (b,o) (aac _ (aac _ (bN k e)))).2.1
  cases f with
  |next=>obtain⟨c,q,t,n7⟩:=F;exact y t n7
  |cont=>obtain⟨c,q,t,n7⟩:=F;exact y t n7
  |brk=>obtain⟨c,q,t,F⟩:=F;exact⟨c,q,t.ez,F⟩
  |ret v=>obtain⟨x7,c,q,t,r7,F⟩:=F;exact⟨x7,c,q,t.ez,r7,F⟩
end
end
section
abbrev R2:=V->V->Hp->VK->Prop
def OpR(X:Cx)(f:Value->Value->Sem Value)(r:R2):Prop:=
 ∀(a:List (Addr×Obj)) (s:Shared) (b:St) (H:Hp) (x y:V) (v u:Value) (Q:VK),Inv X a b H s->RelV x v->RelV y u->r x y H Q ->
  wpAny (model X.prog X.w) X.A (f v u) (EP X a b Q) X.xe s
def Gi(X:Cx)(f:Value->Sem Value)(r:V->Hp->VK->Prop):Prop:=
 ∀(a:List (Addr×Obj)) (s:Shared) (b:St) (H:Hp) (x:V) (v:Value) (Q:VK),Inv X a b H s->RelV x v->r x H Q ->
  wpAny (model X.prog X.w) X.A (f v) (EP X a b Q) X.xe s
def bZ(X:Cx)(f:Value)(r:List V->Hp->VK->Prop):Prop:=
 ∀(a:List (Addr×Obj)) (s:Shared) (d:St) (H:Hp) (b:List V) (c:List Value) (Q:VK),Inv X a d H s->Vals b c->r b H Q ->
  wpAny (model X.prog X.w) X.A (call f c) (EP X a d Q) X.xe s
def Gj(X:Cx)(r:V->Hp->(Bool->Hp->Prop)->Prop):Prop:=
 ∀(a:List (Addr×Obj)) (s:Shared) (b:St) (H:Hp) (x:V) (v:Value) (Q:Bool->Hp->Prop),Inv X a b H s->RelV x v->r x H Q ->
  wpAny (model X.prog X.w) X.A (truthy v) (TP X a b Q) X.xe s
def y6(r:R2)(b e:TE):TE:=λa H Q=>b a H λx c=>e a c λy d=>r x y d Q
def Ik(r:V->Hp->VK->Prop)(a:TE):TE:=λc H Q=>a c H λx b=>r x b Q
def rI(C:Int->Int->Prop)(g:Int->Int->V):R2:=λx y H Q=>∃i j,x=.int i/\y=.int j/\C i j/\Q (g i j) H
def wC(g:Int->Int->V):R2:=λx y H Q=>∃i j,x=.int i/\y=.int j/\Q (g i j) H
def rU(g:Int->V):V->Hp->VK->Prop:=λx H Q=>∃i,x=.int i/\Q (g i) H
section
variable{X:Cx}{a b c:Expr}{ta tb tc:TE}{pos:Pos}
def An(q:PE X a ta)(o:PE X b tb){d:List (Addr×Obj)}{s:Shared}{R:V->V->Hp->Prop}(I:Inv X d σ H s)
  (h:ta σ H λx k=>tb σ k λy e=>R x y e) {f:Value->Value->Sem Value}
  (t:∀v u j x y e,Inv X d σ e j->RelV x v->RelV y u->R x y e->wpAny (model X.prog X.w) X.A (f v u) Q X.xe j):
  wpAny (model X.prog X.w) X.A (eval a X.env) (λv g=>wpAny (model X.prog X.w) X.A (eval b X.env) (λu i=>wpAny (model X.prog X.w) X.A (f v u) Q X.xe i) X.xe g) X.xe s:=by
 refine thn (q d s σ H _ I h) λv r l=>?_;obtain⟨x,k,m,C,B⟩:=l;refine thn (o d r σ k _ m B) λu j l=>?_;obtain⟨y,e,p,z,n⟩:=l;exact t v u j x y e p C z n
def y8(n:OpR X (binaryOp op) r)(k:PE X a ta)(i:PE X b tb):PE X (.BinOp a op b pos) (y6 r ta tb):=by intro d s m H Q I h;exact wpAny_BinOp (An k i I h λv u e x y g j f l q=>n d e m g x y v u Q j f l q)
def y9{f:UnaryOp}(n:Gi X (unaryOp f) r)(i:PE X a ta):PE X (.UnaryOp f a pos) (Ik r ta):=by intro d s e H Q I h;exact UnaryOp_ (thn (i d s e H _ I h) λv m ⟨x,j,g,l,k⟩=>n d m e j x v Q g l k)
def FP{f:Value->Value->Sem Value}{g:Int->Int->Int}
  (rule:∀(i j:Int) (t u:Tok) (s:Shared) (Q:Value->Shared->Prop) (E:Value->Shared->Prop),C i j->Q (.int (g i j) s.toks) { s with toks:=s.toks+1 }->wpAny (model X.prog X.w) X.A (f (.int i t) (.int j u)) Q E s):
  OpR X f (rI C λi j=>.int (g i j)):=by
 intro d s n H x y v u Q I e m h;obtain⟨i,j,rfl,rfl,l,q⟩:=h;obtain⟨t,rfl⟩:=e;obtain⟨k,rfl⟩:=m;exact rule i j t k s _ _ l ⟨.int (g i j),H,I.tok _,⟨_,rfl⟩,q⟩
def Dc{f:Value->Value->Sem Value}{g:Int->Int->Int}
  (rule:∀(i j:Int) (t u:Tok) (s:Shared) (Q:Value->Shared->Prop) (E:Value->Shared->Prop),Q (.int (g i j) s.toks) { s with toks:=s.toks+1 }->wpAny (model X.prog X.w) X.A (f (.int i t) (.int j u)) Q E s):
  OpR X f (wC λi j=>.int (g i j)):=by
 intro d s m H x y v u Q I e l h;obtain⟨i,j,rfl,rfl,q⟩:=h;obtain⟨t,rfl⟩:=e;obtain⟨k,rfl⟩:=l;exact rule i j t k s _ _ ⟨.int (g i j),H,I.tok _,⟨_,rfl⟩,q⟩
def wL{g:Int->Int->Bool}
  (rule:∀(i j:Int) (t u:Tok) (s:Shared) (Q:Value->Shared->Prop) (E:Value->Shared->Prop),Q (.bool (g i j)) s->wpAny (model X.prog X.w) X.A (f (.int i t) (.int j u)) Q E s):
  OpR X f (wC λi j=>.bl (g i j)):=by
 intro d s m H x y v u Q I e l h;obtain⟨i,j,rfl,rfl,q⟩:=h;obtain⟨t,rfl⟩:=e;obtain⟨k,rfl⟩:=l;exact rule i j t k s _ _ ⟨.bl (g i j),H,I,rfl,q⟩
def Gk(i j:Int):Prop:=0<j/\j<1073741824
def Gm(i j:Int):Prop:=0<=j/\j<=1000000/\i.natAbs<2^64
def CMul(i j:Int):Prop:=(-(2^64)<i/\i<2^64)\/(-(2^64)<j/\j<2^64)
def CMul.ok{i j:Int}(h:CMul i j):IntMulOk i j:=by
 rcases h with ⟨e,d⟩|⟨e,d⟩
 ·exact .of_left (intBits_le_64 e d)
 ·exact .of_right (intBits_le_64 e d)
def Ao:OpR X (binaryOp .Add) (wC λi j=>.int (i+j)):=Dc λ_ _ _ _ _ _ _ q=>add_int q
def Ap:OpR X (binaryOp .Sub) (wC λi j=>.int (i-j)):=Dc λ_ _ _ _ _ _ _ q=>sub_int q
def Aq:OpR X (binaryOp .Mult) (rI CMul λi j=>.int (i*j)):=FP λ_ _ _ _ _ _ _ d q=>mul_int q d.ok
def wM:OpR X (binaryOp .FloorDiv) (rI Gk λi j=>.int (i/j)):=FP λi j _ _ _ _ _ d q=>by have f:(0:Int)<j:=d.1;have e:j<1073741824:=d.2;exact floordiv_int (by omega) (by rw[Int.fdiv_eq_ediv_of_nonneg i (by omega)];exact q) (.inl (PyProof.noPylong_small (by omega)))
def Ar:OpR X (binaryOp .Mod) (rI (λ_ j=>0<j) λi j=>.int (i%j)):=FP λi j _ _ _ _ _ d q=>by have e:(0:Int)<j:=d;exact mod_int' (by omega) (by rw[Int.fmod_eq_emod_of_nonneg i (by omega)];exact q)
def As:OpR X (binaryOp .Pow) (rI Gm λi j=>.int (i^j.toNat)):=FP λ_ _ _ _ _ _ _ d q=>pow_int_small d.1 d.2.1 d.2.2 q
def Im{f:Value->Sem Value}{g:Int->Int}
  (rule:∀(i:Int) (t:Tok) (s:Shared) (Q:Value->Shared->Prop) (E:Value->Shared->Prop),Q (.int (g i) s.toks) { s with toks:=s.toks+1 }->wpAny (model X.prog X.w) X.A (f (.int i t)) Q E s):
  Gi X f (rU λi=>.int (g i)):=by
 intro d s j H x v Q I e h;obtain⟨i,rfl,q⟩:=h;obtain⟨t,rfl⟩:=e;exact rule i t s _ _ ⟨.int (g i),H,I.tok _,⟨_,rfl⟩,q⟩
def sS:Gi X (unaryOp .USub) (rU λi=>.int (-i)):=Im λ_ _ _ _ _ q=>neg_int q
end
def Au:V->V->Bool
 |.non,.non=>true|.non,.int _=>true|.int _,.non=>true|.non,.bl _=>true|.bl _,.non=>true|.non,.str _=>true|.str _,.non=>true
 |.int _,.int _=>true|.bl _,.bl _=>true|.str _,.str _=>true|.byt _,.byt _=>true
 |.int _,.str _=>true|.str _,.int _=>true|.bl _,.str _=>true|.str _,.bl _=>true
 |_,_=>false
def rEq:R2:=λx y H Q=>Au x y=true/\Q (.bl (decide (x=y))) H
def rNe:R2:=λx y H Q=>Au x y=true/\Q (.bl (!decide (x=y))) H
def oJ:decide (V.int i=V.int j)=(i==j):=by rw[abj];simp
def sU:decide (V.bl i=V.bl j)=(i==j):=by rw[abj];simp
def oK:decide (V.str i=V.str j)=(i==j):=by rw[abj];simp
def oM:decide (V.byt i=V.byt j)=(i.toList==j.toList):=by rw[abj];cases i;cases j;simp
section
variable{X:Cx}{a b c:Expr}{ta tb tc:TE}{pos:Pos}
def aD(I:Inv X pins σ H s)(q:Q (.bl k) H)(e:k=k'):EP X pins σ Q (.bool k') s:=by subst e;exact⟨.bl k,H,I,rfl,q⟩
def op_eq:OpR X (compareOp .Eq) rEq:=by
 intro k s l H x y v u Q I g d h;obtain⟨f,q⟩:=h;cases x with
 |non=>
  cases g;cases y with
  |non=>cases d;exact PySem.EqNone.eq_none_none (aD I q (by simp))
  |bl j=>cases d;exact PySem.EqNone.eq_none_bool (aD I q (by simp))
  |int j=>obtain⟨e,rfl⟩:=d;exact PySem.EqNone.eq_none_int (aD I q (by simp))
  |str j=>obtain⟨e,rfl⟩:=d;exact PySem.EqNone.eq_none_str (aD I q (by simp))
  |_=>exact absurd (show false=true from f) aaf
 |bl i=>
  cases g;cases y with
  |non=>cases d;exact PySem.EqNone.eq_bool_none (aD I q (by simp))
  |bl j=>cases d;exact eq_bool (aD I q sU)
  |str j=>obtain⟨e,rfl⟩:=d;exact PySem.EqMixed.eq_bool_str (aD I q (by simp))
  |_=>exact absurd (show false=true from f) aaf
 |int i=>
  obtain⟨t,rfl⟩:=g;cases y with
  |non=>cases d;exact PySem.EqNone.eq_int_none (aD I q (by simp))
  |int j=>obtain⟨e,rfl⟩:=d;exact eq_int (aD I q oJ)
  |str j=>obtain⟨e,rfl⟩:=d;exact PySem.EqMixed.eq_int_str (aD I q (by simp))
  |_=>exact absurd (show false=true from f) aaf
 |str i=>
  obtain⟨t,rfl⟩:=g;cases y with
  |non=>cases d;exact PySem.EqNone.eq_str_none (aD I q (by simp))
  |bl j=>cases d;exact PySem.EqMixed.eq_str_bool (aD I q (by simp))
  |int j=>obtain⟨e,rfl⟩:=d;exact PySem.EqMixed.eq_str_int (aD I q (by simp))
  |str j=>obtain⟨e,rfl⟩:=d;exact eq_str (aD I q oK)
  |_=>exact absurd (show false=true from f) aaf
 |byt i=>
  obtain⟨t,rfl⟩:=g;cases y with
  |byt j=>obtain⟨e,rfl⟩:=d;exact PySem.W.eq_bytes (aD I q oM)
  |_=>exact absurd (show false=true from f) aaf
 |_=>cases y<;>exact absurd (show false=true from f) aaf
def op_ne:OpR X (compareOp .NotEq) rNe:=by
 intro k s l H x y v u Q I g d h;obtain⟨f,q⟩:=h;cases x with
 |non=>
  cases g;cases y with
  |non=>cases d;exact PySem.EqNone.ne_none_none (aD I q (by simp))
  |bl j=>cases d;exact PySem.EqNone.ne_none_bool (aD I q (by simp))
  |int j=>obtain⟨e,rfl⟩:=d;exact PySem.EqNone.ne_none_int (aD I q (by simp))
  |str j=>obtain⟨e,rfl⟩:=d;exact PySem.EqNone.ne_none_str (aD I q (by simp))
  |_=>exact absurd (show false=true from f) aaf
 |bl i=>
  cases g;cases y with
  |non=>cases d;exact PySem.EqNone.ne_bool_none (aD I q (by simp))
  |bl j=>cases d;exact ne_bool (aD I q (congrArg not sU))
  |str j=>obtain⟨e,rfl⟩:=d;exact PySem.EqMixed.ne_bool_str (aD I q (by simp))
  |_=>exact absurd (show false=true from f) aaf
 |int i=>
  obtain⟨t,rfl⟩:=g;cases y with
  |non=>cases d;exact PySem.EqNone.ne_int_none (aD I q (by simp))
  |int j=>obtain⟨e,rfl⟩:=d;exact ne_int (aD I q (congrArg not oJ))
  |str j=>obtain⟨e,rfl⟩:=d;exact PySem.EqMixed.ne_int_str (aD I q (by simp))
  |_=>exact absurd (show false=true from f) aaf
 |str i=>
  obtain⟨t,rfl⟩:=g;cases y with
  |non=>cases d;exact PySem.EqNone.ne_str_none (aD I q (by simp))
  |bl j=>cases d;exact PySem.EqMixed.ne_str_bool (aD I q (by simp))
  |int j=>obtain⟨e,rfl⟩:=d;exact PySem.EqMixed.ne_str_int (aD I q (by simp))
  |str j=>obtain⟨e,rfl⟩:=d;exact ne_str (aD I q (congrArg not oK))
  |_=>exact absurd (show false=true from f) aaf
 |byt i=>
  obtain⟨t,rfl⟩:=g;cases y with
  |byt j=>obtain⟨e,rfl⟩:=d;exact PySem.W.ne_bytes (aD I q (congrArg not oM))
  |_=>exact absurd (show false=true from f) aaf
 |_=>cases y<;>exact absurd (show false=true from f) aaf
def De:OpR X (compareOp .Lt) (wC λi j=>.bl (decide (i<j))):=wL λ_ _ _ _ _ _ _ q=>lt_int q
def Dg:OpR X (compareOp .LtE) (wC λi j=>.bl (decide (i<=j))):=wL λ_ _ _ _ _ _ _ q=>le_int q
def Dh:OpR X (compareOp .Gt) (wC λi j=>.bl (decide (j<i))):=wL λ_ _ _ _ _ _ _ q=>gt_int q
def Di:OpR X (compareOp .GtE) (wC λi j=>.bl (decide (j<=i))):=wL λ_ _ _ _ _ _ _ q=>ge_int q
def OpR.or(h:OpR X f r)(h':OpR X f r'):OpR X f (λx y H Q=>r x y H Q\/r' x y H Q):=by
 intro d s i H x y v u Q I e g q;rcases q with q|q
 ·exact h d s i H x y v u Q I e g q
 ·exact h' d s i H x y v u Q I e g q
def j8(o:OpR X (compareOp op) r)(k:PE X a ta)(i:PE X b tb)(m:behindInMarks op b=false):PE X (.Compare a [op] [b] pos) (y6 r ta tb):=by intro d s n H Q I h;exact wpAny_Compare1 (An k i I h λv u e x y g j f l q=>o d e n g x y v u Q j f l q) m
def zd(t:TE):TT:=λe H Q=>t e H λx d=>∃k,x=.bl k/\Q k d
def j9{f:CmpOp}{r:R2}(M:OpR X (compareOp f) r)(p:PE X a ta)(n:PE X b tb)(C:behindInMarks f b=false):PT X (.Compare a [f] [b] pos) (zd (y6 r ta tb)):=by
 intro d s g H Q I h;refine wpAny_isTrue_Compare1 (thn (p d s g H _ I h) λv B ⟨x,A,i,J,F⟩=>thn (n d B g A _ i F) λu j ⟨y,m,o,D,l⟩=>
  thn (M d j g m x y v u _ o J D l) λc N ⟨z,w,q,L,k,e,t⟩=>?_) C
 subst e;cases L;exact wpAny_truthy_bool ⟨w,q,t⟩
def Av(K:Waa)(x:V)(H:Hp)(k:Bool):Prop:=
 match x with
 |.non=>k=false
 |.bl b=>k=b
 |.int i=>k=(i !=0)
 |.str y=>y.length<=sizeLine/\k=((y.length:Int) !=0)
 |.byt y=>y.size<=sizeLine/\k=((y.size:Int) !=0)
 |.ref p=>(∃d,SqL K H p d/\k=!d.isEmpty)\/(∃d,SqT K H p d/\k=!d.isEmpty)\/∃e,H p=some (.dK e)/\k=!e.isEmpty
 |_=>False
def nk{e:Type}{d:List (e×V)}{vs:List (e×Value)}(r:KV d vs):(!vs.isEmpty)=!d.isEmpty:=by cases r<;>rfl
def ir{xs:List V}{d:List Value}(r:Vals xs d):(!d.toArray.isEmpty)=!xs.isEmpty:=by cases r<;>simp
def line63:(sizeLine:Nat)<2^63:=by rw[sizeLine_eq];decide
def Aw:Gj X (λx H Q=>∃k,Av X.K x H k/\Q k H):=by
 intro B s L H x v Q I l h;obtain⟨k,e,q⟩:=h;have J:=line63;have F:sizeLine=16777216:=sizeLine_eq;cases x with
 |non=>cases l;have d:k=false:=e;subst d;exact truthy_none ⟨H,I,q⟩
 |bl b=>cases l;have d:k=b:=e;subst d;exact wpAny_truthy_bool ⟨H,I,q⟩
 |int i=>obtain⟨t,rfl⟩:=l;have d:k=(i !=0):=e;subst d;exact PySem.P.truthy_int ⟨H,I,q⟩
 |str y=>obtain⟨t,rfl⟩:=l;obtain⟨C,d⟩:y.length<=sizeLine/\k=((y.length:Int) !=0):=e;subst d;exact PySem.P.truthy_str (by omega) ⟨H,I.tok _,q⟩
 |byt y=>obtain⟨t,rfl⟩:=l;obtain⟨C,d⟩:y.size<=sizeLine/\k=((y.size:Int) !=0):=e;subst d;exact PySem.W.truthy_bytes (by omega) ⟨H,I.tok _,q⟩
 |ref p=>
  cases l;have d:(∃j,SqL X.K H p j/\k=!j.isEmpty)\/(∃j,SqT X.K H p j/\k=!j.isEmpty)\/∃f,H p=some (.dK f)/\k=!f.isEmpty:=e;rcases d with ⟨j,n,d⟩|⟨j,n,d⟩|⟨f,n,d⟩
  ·subst d;obtain⟨u,r,z,A⟩:=I.list n;have g:=r.length;exact wpAny_truthy_list z.isList (by simp only[aau];omega) ⟨H,I.tok _,by rw[ir r];exact q⟩
  ·subst d;obtain⟨u,r,z,A⟩:=I.tuple n;have g:=r.length;exact truthy_tuple z (by simp only[aau];omega) ⟨H,I.tok _,by rw[ir r];exact q⟩
  ·subst d;obtain⟨A,D,o,r,m⟩:f.length<=sizeLine/\(p==sysModules)=false/\∃o,KV f o/\s.heap.DictOf (bj X.prog X.w) p o:=I.hok p _ n;have g:f.length=o.length:=Paired.length r;exact wpAny_truthy_dict D m (by omega) ⟨H,I.tok _,by rw[nk r];exact q⟩
 |_=>exact(show False from e).elim
def lM(i:PE X a ta)(l:∀d,isTrue a X.env d=(do let v <-d;standAt a.pos;holding [v] (truthy v))):
  PT X a (λσ H Q=>ta σ H λx f=>∃k,Av X.K x f k/\Q k f):=by
 intro e s σ H Q I h;exact isTrue_plain (thn (i e s σ H _ I h) λv m ⟨x,j,g,o,n⟩=>Aw e m σ j x v Q g o n) (l _)
def vals1(r:Vals [x] us):∃u,us=[u]/\RelV x u:=by
 cases r with
 |cons d e=>cases e;exact⟨_,rfl,d⟩
def vals2(r:Vals [x,y] us):∃u d,us=[u,d]/\RelV x u/\RelV y d:=by
 cases r with
 |cons e f=>
  cases f with
  |cons g h=>cases h;exact⟨_,_,rfl,e,g⟩
def sV:bZ X (.builtin "abs") (λxs H Q=>∃i,xs=[.int i]/\Q (.int (if i<0 then -i else i)) H):=by
 intro d s g H xs e Q I r h;obtain⟨i,rfl,q⟩:=h;obtain⟨u,rfl,t,rfl⟩:=vals1 r;exact call_abs_int λu f=>⟨.int (if i<0 then -i else i),H,I.tok _,⟨_,rfl⟩,q⟩
def rj(f:X.calm=true):bZ X (.builtin "max") (λxs H Q=>∃i j,xs=[.int i,.int j]/\Q (.int (if j>i then j else i)) H):=by
 intro e s p H xs m Q I r h;obtain⟨i,j,rfl,q⟩:=h;obtain⟨u,o,rfl,⟨t,rfl⟩,⟨l,rfl⟩⟩:=vals2 r;refine max_two_ints (I.ok.hd f) λn g k=>⟨_,H,I.kept k,?_,q⟩
 by_cases d:j>i
 ·rw[if_pos d,if_pos d];exact⟨_,rfl⟩
 ·rw[if_neg d,if_neg d];exact⟨_,rfl⟩
def rk(f:X.calm=true):bZ X (.builtin "min") (λxs H Q=>∃i j,xs=[.int i,.int j]/\Q (.int (if j<i then j else i)) H):=by
 intro e s p H xs m Q I r h;obtain⟨i,j,rfl,q⟩:=h;obtain⟨u,o,rfl,⟨t,rfl⟩,⟨l,rfl⟩⟩:=vals2 r;refine min_two_ints (I.ok.hd f) λn g k=>⟨_,H,I.kept k,?_,q⟩
 by_cases d:j<i
 ·rw[if_pos d,if_pos d];exact⟨_,rfl⟩
 ·rw[if_neg d,if_neg d];exact⟨_,rfl⟩
def rl:bZ X (.type "int") (λxs H Q=>(∃i,xs=[.int i]/\Q (.int i) H)\/∃k,xs=[.bl k]/\Q (.int (if k then 1 else 0)) H):=by
 intro d s g H xs f Q I r h;rcases h with ⟨i,rfl,q⟩|⟨k,rfl,q⟩
 ·obtain⟨u,rfl,t,rfl⟩:=vals1 r;exact call_int_int ⟨.int i,H,I,⟨_,rfl⟩,q⟩
 ·obtain⟨u,rfl,e⟩:=vals1 r;cases e;exact call_int_bool ⟨.int (if k then 1 else 0),H,I.tok _,⟨_,rfl⟩,q⟩
def Dj(K:Waa)(x:V)(H:Hp)(n:Nat):Prop:=
 match x with
 |.str y=>y.length<=sizeLine/\n=y.length
 |.byt y=>y.size<=sizeLine/\n=y.size
 |.ref p=>(∃d,SqL K H p d/\n=d.length)\/∃d,SqT K H p d/\n=d.length
 |_=>False
def lN:bZ X (.builtin "len") (λxs H Q=>∃x n,xs=[x]/\Dj X.K x H n/\Q (.int n) H):=by
 intro m s B H xs z Q I r h;obtain⟨x,n,rfl,e,q⟩:=h;obtain⟨u,rfl,g⟩:=vals1 r;have A:=line63;have w:sizeLine=16777216:=sizeLine_eq;cases x with
 |str y=>obtain⟨t,rfl⟩:=g;obtain⟨v,f⟩:y.length<=sizeLine/\n=y.length:=e;subst f;exact len_str (by omega) ⟨.int _,H,I.tok _,⟨_,rfl⟩,q⟩
 |byt y=>obtain⟨t,rfl⟩:=g;obtain⟨v,f⟩:y.size<=sizeLine/\n=y.size:=e;subst f;exact PySem.W.len_bytes (by omega) ⟨.int _,H,I.tok _,⟨_,rfl⟩,q⟩
 |ref p=>
  cases g;have f:(∃xs,SqL X.K H p xs/\n=xs.length)\/∃xs,SqT X.K H p xs/\n=xs.length:=e;rcases f with ⟨xs,j,f⟩|⟨xs,j,f⟩
  ·subst f;obtain⟨i,l,k,o⟩:=I.list j;have d:=l.length;exact Calls.call_len_list k.isList (by simp only[aau];omega) ⟨.int xs.length,H,I.tok _,⟨_,by simp only[aau];rw[d]⟩,q⟩
  ·subst f;obtain⟨i,l,k,o⟩:=I.tuple j;have d:=l.length;exact len_tuple k (by simp only[aau];omega) ⟨.int xs.length,H,I.tok _,⟨_,by simp only[aau];rw[d]⟩,q⟩
 |_=>exact(show False from e).elim
end
end
section
structure ObjM (h:Heap)(x dx C:Addr)(mA:Str->Option Value):Prop where
 obj:h.get? x=some (PySem.W.instObj C dx)
 ns:h.Ns1 dx mA
 ne:dx≠x
def rm{h:Heap}(n:h.Ns1 dx mA):∃d,h.get? dx=some d/\∀b,PySem.W.lookIn b d=some (mA b):=by
 obtain⟨o,f,p,m,l,i,_,k⟩:=n;refine⟨o,m,λb=>?_⟩;have e:=k b;unfold nsFind findBy at e;rw[<-Array.find?_toList]at e;unfold PySem.W.lookIn;rw[l];dsimp only;split
 ·rename_i y q;rw[q]at e;exact congrArg some e
 ·rename_i q;rw[q]at e;have a:f.toList.any (·.refKey)=false:=by rw[List.any_eq_false];intro y g;obtain⟨z,t,c⟩:=i y (Array.mem_toList_iff.mp g);simp[DictEntry.refKey,c]
  have j:¬ f.toList.any (·.refKey)=true:=by rw[a];exact aaf
  rw[if_neg j];exact congrArg some e
def ObjM.look(I:ObjM h x dx C mA):∃b,PySem.W.InstAt h x (PySem.W.instObj C dx) C (some b)/\∀a,PySem.W.lookIn a b=some (mA a):=
 let ⟨b,d,c⟩:=rm I.ns
 ⟨b,⟨I.obj,rfl,rfl,d⟩,c⟩
section
variable{prog:Program}{w:World}{A:Around}{E:Value->Shared->Prop}{s:Shared}{K:Waa}{x dx C f:Addr}{mA:Str->Option Value}{name:Str}{v:Value}
def get_map{a:Bool}(X:K.In s.heap)(I:ObjM s.heap x dx C mA)(d:PySem.W.plainGet K C name=true)(c:PySem.W.hasDictIn K C=true)
  (e:PySem.W.findIn K (.ref C) name=some none) (i:mA name=some v) (b:PySem.W.handedIn v=true) (h:Q v { s with toks:=s.toks+1 }):
  wpAny (model prog w) A (getAttr (.ref x) name a) Q E s:=by
 obtain⟨j,J,g⟩:=I.look;exact PySem.W.get_value X J (abS d).1 (PySem.W.findObj_own c e rfl (by rw[g,i])) b h
def sW(X:K.In s.heap)(I:ObjM s.heap x dx C mA)(a:PySem.W.plainGet K C name=true)
  (g:PySem.W.findIn K (.ref C) name=some (some (.ref f))) (b:PySem.W.isFn K (.ref f)=true) (d:mA name=none) (h:Q (.ref f,[.ref x]) s):
  wpAny (model prog w) A (getMethod (.ref x) name pl) Q E s:=by
 obtain⟨e,J,c⟩:=I.look;exact PySem.W.method_fn X J (abS a).1 (abS a).2 g (beq_iff_eq.mp b) (by show (PySem.W.lookIn name e).map (·.isSome)=some false;rw[c,d];rfl) h
def wN(X:K.In s.heap)(I:ObjM s.heap x dx C mA)
  (k:PySem.W.findIn K (.ref C) "__setattr__"=some (some (.builtin "object.__setattr__"))) (p:PySem.W.plainOver K C=true) (o:PySem.W.takerIn K C name=some none) (n:PySem.W.hasDictIn K C=true)
  (t:PySem.Within mA ns) (m:ns.length<=sizeLine)
  (h:∀h',ObjM h' x dx C (λy=>if y=name then some v else mA y)->Heap.SameBut dx s.heap h'->Q () { s with heap:=h',toks:=s.toks+2 }):
  wpAny (model prog w) A (setAttr (.ref x) name v) Q E s:=by
 obtain⟨u,J,B⟩:=I.look;refine PySem.W.set_plain X J k (PySem.W.osa_open X J p o λb=>?_);obtain⟨z,l,i⟩:=PySem.W.any_some n;have r:s.heap.get? x=some ⟨.ref C,some dx,.plain,#[]⟩:=I.obj;refine wpAny_bind (wpAny_pure (wpAny_bind (wpAny_bind (wpAny_loadPart r (wpAny_bind (PySem.W.Looks.here (PySem.W.looks_clsIn X l) ?_))))));rw[i];refine wpAny_pure (wpAny_bind (wpAny_pure (wpAny_bind ?_)));refine wpAny_nsSet1 I.ns λh' c a=>?_;obtain⟨D,q,j,d,g,e⟩:=c.count (PySem.Within.cons name v t);refine wpAny_bind (wpAny_lookBehind d (by rw[g];exact pastItsLine_dict (aan e (by rw[aaq];omega))) ?_);exact wpAny_pure (h _ ⟨(a.2 _ (aaG I.ne)).trans I.obj,c,I.ne⟩ a)
def sX(X:K.In s.heap)(a:PySem.W.makesIn K C=true)
  (c:PySem.W.findIn K (.ref C) "__init__"=some (some (.ref f))) (b:PySem.W.typeIn K (.ref f)=some (.type "function"))
  (h:codeAny (model prog w) (A.under (.builtin "type.__call__" ⟨.ref C::vs,kw⟩)) (.call (.ref f) ⟨.ref (s.heap.objs.size+1)::vs,kw⟩) (PySem.W.InitBack (s.heap.objs.size+1) R)
   { s with heap:=(s.heap.push PySem.W.emptyDict).push (PySem.W.instObj C s.heap.objs.size) }):
  codeAny (model prog w) A (.call (.ref C) ⟨vs,kw⟩) R s:=by
 obtain⟨e,g,d,t,i⟩:=s;exact PySem.W.make_core (PySem.W.makes_of X a) (PySem.W.looks_findIn X c) (λself=>PySem.W.bind_fn X self b) (.inl rfl) h
end
def cz(f:Str)(v:V):List (Str×V)->List (Str×V)
 |[]=>[(f,v)]
 | (g,x)::r=>if g=f then (g,v)::r else (g,x)::cz f v r
def gK(f g:Str)(v:V):∀fs:List (Str×V),(cz f v fs).lookup g=if g=f then some v else fs.lookup g
 |[]=>by
  show List.lookup g [(f,v)]=_;by_cases h:g=f
  ·have a:(g==f)=true:=beq_iff_eq.mpr h;simp only[List.lookup,a,if_pos h]
  ·have a:(g==f)=false:=beq_eq_false_iff_ne.mpr h;simp only[List.lookup,a,if_neg h]
 | (k,x)::r=>by
  have c:=gK f g v r;rw[show cz f v ((k,x)::r)=(if k=f then (k,v)::r else (k,x)::cz f v r) from rfl];by_cases b:k=f
  ·rw[if_pos b];by_cases h:g=k
   ·have a:(g==k)=true:=beq_iff_eq.mpr h;simp only[List.lookup,a,if_pos (h.trans b)]
   ·have a:(g==k)=false:=beq_eq_false_iff_ne.mpr h;simp only[List.lookup,a,if_neg (λe:g=f=>h (e.trans b.symm))]
  ·rw[if_neg b];by_cases h:g=k
   ·have a:(g==k)=true:=beq_iff_eq.mpr h;simp only[List.lookup,a,if_neg (λe:g=f=>b (h.symm.trans e))]
   ·have a:(g==k)=false:=beq_eq_false_iff_ne.mpr h;simp only[List.lookup,a];exact c
def gb(f:Str)(v:V):∀fs:List (Str×V),f∈(cz f v fs).map (·.1)/\∀g,g∈fs.map (·.1)->g∈(cz f v fs).map (·.1)
 |[]=>⟨by simp[cz],λg h=>by simp at h⟩
 | (k,x)::r=>by
  obtain⟨b,c⟩:=gb f v r;rw[show cz f v ((k,x)::r)=(if k=f then (k,v)::r else (k,x)::cz f v r) from rfl];by_cases a:k=f
  ·rw[if_pos a];subst a;exact⟨by simp,λg h=>by simpa using h⟩
  ·rw[if_neg a];refine⟨?_,λg h=>?_⟩
   ·rw[aaj];exact aah _ b
   ·rw[aaj]at h ⊢;rcases aab.mp h with e|e
    ·exact aab.mpr (.inl e)
    ·exact aah _ (c g e)
def gL(f:Str)(v:V):∀fs:List (Str×V),(cz f v fs).length<=fs.length+1
 |[]=>by simp[cz]
 | (k,x)::r=>by
  have b:=gL f v r;rw[show cz f v ((k,x)::r)=(if k=f then (k,v)::r else (k,x)::cz f v r) from rfl];by_cases a:k=f
  ·rw[if_pos a,aaq,aaq];omega
  ·rw[if_neg a,aaq,aaq];omega
def RelO.some_of(r:RelO (some v) o):∃u,o=some u/\RelV v u:=by
 cases o with
 |none=>exact(show False from r).elim
 |some u=>exact⟨u,rfl,r⟩
def RelO.none_of(r:RelO none o):o=none:=by
 cases o with
 |none=>rfl
 |some u=>exact(show False from r).elim
def rn(r:RelV v u):PySem.W.handedIn u=true:=by
 cases v with
 |non=>cases (show u=Value.none from r);rfl
 |bl b=>cases (show u=Value.bool b from r);rfl
 |int i=>obtain⟨t,e⟩:=(show ∃t,u=Value.int i t from r);cases e;rfl
 |str x=>obtain⟨t,e⟩:=(show ∃t,u=Value.str x t from r);cases e;rfl
 |byt b=>obtain⟨t,e⟩:=(show ∃t,u=Value.bytes b t from r);cases e;rfl
 |flt b=>obtain⟨t,e⟩:=(show ∃t,u=Value.float b t from r);cases e;rfl
 |ref a=>cases (show u=Value.ref a from r);rfl
 |ty n=>cases (show u=Value.type n from r);rfl
section
variable{P:Program}{w:World}{H H':Hp}{h h':Heap}{a C dx:Addr}{fs fs':List (Str×V)}
def ka(c:HOk P w H h)(e:H a=some (.ins C dx fs)):∃b,ObjM h a dx C b/\(∀f,RelO (fs.lookup f) (b f))/\PySem.Within b (fs.map (·.1))/\fs.length<=1000/\H dx=some (.own a):=by
 obtain⟨d,z,i,g,b,n,r,q⟩:=(show ObjOk P w H h a (.ins C dx fs) from c a _ e)
 exact⟨b,⟨g,n,i⟩,r,q,z,d⟩
end
structure Cls (K:Waa)(C:Addr):Prop where
 pg:PySem.W.plainGet K C Str.empty=true
 hd:PySem.W.hasDictIn K C=true
 po:PySem.W.plainOver K C=true
 sa:PySem.W.findIn K (.ref C) "__setattr__"=some (some (.builtin "object.__setattr__"))
def Cls.get{K:Waa}{C:Addr}(c:Cls K C)(f:Str):PySem.W.plainGet K C f=true:=c.pg
def NoAttr(K:Waa)(C:Addr)(f:Str):Prop:=PySem.W.findIn K (.ref C) f=some none
def NoAttr.taker{K:Waa}(n:NoAttr K C f):PySem.W.takerIn K C f=some none:=by unfold PySem.W.takerIn;rw[show PySem.W.findIn K (.ref C) f=some none from n];rfl
structure Meth (K:Waa)(C:Addr)(m:Str)(f:Addr):Prop where
 at_:PySem.W.findIn K (.ref C) m=some (some (.ref f))
 fn:PySem.W.isFn K (.ref f)=true
 kp:PySem.W.keepIn K (.ref f)=true
section
variable{X:Cx}{pins:List (Addr×Obj)}{σ:St}{H:Hp}{s:Shared}{a C dx:Addr}{fs:List (Str×V)}{f:Str}{v:V}{A:Around}{E:Value->Shared->Prop}
def iu{b:Bool}{Q:Value->Shared->Prop}(I:Inv X pins σ H s)(e:H a=some (.ins C dx fs))(c:Cls X.K C)(n:NoAttr X.K C f)(l:fs.lookup f=some v)
  (h:∀u g,Inv X pins σ H g->RelV v u->Q u g):wpAny (model X.prog X.w) A (getAttr (.ref a) f b) Q E s:=by
 obtain⟨j,O,r,_,_,_⟩:=ka I.hok e;obtain⟨u,i,d⟩:=RelO.some_of (by rw[<-l];exact r f);exact get_map I.rd O (c.get f) c.hd n i (rn d) (h u _ (I.tok _) d)
def iw(I:Inv X pins σ H s)(e:H a=some (.ins C dx fs))(c:Cls X.K C)(k:Meth X.K C m g)(l:fs.lookup m=none)
  (h:Q (.ref g,[.ref a]) s):wpAny (model X.prog X.w) A (getMethod (.ref a) m pl) Q E s:=by
 obtain⟨d,O,r,_,_,_⟩:=ka I.hok e;have b:d m=none:=RelO.none_of (by rw[<-l];exact r m);exact sW I.rd O (c.get m) k.at_ k.fn b h
def iy{y:V}{u:Value}(I:Inv X pins σ H s)(e:H a=some (.ins C dx fs))(c:Cls X.K C)(n:NoAttr X.K C f)(L:fs.length<1000)(B:RelV y u)
  (h:∀j,Inv X pins σ (upd H a (.ins C dx (cz f y fs))) j->Q () j):wpAny (model X.prog X.w) A (setAttr (.ref a) f u) Q E s:=by
 obtain⟨i,O,r,k,_,l⟩:=ka I.hok e;have p:(fs.map (·.1)).length<=sizeLine:=by rw[aaa,sizeLine_eq];omega
 refine wN I.rd O c.sa c.po n.taker c.hd k p λD d m=>h _ ?_;have J:∃o,D.get? dx=some o:=let ⟨o,_,_,F,_⟩:=d.ns;⟨o,F⟩
 refine I.write (by rw[e];exact True.intro) (.inr l) (λb q t z=>(m.2 b t).trans z) J ?_;refine⟨by rw[upd_ne O.ne];exact l,?_,O.ne,d.obj,_,d.ns,λg=>?_,λg x=>?_⟩
 ·have:=gL f y fs;omega
 ·show RelO ((cz f y fs).lookup g) (if g=f then some u else i g);rw[gK];by_cases q:g=f
  ·rw[if_pos q,if_pos q];exact B
  ·rw[if_neg q,if_neg q];exact r g
 ·by_cases q:g=f
  ·rw[q];exact(gb f y fs).1
  ·refine(gb f y fs).2 g (k g λz=>x ?_);show (if g=f then some u else i g)=none;rw[if_neg q];exact z
def Inv.made(I:Inv X pins σ H s):Inv X pins σ (upd (upd H s.heap.objs.size (.own (s.heap.objs.size+1))) (s.heap.objs.size+1) (.ins C s.heap.objs.size []))
  { s with heap:=(s.heap.push PySem.W.emptyDict).push (PySem.W.instObj C s.heap.objs.size) }:=by
 have c:(s.heap.push PySem.W.emptyDict).get? s.heap.objs.size=some PySem.W.emptyDict:=Heap.get?_push_size s.heap rfl;have j:((s.heap.push PySem.W.emptyDict).push (PySem.W.instObj C s.heap.objs.size)).get? (s.heap.objs.size+1)=some (PySem.W.instObj C s.heap.objs.size):=by
  have:=Heap.get?_push_size (s.heap.push PySem.W.emptyDict) (o:=PySem.W.instObj C s.heap.objs.size) rfl
  rwa [Heap.size_push]at this
 have i:(s.heap.push PySem.W.emptyDict).Ns s.heap.objs.size (λ_=>none):=⟨PySem.W.emptyDict,#[],_,c,rfl,(λe h=>absurd h (by simp)),λ_=>rfl⟩
 have g:=I.laid (o:=.own (s.heap.objs.size+1)) (t':=s.toks) (λb u q=>Heap.get?_push_of_some _ q) (aag _) ⟨_,c⟩;refine g.laid (λb u q=>Heap.get?_push_of_some _ q) (abT (Heap.size_push _ _)) ?_;have d:s.heap.objs.size≠s.heap.objs.size+1:=aao (aa5 _);refine⟨by rw[upd_ne d,au],aaH _,d,j,λ_=>none,(Heap.Ns1.of_empty i).at λo q=>Heap.get?_push_of_some _ q,λ_=>True.intro,λy k=>absurd rfl k⟩
def attr_of{prog:Program}{w:World}(c:attributeBase e f env (eval e env)=eval e env)
  (h:wpAny (model prog w) A (eval e env) (λo b=>wpAny (model prog w) A (getAttr o f true) Q E b) E s):wpAny (model prog w) A (eval (.Attribute e f pos) env) Q E s:=
 Attribute_any_ h (by rw[arm_eval_Attribute,c])
end
def Gn(K:Waa)(d:TE)(f:Str):TE:=λg H Q=>d g H λx b=>∃a C e c v,x=.ref a/\b a=some (.ins C e c)/\Cls K C/\NoAttr K C f/\c.lookup f=some v/\Q v b
def Gp(K:Waa)(g h:TE)(f:Str):TS:=λD b H=>h b H λy i=>g b i λx e=>∃a C d c,x=.ref a/\e a=some (.ins C d c)/\Cls K C/\NoAttr K C f/\c.length<1000 /\
 D.nx b (upd e a (.ins C d (cz f y c)))
def wO(X:Cx)(d:Operator)(c:V->V->Hp->VK->Prop):Prop:=
 ∀(a:List (Addr×Obj)) (s:Shared) (b:St) (H:Hp) (x y:V) (u v:Value) (Q:VK),Inv X a b H s->RelV x u->RelV y v->c x y H Q->wpAny (model X.prog X.w) X.A (inplaceOp d u v) (EP X a b Q) X.xe s
def wQ(K:Waa)(i k:TE)(m:V->V->Hp->VK->Prop)(f:Str):TS:=λD d H=>i d H λx h=>∃a C j e v,x=.ref a/\h a=some (.ins C j e)/\Cls K C/\NoAttr K C f/\e.lookup f=some v /\
 k d h λy l=>m v y l λz g=>∃c b,g a=some (.ins C c b)/\b.length<1000/\D.nx d (upd g a (.ins C c (cz f z b)))
section
variable{X:Cx}{o e value:Expr}{f:Str}{pos pos' tpos:Pos}{ta tv:TE}
def Ax(p:PE X e ta)(j:attributeBase e f X.env (eval e X.env)=eval e X.env):PE X (.Attribute e f pos) (Gn X.K ta f):=by
 intro b s y H Q I h;refine attr_of j (thn (p b s y H _ I h) λu D t=>?_);obtain⟨x,m,d,g,a,C,A,B,v,i,w,c,n,l,q⟩:=t;subst i;obtain rfl:u=Value.ref a:=g;exact iu d w c n l λF z k r=>⟨v,m,k,r,q⟩
def Ay(t:PE X o ta)(J:PE X value tv)(j:swapsWith value (some (.Attribute o f pos')) pos.line X.env=pure false):PS X (.Assign [.Attribute o f pos'] value pos) (Gp X.K ta tv f):=by
 intro b s d H D I h;refine plainObj_wpAny_Assign_Attribute (thn (J b s d H _ I h) λu A ⟨y,w,g,z,q⟩=>thn (t b A d w _ g q) λk L B=>?_) j;obtain⟨x,O,r,i,a,C,N,P,p,F,c,n,l,m⟩:=B;subst p;obtain rfl:k=Value.ref a:=i;exact iy r F c n l z λM v=>⟨d,_,v,m⟩
def rp{k:Operator}{j:V->V->Hp->VK->Prop}(J:PE X o ta)(hv:PE X value tv)(hop:wO X k j):PS X (.AugAssign (.Attribute o f tpos) k value pos) (wQ X.K ta tv j f):=by
 intro b s d H D I h;refine wpAny_AugAssign_AttributeAny (thn (J b s d H _ I h) λw s1 i=>?_);obtain⟨x,T,m,t,a,C,dx,fs,v,A,ea,c,n,l,q⟩:=i;subst A;obtain rfl:w=Value.ref a:=t;refine iu m ea c n l λu p F Z=>thn (hv b p d T _ F q) λw3 r ⟨y,B,M,U,O⟩=>thn (hop b r d B v y u w3 _ M Z U O) λw4 s4 i=>?_;obtain⟨z,H3,L,P,N,W,g,Q,Y⟩:=i;exact iy L g c n Q P λs5 S=>⟨d,_,S,Y⟩
def rAdd:V->V->Hp->VK->Prop:=λx y H Q=>∃i j,x=.int i/\y=.int j/\Q (.int (i+j)) H
def rSub:V->V->Hp->VK->Prop:=λx y H Q=>∃i j,x=.int i/\y=.int j/\Q (.int (i-j)) H
def Az:wO X .Add rAdd:=by
 rintro b s g H x y u v Q I c d ⟨i,j,rfl,rfl,q⟩;obtain⟨t,rfl⟩:=(show ∃t,u=Value.int i t from c)
 obtain⟨a,rfl⟩:=(show ∃a,v=Value.int j a from d)
 exact PyProof.Rows.iadd_int ⟨.int (i+j),H,I.tok _,⟨_,rfl⟩,q⟩
def AA:wO X .Sub rSub:=by
 rintro b s g H x y u v Q I c d ⟨i,j,rfl,rfl,q⟩;obtain⟨t,rfl⟩:=(show ∃t,u=Value.int i t from c)
 obtain⟨a,rfl⟩:=(show ∃a,v=Value.int j a from d)
 exact PyProof.Rows.isub_int ⟨.int (i-j),H,I.tok _,⟨_,rfl⟩,q⟩
end
end
section
structure Room (k:Nat)(A:Around):Prop where
 hd:A.handled=none
 dp:A.depth+3*k+5<recursionLimit
 un:A.units+16*k+200<cLine
 gd:A.guards=some []
def Room.deeper(r:Room (k+1) A)(env:Env):Room k (A.deeper env):=
 ⟨r.hd,by have:=r.dp;show A.depth+1+3*k+5<_;omega,by have:=r.un;show A.units+3+16*k+200<_;omega,r.gd⟩
def nq{A:Around}:(A.under (.builtin "type.__call__" ⟨.ref C::us,kw⟩)).depth=A.depth+1:=by
 first|rfl|simp[Around.under,Code.weight,Code.isCreation,Code.isGuard,Code.isCaller,Code.frames,Code.isFrame,guardIds]
def nv{A:Around}:(A.under (.builtin "type.__call__" ⟨.ref C::us,kw⟩)).units=A.units+1:=by
 first|rfl|simp[Around.under,Code.cUnits,Code.frames,Code.isFrame]
def Room.make(r:Room (k+1) A)(C:Addr)(us:List Value)(a:List (Str×Value)):Room k (A.under (.builtin "type.__call__" ⟨.ref C::us,a⟩)):=
 ⟨r.hd,by have:=r.dp;rw[nq];omega,by have:=r.un;rw[nv];omega,by first|exact r.gd|simp[Around.under,Code.isGuard,guardIds,r.gd]⟩
def Room.depth(r:Room k A):A.depth<recursionLimit:=by have:=r.dp;omega
def Room.units{A:Around}(r:Room k A):A.units+64<cLine:=by have:=r.un;omega
def tNil:TA:=λ_ H Q=>Q [] H
def Dk(c:TE)(d:TA):TA:=λa H Q=>c a H λx e=>d a e λb f=>Q (x::b) f
section
variable{X:Cx}{e:Expr}{es:List Expr}{te:TE}{t:TA}{pos:Pos}
def bo:PA X [] tNil:=λ_ _ _ _ H Q I h=>Calls.spliced_nil ⟨[],H,I,.nil,h⟩
def aO(k:PE X e te)(f:PA X es t)(d:starEach (e::es) X.env=(false,eval e X.env)::starEach es X.env:=by rfl):PA X (e::es) (Dk te t):=by
 intro pos a s b H Q I h;rw[d];show wpAny _ _ (spliced ((false,eval e X.env)::backTo pos (starEach es X.env))) _ _ s;refine Calls.spliced_cons (thn (k a s b H _ I h) λu n o=>?_);obtain⟨x,m,c,r,q⟩:=o;exact thn (f pos a n b m _ c q) λw v ⟨l,i,j,p,g⟩=>⟨x::l,i,j,.cons r p,g⟩
def Gq(t:TA):TE:=λc H Q=>t c H λa b=>a.length<=sizeLine/\∀p,b p=none->Q (.ref p) (upd b p (.tup a))
def Dm(t:TA):TE:=λc H Q=>t c H λa b=>a.length<=sizeLine/\∀p,b p=none->Q (.ref p) (upd b p (.lst a))
def iz{j}(h:PA X es t):PE X (.Tuple es j pos) (Gq t):=by intro a s m H Q I g;refine wpAny_Tuple_spliced (thn (h pos a s m H _ I g) λi c ⟨k,f,d,r,z,q⟩=>⟨by rw[<-r.length];exact z,?_⟩);have l:f c.heap.objs.size=none:=d.hok.fresh (aag _);refine⟨.ref c.heap.objs.size,upd f c.heap.objs.size (.tup k),d.laid (t':=c.toks) (λb u e=>Heap.get?_push_of_some _ e) (aag _) ?_,rfl,q _ l⟩;exact⟨z,i,r,⟨_,Heap.get?_push_size _ rfl,rfl,_,rfl⟩⟩
def kb(h:PA X es t):PE X (.List es pos) (Dm t):=by intro a s l H Q I g;refine wpAny_List_spliced (thn (h pos a s l H _ I g) λi c ⟨j,f,d,r,z,q⟩=>⟨by rw[<-r.length];exact z,?_⟩);have k:f c.heap.objs.size=none:=d.hok.fresh (aag _);refine⟨.ref c.heap.objs.size,upd f c.heap.objs.size (.lst j),d.laid (t':=c.toks) (λb u e=>Heap.get?_push_of_some _ e) (aag _) ?_,rfl,q _ k⟩;exact⟨z,i,0,r,Heap.get?_push_size _ rfl⟩
end
abbrev Sp:=List V->Hp->VK->XK->Prop
abbrev CXT:=List Env->Hp->Shared->XK->Value->Shared->Prop
structure Env0 (P:Program)(w:World)(K:Waa)(mg:Str->Option Value)(base:Heap)(A:Around)(outer:List Env)(s:Shared)(H:Hp):Prop where
 frames:A.frames=some outer
 mod:Mod K mg base
 bs:∀b o,base.get? b=some o->s.heap.get? b=some o/\H b=none
 bsz:base.objs.size<=s.heap.objs.size
 funs:s.heap.FunFrames base outer
 frf:∀b∈sG outer,H b=none
 hok:HOk P w H s.heap
 bare:AllBare s.gens
def CE(a:List Env)(P:Program)(w:World)(H:Hp)(s:Shared)(Q:VK)(u:Value)(b:Shared):Prop:=
 ∃v c,b.os=s.os/\AllBare b.gens/\Un (sG a) [] H c s.heap b.heap/\HOk P w c b.heap/\RelV v u/\Q v c
def CR(CX:CXT)(a:List Env)(P:Program)(w:World)(H:Hp)(s:Shared)(Q:VK)(E:XK)(r:Result)(b:Shared):Prop:=
 match r with
 |.ok (.ret u)=>CE a P w H s Q u b
 |.ok _=>False
 |.error e=>CX a H s E e b
structure FnOk (P:Program)(w:World)(K:Waa)(mg:Str->Option Value)(base:Heap)(CX:CXT)(k:Nat)(f:Addr)(fd:FuncData)(ps:List Str)(sp:Sp):Prop where
 len:∀vs H Q E,sp vs H Q E->vs.length=ps.length
 run:∀(A:Around) (outer:List Env) (s:Shared) (H:Hp) (args:Args) (us:List Value) (vs:List V) (Q:VK) (E:XK),Room k A->Env0 P w K mg base A outer s H->BindsTo s fd args (ps.zip us)->Vals vs us->sp vs H Q E ->
  codeAny (model P w) A (.call (.ref f) args) (CR CX outer P w H s Q E) s
def FnOk.imp{K:Waa}(F:FnOk P w K mg base CX k f fd ps sp)
  (h:∀vs H Q E,sp' vs H Q E->sp vs H Q E):FnOk P w K mg base CX k f fd ps sp':=
 ⟨λvs H Q E q=>F.len vs H Q E (h _ _ _ _ q),λA a s H b c vs Q E e g j i d=>F.run A a s H b c vs Q E e g j i (h _ _ _ _ d)⟩
def Env0.make{K:Waa}(e:Env0 P w K mg base A outer s H)(C:Addr)(us:List Value)(a:List (Str×Value)):
  Env0 P w K mg base (A.under (.builtin "type.__call__" ⟨.ref C::us,a⟩)) outer s H:=⟨by first|exact e.frames|(simpa[Around.under,Code.envs,Code.isFrame,pushEnvs] using e.frames),e.mod,e.bs,e.bsz,e.funs,e.frf,e.hok,e.bare⟩
section
variable{X:Cx}{pins:List (Addr×Obj)}{σ:St}{H:Hp}{s s':Shared}
def Inv.env0(I:Inv X pins σ H s):Env0 X.prog X.w X.K X.mg X.base X.A X.stack s H:=
 ⟨I.ok.frames,I.ok.mod,I.bs,aan I.ok.bsz I.sz,I.stack,I.sj,I.hok,I.bare⟩
def Inv.after(I:Inv X pins σ H s)(h:CE X.stack X.prog X.w H s Q u s'):EP X pins σ Q u s':=by obtain⟨v,i,f,a,j,c,r,q⟩:=h;obtain⟨k,g,d,t,e⟩:=s';obtain rfl:e=s.os:=f;exact⟨v,i,I.call j c a (λb z=>absurd z (by simp)),r,q⟩
end
def ze(sp:Sp)(a:List V)(E:XK)(t:TA):TE:=λd H Q=>t d H λb c=>sp (b++a) c Q E
def sY(C:Addr)(m:Str)(sp:Sp)(b:List V)(E:XK)(f:TE)(t:TA):TE:=λd H Q=>f d H λx c=>∃a g e,x=.ref a/\c a=some (.ins C g e)/\e.lookup m=none /\
 t d c λh i=>sp (x::(h++b)) i Q E
def zf(C:Addr)(sp:Sp)(b:List V)(E:XK)(t:TA):TE:=λf H Q=>t f H λd c=>∀x a,c x=none->c a=none->a≠x ->
 sp (.ref x::(d++b)) (upd (upd c a (.own x)) x (.ins C a [])) (λv e=>v=.non/\Q (.ref x) e) E
def Binds(K:Waa)(b:FuncData)(ps:List Str)(ds:List Value):Prop:=
 ∀(s:Shared) (a:List Value),K.In s.heap->(a++ds).length=ps.length->BindsTo s b ⟨a,[]⟩ (ps.zip (a++ds))
def Binds.all{K:Waa}{a:FuncData}{ps:List Str}(h:∀us:List Value,us.length=ps.length->bindArgs a ⟨us,[]⟩=pure (ps.zip us)):Binds K a ps []:=λs us _ b=>by rw[aam]at b ⊢;exact .of_eq (h us b)
def Passes(CX:CXT)(X:Cx)(E:XK):Prop:=∀(a:List (Addr×Obj)) (c:St) (H:Hp) (s:Shared) (e:Value) (b:Shared),Inv X a c H s->CX X.stack H s E e b->X.xe e b
section
variable{X:Cx}{CX:CXT}{k:Nat}{f C:Addr}{fd:FuncData}{ps:List Str}{sp:Sp}{dvs:List V}{ds:List Value}{E:XK}{x m:Str}{p pos apos:Pos}{e o:Expr}{es:List Expr}{ta:TE}{t:TA}
def ny(F:FnOk X.prog X.w X.K X.mg X.base CX k f fd ps sp)(d:Room k X.A)(n:Binds X.K fd ps ds)(g:Vals dvs ds)(j:Passes CX X E)
  (I:Inv X pins σ H s) (r:Vals vs us) (h:sp (vs++dvs) H Q E):wpAny (model X.prog X.w) X.A (call (.ref f) us) (EP X pins σ Q) X.xe s:=by
 have b:Vals (vs++dvs) (us++ds):=r.append g;have l:(us++ds).length=ps.length:=by rw[<-b.length];exact F.len _ _ _ _ h
 refine wpAny_call (codeAny_mono (F.run X.A X.stack s H ⟨us,[]⟩ (us++ds) (vs++dvs) Q E d I.env0 (n s us I.rd l) b h) λr i a=>?_);cases r with
 |error e=>exact j pins σ H s e i I a
 |ok c=>
  cases c with
  |ret u=>exact I.after a
  |next=>exact False.elim a
  |brk=>exact False.elim a
  |cont=>exact False.elim a
def wR(F:FnOk X.prog X.w X.K X.mg X.base CX k f fd ps sp)(g:Room k X.A)(j:Gl X x)(v:X.mg x=some (.ref f))(hk:PySem.W.keepIn X.K (.ref f)=true)(i:Binds X.K fd ps ds)(y:Vals dvs ds)(n:Passes CX X E)
  (l:PA X (e::es) t) (b:(x==("__debug__":Str))=false:=by decide) (u:starEach (e::es) X.env=(false,eval e X.env)::starEach es X.env:=by rfl) (c:(backTo pos (starEach es X.env)).any (·.1)=false:=by rfl):
  PE X (.Call (.Name x p) (e::es) [] pos) (ze sp dvs E t):=by
 intro a s z H Q I h;refine wpAny_Call_Name_kw (j4 I j v ?_ b);refine abU (h₀:=X.base) I.ok.mod.kin hk (thn (l pos a s z H _ I h) λD L ⟨B,J,d,r,q⟩=>⟨d.rd,?_⟩) u c;exact ny F g i y n d r q
def wU{pl:Sem Bool}(O:PE X o ta)(c:Cls X.K C)(n:Meth X.K C m f)(F:FnOk X.prog X.w X.K X.mg X.base CX k f fd ps sp)(z:Room k X.A)(J:Binds X.K fd ps ds)(U:Vals dvs ds)(P:Passes CX X E)(L:PA X (e::es) t)
  (d:starEach (e::es) X.env=(false,eval e X.env)::starEach es X.env:=by rfl) (g:(backTo pos (starEach es X.env)).any (·.1)=false:=by rfl)
  (M:eval (.Call (.Attribute o m apos) (e::es) [] pos) X.env=(do
   let ov <-eval o X.env
   standAt apos.atName
   let (f,first) <-holding [ov] (getMethod ov m pl)
   callWith pos f first (backTo pos (starEach (e::es) X.env)) (backToKw pos (keywordEach [] X.env))):=by rfl):
  PE X (.Call (.Attribute o m apos) (e::es) [] pos) (sY C m sp dvs E ta t):=by
 intro b s v H Q I h;refine acl (pl:=pl) (thn (O b s v H _ I h) λu S T=>?_) M;obtain⟨x,N,i,y,a,Z,fs,D,W,l,q⟩:=T;subst D;obtain rfl:u=Value.ref a:=y;refine iw i W c n l ?_;refine abU (first:=[.ref a]) I.ok.mod.kin n.kp (thn (L pos b S v N _ i q) λus Y ⟨vs,H2,j,r,B⟩=>⟨j.rd,?_⟩) d g;exact ny (vs:=.ref a::vs) F z J U P j (.cons rfl r) B
def sZ{pl:Sem Bool}(y:PE X o ta)(c:Cls X.K C)(g:Meth X.K C m f)(F:FnOk X.prog X.w X.K X.mg X.base CX k f fd ps sp)(j:Room k X.A)(r:Binds X.K fd ps ds)(D:Vals dvs ds)(z:Passes CX X E)
  (v:eval (.Call (.Attribute o m apos) [] [] pos) X.env=(do
   let ov <-eval o X.env
   standAt apos.atName
   let (f,first) <-holding [ov] (getMethod ov m pl)
   callWith pos f first (backTo pos (starEach [] X.env)) (backToKw pos (keywordEach [] X.env))):=by rfl):
  PE X (.Call (.Attribute o m apos) [] [] pos) (sY C m sp dvs E ta tNil):=by
 intro b s L H Q I h;refine acl (pl:=pl) (thn (y b s L H _ I h) λu P B=>?_) v;obtain⟨x,O,d,i,a,M,N,n,J,l,q⟩:=B;subst n;obtain rfl:u=Value.ref a:=i;refine iw d J c g l ?_;exact PySem.W.callWith_K0 d.rd g.kp (ny (vs:=[.ref a]) F j r D z d (.cons rfl .nil) q)
structure Mk (K:Waa)(C f:Addr):Prop where
 makes:PySem.W.makesIn K C=true
 init:PySem.W.findIn K (.ref C) "__init__"=some (some (.ref f))
 fn:PySem.W.isFn K (.ref f)=true
 kp:PySem.W.keepIn K (.ref C)=true
def tf{a:List (Addr×Obj)}{σ:St}(M:Mk X.K C f)(F:FnOk X.prog X.w X.K X.mg X.base CX k f fd ps sp)(i:Room (k+1) X.A)(q:Binds X.K fd ps ds)(N:Vals dvs ds)
  (J:Passes CX X E) (I:Inv X a σ H s) (r:Vals vs us)
  (h:∀x dx,H x=none->H dx=none->dx≠x->sp (.ref x::(vs++dvs)) (upd (upd H dx (.own x)) x (.ins C dx [])) (λv l=>v=.non/\Q (.ref x) l) E):
  wpAny (model X.prog X.w) X.A (call (.ref C) us) (EP X a σ Q) X.xe s:=by
 have d:=h (s.heap.objs.size+1) s.heap.objs.size (I.hok.fresh (aa6 _)) (I.hok.fresh (aag _)) (aao (aa5 _));have c:=Inv.made (C:=C) I;have g:Vals (V.ref (s.heap.objs.size+1)::(vs++dvs)) (Value.ref (s.heap.objs.size+1)::(us++ds)):=.cons rfl (r.append N);have L:(Value.ref (s.heap.objs.size+1)::us++ds).length=ps.length:=by have e:=g.length;rw[F.len _ _ _ _ d]at e;exact e.symm
 refine wpAny_call (sX I.rd M.makes M.init (beq_iff_eq.mp M.fn) (codeAny_mono (F.run _ X.stack _ _ ⟨Value.ref (s.heap.objs.size+1)::us,[]⟩ (Value.ref (s.heap.objs.size+1)::(us++ds)) _ _ E (i.make C us [])
  (c.env0.make C us []) (q _ (Value.ref (s.heap.objs.size+1)::us) c.rd L) g d) λr D b=>?_))
 cases r with
 |error e=>exact J a σ _ _ e D c b
 |ok n=>
  cases n with
  |ret u=>obtain⟨v,O,z,y,j,B⟩:=c.after b;subst j;exact⟨y,⟨V.ref (s.heap.objs.size+1),O,z,rfl,B⟩⟩
  |next=>exact False.elim b
  |brk=>exact False.elim b
  |cont=>exact False.elim b
def wV(M:Mk X.K C f)(F:FnOk X.prog X.w X.K X.mg X.base CX k f fd ps sp)(g:Room (k+1) X.A)(j:Gl X x)(v:X.mg x=some (.ref C))(i:Binds X.K fd ps ds)(y:Vals dvs ds)(n:Passes CX X E)
  (l:PA X (e::es) t) (b:(x==("__debug__":Str))=false:=by decide) (u:starEach (e::es) X.env=(false,eval e X.env)::starEach es X.env:=by rfl) (c:(backTo pos (starEach es X.env)).any (·.1)=false:=by rfl):
  PE X (.Call (.Name x p) (e::es) [] pos) (zf C sp dvs E t):=by
 intro a s z H Q I h;refine wpAny_Call_Name_kw (j4 I j v ?_ b);refine abU (h₀:=X.base) I.ok.mod.kin M.kp (thn (l pos a s z H _ I h) λD L ⟨B,J,d,r,q⟩=>⟨d.rd,?_⟩) u c;exact tf M F g i y n d r q
end
structure FnScope (N P:List Str)(sc:Scope):Prop where
 kind:sc.kind=.function
 co:sc.isCoroutine=false
 gen:sc.isGenerator=false
 nd:N.Nodup
 pre:N.take P.length=P
 par:∀x∈P,sc.names.lookup x=some .local\/sc.names.lookup x=some .cell
 nofree:∀y∈sc.names,y.2≠.free
def jv{b:Str->Option NameKind}:∀{a:List (Str×Value)}{m:Str->Option Value},(∀v,(x,v) ∉ a)->bindL b a m x=m x
 |[],_,_=>rfl
 | (n,v)::r,m,h=>by
  unfold bindL;rw[jv λw c=>h w (aah _ c)];split
  ·have:x≠n:=by rintro rfl;exact h v aai
   simp[this]
  ·rfl
def jw{b:Str->Option NameKind}:∀{a:List (Str×Value)}{m:Str->Option Value},(∀v,(x,v) ∉ a)->bindC b a m x=m x
 |[],_,_=>rfl
 | (n,v)::r,m,h=>by
  unfold bindC;rw[jw λw c=>h w (aah _ c)];split
  ·rfl
  ·have:x≠n:=by rintro rfl;exact h v aai
   simp[this]
def jx{a:Str->Option NameKind}:∀{P:List Str}{vs:List Value}{i:Nat}{m:Str->Option Value},P.Nodup->P[i]?=some x->vs[i]?=some v->a x=some .local ->
  bindL a (P.zip vs) m x=some v
 |[],_,_,_,_,h,_,_=>by simp at h
 |_::_,[],_,_,_,_,h,_=>by simp at h
 |p::P,w::vs,0,m,nd,h1,h2,hk=>by simp at h1 h2;subst h1;subst h2;show bindL a ((p,w)::P.zip vs) m p=_;unfold bindL;rw[jv λv b=>(aaB.mp nd).1 (abb b).1,if_pos hk];simp
 |p::P,w::vs,i+1,m,nd,h1,h2,hk=>by show bindL a ((p,w)::P.zip vs) m x=_;unfold bindL;exact jx (i:=i) (aaB.mp nd).2 (by simpa using h1) (by simpa using h2) hk
def jy{a:Str->Option NameKind}:∀{P:List Str}{vs:List Value}{i:Nat}{m:Str->Option Value},P.Nodup->P[i]?=some x->vs[i]?=some v->a x≠some .local ->
  bindC a (P.zip vs) m x=some v
 |[],_,_,_,_,h,_,_=>by simp at h
 |_::_,[],_,_,_,_,h,_=>by simp at h
 |p::P,w::vs,0,m,nd,h1,h2,hk=>by simp at h1 h2;subst h1;subst h2;show bindC a ((p,w)::P.zip vs) m p=_;unfold bindC;rw[jw λv b=>(aaB.mp nd).1 (abb b).1,if_neg hk];simp
 |p::P,w::vs,i+1,m,nd,h1,h2,hk=>by show bindC a ((p,w)::P.zip vs) m x=_;unfold bindC;exact jy (i:=i) (aaB.mp nd).2 (by simpa using h1) (by simpa using h2) hk
def start(N:List Str)(vs:List V):St:=vs.map some++List.replicate (N.length-vs.length) none
def kc(CX:CXT)(P:Program)(w:World)(K:Waa)(mg:Str->Option Value)(base:Heap)(N:List Str)(b:Str)(a:Scope)(f:Addr)(d:Value)(A:Around)(outer:List Env)(s:Shared)(H:Hp)(E:XK):Cx where
 prog:=P
 w:=w
 K:=K
 mg:=mg
 base:=base
 A:=A.deeper (envOfC b a s.heap.objs.size f d)
 N:=N
 s₀:=s
 H₀:=H
 env:=envOfC b a s.heap.objs.size f d
 outer:=outer
 stack:=envOfC b a s.heap.objs.size f d::outer
 ex:=[]
 calm:=true
 fn:=λ_=>true
 pn:=[]
 xe:=λe h=>wpAny (model P w) (A.deeper (envOfC b a s.heap.objs.size f d)) (leaving (envOfC b a s.heap.objs.size f d) e) (λ_ c=>CX outer H s E e c) (λg c=>CX outer H s E g c) h
def lO{sc:Scope}(h:sc.names.lookup x=some .cell):∃c,(cellsFrom n sc.names []).lookup x=some c:=by have q:=acm sc.names n [] (.inl h);exact abc.mp q
def rq{K:Waa}
  (S:FnScope N ps scope) (J:A.handled=none) (g:Env0 P w K mg base A outer s H) (O:vs.length=ps.length) (r:Vals vs us)
  (x:InCallC s s.heap.objs.size (bindL (envOfC qual scope s.heap.objs.size f cd).kindOf (ps.zip us) λ_=>none) (cellsFrom (s.heap.objs.size+1) scope.names []) (bindC (envOfC qual scope s.heap.objs.size f cd).kindOf (ps.zip us) λ_=>none) s1):
  Inv (kc CX P w K mg base N qual scope f cd A outer s H E) [] (start N vs) H s1:=by
 have I:ps.length<=N.length:=by have:=congrArg List.length S.pre;rw[abk]at this;omega
 obtain⟨o,M,rfl,B⟩:=x.done;have l:∀b:Addr,b ∉ (kc CX P w K mg base N qual scope f cd A outer s H E).ex:=λb z=>absurd (show b∈([]:List Addr) from z) (by simp);refine⟨⟨g.mod,S.kind,rfl,rfl,aag _,λy z c o d=>?_,λy j=>?_,λy c _ h=>?_,λ_=>J,Around.frames_deeper g.frames,.inr ⟨rfl,rfl⟩,λb z=>absurd z (l b),g.bs,g.bsz,λb _ _=>l b,λb z=>absurd z (l b),g.funs,g.frf⟩,
  rfl,g.bare,Un.kept B,⟨_,x.toInCall.ns,λi y v o d L=>?_⟩,λy c h=>⟨_,x.cell y c h⟩,g.hok.fresh (aag _),λy c h=>?_,λp n=>absurd (show p∈([]:List (Addr×Obj)) from n) (by simp),g.hok.kept B,?_⟩
 ·exact name_of_addr x.apart (aa7 o) (aa7 d)
 ·have j:scope.names.lookup y=some .cell\/scope.names.lookup y=some .free:=j;rcases j with j|j
  ·exact lO j
  ·exact absurd rfl (S.nofree _ (aa7 j))
 ·exact aaQ (x.above y c (aa7 h))
 ·have t:i<vs.length:=by
   unfold start at d;by_cases t:i<vs.length
   ·exact t
   ·rw[abx (by simpa using t)]at d;rw[acn]at d;split at d<;>cases d
  have F:vs[i]?=some v:=by
   unfold start at d;rw[abV (by simpa using t),aav]at d;cases e:vs[i]? with
   |none=>rw[e]at d;cases d
   |some a=>rw[e]at d;cases d;rfl
  obtain⟨u,C,D⟩:=r.get F;have n:ps[i]?=some y:=by rw[<-S.pre,List.getElem?_take_of_lt (by omega)];exact o
  have m:ps.Nodup:=by rw[<-S.pre];exact S.nd.sublist (List.take_sublist _ _)
  refine⟨u,D,?_⟩;rcases S.par y (abd n) with k|k
  ·exact .inl ⟨k,jx m n C k⟩
  ·obtain⟨c,e⟩:=lO k;refine .inr ⟨.inl k,c,e,?_⟩;have q:=x.cell y c e;rw[jy m n C (by show scope.names.lookup y≠_;rw[k];decide)]at q;exact q
 ·exact g.hok.fresh (aaQ (x.above y c (aa7 h)))
 ·unfold start;show _=N.length;rw[aal,aaa,aby];omega
def Dn{K:Waa}{T kV B X c ct oc:Value}{an od:Option Addr}
  {M:Array (Option Value)}{N ps:List Str}{sp:Sp} (lk:K.lookup f=some ⟨oc,od,.func (PySem.W.fnOf name qual params body scope T kV B X an c ct),M⟩) (L:PySem.W.codeIn K c qual=true) (S:FnScope N ps scope)
  (m:∀vs H Q E,sp vs H Q E->vs.length=ps.length)
  (i:∀(A:Around) (a:List Env) (s:Shared) (H:Hp) (vs:List V) (Q:VK) (E:XK),Room k (A.deeper (envOfC qual scope s.heap.objs.size f c))->sp vs H Q E ->
   ∃t,PSs (kc CX P w K mg base N qual scope f c A a s H E) body t/\t { nx:=λ_ g=>Q .non g,rt:=Q } (start N vs) H):
  FnOk P w K mg base CX (k+1) f (PySem.W.fnOf name qual params body scope T kV B X an c ct) ps sp:=by
 refine⟨m,λA a s H Y us vs Q E C p hb r z=>?_⟩;have hl:=m _ _ _ _ z;have U:K.In s.heap:=p.mod.kin.keeps λb o e=>(p.bs b o e).1;have O:s.heap.NoLimit:=p.mod.nolimit.keeps λb o e=>(p.bs b o e).1;have h:∀y∈ps.zip us,scope.names.lookup y.1=some .local\/(scope.names.lookup y.1=some .cell/\((cellsFrom (s.heap.objs.size+1) scope.names []).lookup y.1).isSome=true):=λ⟨n,v⟩ hy=>by
  rcases S.par n (abb hy).1 with q|q
  ·exact .inl q
  ·exact .inr ⟨q,acm _ _ _ (.inl q)⟩
 refine codeAny_call_function C.depth (U _ _ lk) rfl S.co S.gen rfl (PySem.W.codeRec_of U L) (hb _ _ _ _ ?_);refine wpAny_newFunctionEnv_cells S.kind h λa0 he Z x=>?_;subst he;refine⟨O.keeps x.toInCall.keep,codeAny_func ?_⟩;obtain⟨t,ht,hq⟩:=i A a s H vs Q E (C.deeper _) z;have I:Inv (kc CX P w K mg base N qual scope f c A a s H E) [] (start N vs) H Z:=rq S C.hd p hl r x;refine wpAny_mono (ht [] Z (start N vs) H _ I hq) (λfl F j=>?_) λe F j=>j;have l:∀{d:St}{g:Hp}{v:V}{u:Value},Inv (kc CX P w K mg base N qual scope f c A a s H E) [] d g F->RelV v u->Q v g->CE a P w H s Q u F:=
  λ{d g v u} J D q=>⟨v,g,J.os,J.bare,J.base,J.hok,D,q⟩
 cases fl with
 |ret u=>obtain⟨v,d,g,J,D,q⟩:=j;exact l J D q
 |next=>obtain⟨d,g,J,q⟩:=j;exact l (v:=V.non) (u:=Value.none) J rfl q
 |brk=>obtain⟨_,_,_,q⟩:=j;exact False.elim q
 |cont=>obtain⟨_,_,_,q⟩:=j;exact False.elim q
end
section
section
variable{X:Cx}{x:Str}{p pos:Pos}{e:Expr}{es:List Expr}{t:TA}{id T:String}{r:List V->Hp->VK->Prop}
def Gr(r:List V->Hp->VK->Prop)(t:TA):TE:=λc H Q=>t c H λa b=>r a b Q
def cA(i:bZ X (.builtin id) r) (k:Gl X x) (u:X.mg x=none) (w:bootBuiltins x=some (.builtin id)) (l:PA X (e::es) t) (m:x≠"__name__":=by decide) (b:(x==("__debug__":Str))=false:=by decide)
  (o:starEach (e::es) X.env=(false,eval e X.env)::starEach es X.env:=by rfl) (c:(backTo pos (starEach es X.env)).any (·.1)=false:=by rfl):PE X (.Call (.Name x p) (e::es) [] pos) (Gr r t):=by
 intro a s d H Q I h;refine wpAny_Call_Name_kw (f9 I k u w ?_ m b);exact PyProof.Rows.callWith_builtin1 (thn (l pos a s d H _ I h) λj q ⟨g,n,f,y,v⟩=>i a q d n g j Q f y v) o c
def gf(i:bZ X (.type T) r) (k:Gl X x) (u:X.mg x=none) (w:bootBuiltins x=some (.type T)) (l:PA X (e::es) t) (m:x≠"__name__":=by decide) (b:(x==("__debug__":Str))=false:=by decide)
  (o:starEach (e::es) X.env=(false,eval e X.env)::starEach es X.env:=by rfl) (c:(backTo pos (starEach es X.env)).any (·.1)=false:=by rfl):PE X (.Call (.Name x p) (e::es) [] pos) (Gr r t):=by
 intro a s d H Q I h;refine wpAny_Call_Name_kw (f9 I k u w ?_ m b);exact abw (thn (l pos a s d H _ I h) λj q ⟨g,n,f,y,v⟩=>i a q d n g j Q f y v) o c
end
end
end L2
namespace L2
open PySem PySem.Spec PyProof.Rows
section
abbrev TO:=St->Hp->(Option Int->Hp->Prop)->Prop
end
section
def ixN(n:Nat)(i:Int):Option Nat:=if 0<=i then (if i<n then some i.toNat else none) else if -(n:Int)<=i then some (i+n).toNat else none
def atI{a:Type}(xs:List a)(i:Int):Option a:=(ixN xs.length i).bind λj=>xs[j]?
def ixN_seq(h:ixN n i=some j):seqIndex? i n=some j/\j<n/\-(n:Int)<=i/\i<n:=by
 unfold ixN at h;by_cases b:0<=i
 ·rw[if_pos b]at h;by_cases a:i<n
  ·rw[if_pos a]at h;have e:i.toNat=j:=aaD h;exact⟨by rw[seqIndex_of b a,e],by omega,by omega,a⟩
  ·rw[if_neg a]at h;cases h
 ·rw[if_neg b]at h;by_cases a:-(n:Int)<=i
  ·rw[if_pos a]at h;have e:(i+n).toNat=j:=aaD h;exact⟨by rw[seqIndex_neg (by omega) a,e],by omega,a,by omega⟩
  ·rw[if_neg a]at h;cases h
def atI_get{a:Type}{xs:List a}{i:Int}{v:a}(h:atI xs i=some v):∃j,seqIndex? i xs.length=some j/\xs[j]?=some v/\j<xs.length/\-(xs.length:Int)<=i/\i<xs.length:=by
 unfold atI at h;cases e:ixN xs.length i with
 |none=>rw[e]at h;cases h
 |some j=>rw[e]at h;obtain⟨f,d,c,b⟩:=ixN_seq e;exact⟨j,f,h,d,c,b⟩
def atI_last{a:Type}(xs:List a)(v:a):atI (xs++[v]) (-1)=some v:=by
 have b:(xs++[v]).length=xs.length+1:=by simp
 have e:ixN (xs++[v]).length (-1)=some xs.length:=by unfold ixN;rw[b,if_neg (by decide),if_pos (by omega)];congr 1;omega
 unfold atI;rw[e];show (xs++[v])[xs.length]?=some v;simp
def PlainIx(b:Expr):Prop:=∀o i,subscripted b false o i=operate [o,i] (getItem o i)
def IxR(X:Cx)(r:R2):Prop:=
 ∀(c a:Expr) (b:List (Addr×Obj)) (s:Shared) (d:St) (H:Hp) (x y:V) (v u:Value) (Q:VK),Inv X b d H s->RelV x v->RelV y u->r x y H Q ->
  subscripted a false v u=operate [v,u] (getItem v u)->wpAny (model X.prog X.w) X.A (subscriptTail c a v u) (EP X b d Q) X.xe s
def Io(X:Cx)(id:String)(r:V->List V->Hp->VK->Prop):Prop:=
 ∀(a:List (Addr×Obj)) (s:Shared) (d:St) (H:Hp) (x:V) (b:List V) (v:Value) (c:List Value) (Q:VK),Inv X a d H s->RelV x v->Vals b c->r x b H Q ->
  wpAny (model X.prog X.w) X.A (call (.builtin id) (v::c)) (EP X a d Q) X.xe s
section
variable{X:Cx}{a b:Expr}{ta tb:TE}{pos:Pos}
def IxR.or(h:IxR X r)(h':IxR X r'):IxR X (λx y H Q=>r x y H Q\/r' x y H Q):=by
 intro d c e s j H x y v u Q I f i q g;rcases q with q|q
 ·exact h d c e s j H x y v u Q I f i q g
 ·exact h' d c e s j H x y v u Q I f i q g
def th(g:IxR X r)(l:PE X a ta)(j:PE X b tb)(f:PlainIx b):PE X (.Subscript a b pos) (y6 r ta tb):=by intro c s n H Q I h;exact Subscript_ (An l j I h λv u d x y i k e m q=>g a b c d n i x y v u Q k e m q (f _ _))
def Do(K:Waa):R2:=λx y H Q=>∃p c i v,x=.ref p/\y=.int i/\SqL K H p c/\atI c i=some v/\Q v H
def Dp(K:Waa):R2:=λx y H Q=>∃p c i v,x=.ref p/\y=.int i/\SqT K H p c/\atI c i=some v/\Q v H
def rIxS:R2:=λx y H Q=>∃z i c,x=.str z/\y=.int i/\z.length<=sizeLine/\atI z.cps.toList i=some c/\Q (.str ⟨#[c]⟩) H
def ix_list:IxR X (Do X.K):=by
 intro l k c s C H x y v u Q I D O h o;obtain⟨p,W,i,z,rfl,rfl,F,P,q⟩:=h;cases D;obtain⟨t,rfl⟩:=O;obtain⟨f,r,n,U⟩:=I.list F;obtain⟨j,e,J,T,M,L⟩:=atI_get P;obtain⟨w,A,m⟩:=r.get J;have S:=r.length;have Y:=line63;have d:EP X c C Q w s:=⟨z,H,I,m,q⟩
 by_cases B:0<=i
 ·have g:i.toNat=j:=by rw[seqIndex_of B L]at e;exact aaD e
  exact item_listR n.isList B (by omega) (by rw[g];simpa using A) d o
 ·have g:(i+(f.toArray.size:Int)).toNat=j:=by rw[seqIndex_neg (by omega) M]at e;rw[aau,<-S];exact aaD e
  exact subscriptTail_builtinR (x:=w) n.isList.typeIs slot_list_getitem.lookup
   (wpAny_getItem_list_neg (Q:=λr N=>r=w/\EP X c C Q r N) n.isList (by omega) (by rw[aau]<;>omega) (by omega) (by rw[g];simpa using A) ⟨rfl,d⟩) o
def ix_tup:IxR X (Dp X.K):=by
 intro f e c s k H x y v u Q I m F h n;obtain⟨p,S,i,z,rfl,rfl,o,J,q⟩:=h;cases m;obtain⟨t,rfl⟩:=F;obtain⟨A,r,l,O⟩:=I.tuple o;obtain⟨j,M,B,N,T,P⟩:=atI_get J;obtain⟨w,C,g⟩:=r.get B;have L:=r.length;have U:=line63;have d:EP X c k Q w s:=⟨z,H,I,g,q⟩
 exact subscriptTail_builtinR (x:=w) l.typeIs slot_tuple_getitem.lookup
  (getItem_tuple (j:=j) (Q:=λr D=>r=w/\EP X c k Q r D) l (by omega) (by omega) (by rw[aau,<-L];exact M) (by simpa using C) ⟨rfl,d⟩) n
def AB:IxR X rIxS:=by
 intro e d f s L H x y v u Q I k w h l;obtain⟨z,i,c,rfl,rfl,D,A,q⟩:=h;obtain⟨t,rfl⟩:=k;obtain⟨F,rfl⟩:=w;obtain⟨j,g,o,C,r,p⟩:=atI_get A;have B:z.cps.toList.length=z.length:=by simp[Str.length]
 rw[B]at g r p;have J:=line63;exact tail_any (typeIs_str s z t) slot_str_getitem.lookup (getItem_str (c:=c) (by
  have m:decide (i < -(2^63:Int))=false:=Dab (by omega);have n:decide (i ≥ 2^63)=false:=Dab (by omega);rw[m,n,abz]) (by rw[g];simpa using o) ⟨.str ⟨#[c]⟩,H,I.tok _,⟨_,rfl⟩,q⟩) l
def HG(K:Waa):R2:=λx y H Q=>Do K x y H Q\/Dp K x y H Q\/rIxS x y H Q
def nz:IxR X (HG X.K):=ix_list.or (ix_tup.or AB)
def nF(c:List Value)(n j:Nat)(u:Value):Obj.mapSeq (·.setIfInBounds j u) { cls:=.type "list",data:=.seq c.toArray n }={ cls:=.type "list",data:=.seq (c.set j u).toArray n }:=by simp[Obj.mapSeq]
def Inv.lst{d:List (Addr×Obj)}{σ:St}(I:Inv X d σ H s)(h:H p=some (.lst xs)):
  ∃(c:List Value) (n:Nat),Vals xs c/\s.heap.get? p=some { cls:=.type "list",data:=.seq c.toArray n }/\xs.length<=sizeLine:=by
 obtain⟨z,c,n,r,e⟩:=I.hok p _ h;exact⟨c,n,r,e,z⟩
def Inv.lstUpd{xs ys:List V}{d c:List Value}{n g:Nat}{f:Obj->Obj}(I:Inv X pins σ H s)(h:H p=some (.lst xs))
  (l:s.heap.get? p=some { cls:=.type "list",data:=.seq d.toArray n }) (i:f { cls:=.type "list",data:=.seq d.toArray n }={ cls:=.type "list",data:=.seq c.toArray g }) (r:Vals ys c) (j:ys.length<=sizeLine) (t:Nat):
  Inv X pins σ (upd H p (.lst ys)) { s with heap:=s.heap.update p f,toks:=t }:=by
 have e:(s.heap.update p f).get? p=some { cls:=.type "list",data:=.seq c.toArray g }:=by rw[Heap.get?_update_self f l (by rw[i]<;>rfl),i]
 refine I.write (by rw[h];trivial) (.inl rfl) (λb u k q=>(Heap.get?_update_other _ _ (aaG k)).trans q) ⟨_,e⟩ ?_;exact⟨j,c,g,r,e⟩
def rSetL:V->V->V->Hp->(Hp->Prop)->Prop:=λo i v H Q=>∃p c k j,o=.ref p/\i=.int k/\H p=some (.lst c)/\ixN c.length k=some j/\Q (upd H p (.lst (c.set j v)))
def set_list:PSet X rSetL:=by
 intro d s L H o i v M N u Q I J A C h;obtain⟨p,F,k,j,rfl,rfl,w,D,q⟩:=h;cases J;obtain⟨t,rfl⟩:=A;obtain⟨c,n,r,l,B⟩:=I.lst w;obtain⟨e,O,m,y⟩:=ixN_seq D;have g:=r.length;have P:=line63;have x:Inv X d L (upd H p (.lst (F.set j v))) { s with heap:=s.heap.update p (Obj.mapSeq (·.setIfInBounds j u)) }:=
  I.lstUpd w l (nF c n j u) (r.set C j) (by rw[aaN];exact B) s.toks
 by_cases z:0<=k
 ·have f:k.toNat=j:=by rw[seqIndex_of z y]at e;exact aaD e
  exact PySem.W.ki_setAt l z (by omega) (by rw[aau,<-g];exact y) (by rw[f];exact⟨_,x,q⟩)
 ·have f:(k+(c.toArray.size:Int)).toNat=j:=by rw[seqIndex_neg (by omega) m]at e;rw[aau,<-g];exact aaD e
  exact PySem.W.ki_setBack l (by omega) (by rw[aau,<-g];exact m) (by omega) (by rw[f];exact⟨_,x,q⟩)
def cL:V->Bool
 |.non=>true
 |.bl _=>true
 |.int _=>true
 |.str _=>true
 |_=>false
def eqV:V->V->Bool
 |.non,.non=>true
 |.bl a,.bl b=>a==b
 |.bl a,.int b=>(if a then 1 else 0)==b
 |.int a,.bl b=>a==(if b then 1 else 0)
 |.int a,.int b=>a==b
 |.str a,.str b=>a==b
 |_,_=>false
def AC(f:RelV y u)(c:RelV x v)(g:cL y=true)(e:cL x=true):SeqAt.EqAt A s u v (eqV y x):=by
 cases y with
 |non=>
  cases f;cases x with
  |non=>cases c;exact SeqAt.EqAt.same _
  |bl b=>cases c;exact SeqAt.EqAt.none_bool b
  |int b=>obtain⟨t,rfl⟩:=c;exact SeqAt.EqAt.none_int b t
  |str b=>obtain⟨t,rfl⟩:=c;exact SeqAt.EqAt.none_str b t
  |_=>exact absurd (show false=true from e) aaf
 |bl a=>
  cases f;cases x with
  |non=>cases c;exact SeqAt.EqAt.bool_none a
  |bl b=>cases c;exact SeqAt.EqAt.bool_bool a b
  |int b=>obtain⟨t,rfl⟩:=c;exact SeqAt.EqAt.bool_int a b t
  |str b=>obtain⟨t,rfl⟩:=c;exact SeqAt.EqAt.bool_str a b t
  |_=>exact absurd (show false=true from e) aaf
 |int a=>
  obtain⟨d,rfl⟩:=f;cases x with
  |non=>cases c;exact SeqAt.EqAt.int_none a d
  |bl b=>cases c;exact SeqAt.EqAt.int_bool a d b
  |int b=>obtain⟨t,rfl⟩:=c;exact SeqAt.EqAt.int_int a d b t
  |str b=>obtain⟨t,rfl⟩:=c;exact SeqAt.EqAt.int_str a d b t
  |_=>exact absurd (show false=true from e) aaf
 |str a=>
  obtain⟨d,rfl⟩:=f;cases x with
  |non=>cases c;exact SeqAt.EqAt.str_none a d
  |bl b=>cases c;exact SeqAt.EqAt.str_bool a d b
  |int b=>obtain⟨t,rfl⟩:=c;exact SeqAt.EqAt.str_int a d b t
  |str b=>obtain⟨t,rfl⟩:=c;exact SeqAt.EqAt.str_str a d b t
  |_=>exact absurd (show false=true from e) aaf
 |_=>exact absurd (show false=true from g) aaf
def nG(x:V)(u:Value):Bool:=match u with
 |.none=>eqV .non x
 |.bool b=>eqV (.bl b) x
 |.int i _=>eqV (.int i) x
 |.str z _=>eqV (.str z) x
 |_=>false
def tj(r:RelV y u)(f:cL y=true):nG x u=eqV y x:=by
 cases y with
 |non=>cases r;rfl
 |bl b=>cases r;rfl
 |int i=>obtain⟨t,rfl⟩:=r;rfl
 |str z=>obtain⟨t,rfl⟩:=r;rfl
 |_=>exact absurd (show false=true from f) aaf
def ft:∀{xs:List V}{us:List Value},Vals xs us->xs.all cL=true->us.any (nG x)=xs.any λy=>eqV y x
 |_,_,.nil,_=>rfl
 |y::xs,u::us,.cons r t,f=>by rw[List.all_cons,aaE]at f;rw[aaP,aaP,tj r f.1,ft t f.2]
def dR(e:RelV x v)(d:cL x=true):∀{xs:List V}{us:List Value},Vals xs us->xs.all cL=true->∀u∈us,SeqAt.EqAt A s u v (nG x u)
 |_,_,.nil,_=>λu c=>by cases c
 |y::xs,u::us,.cons r t,f=>λg c=>by
  rw[List.all_cons,aaE]at f;rcases aab.mp c with rfl|c
  ·rw[tj r f.1];exact AC r e f.1 d
  ·exact dR e d t f.2 g c
def inV(x:V)(xs:List V):Bool:=xs.any λy=>eqV y x
def Gs(K:Waa)(neg:Bool):R2:=λx y H Q=>∃p c,y=.ref p/\(SqL K H p c\/SqT K H p c)/\cL x=true/\c.all cL=true/\Q (.bl (if neg then !inV x c else inV x c)) H
def rA:OpR X (compareOp .In) (Gs X.K false):=by
 intro j s o H x y v u Q I i m h;obtain⟨p,n,rfl,d,k,e,q⟩:=h;cases m;rcases d with d|d
 ·obtain⟨c,r,g,l⟩:=I.list d;refine SeqAt.in_listAt (nG x) g.isList (λw f=>dR i k r e w (by simpa using f)) ⟨.bl _,H,I,rfl,?_⟩;rw[show c.toArray.any (nG x)=c.any (nG x) by simp,ft r e];exact q
 ·obtain⟨c,r,g,l⟩:=I.tuple d;refine SeqAt.in_tupleAt (nG x) g (λw f=>dR i k r e w (by simpa using f)) ⟨.bl _,H,I,rfl,?_⟩;rw[show c.toArray.any (nG x)=c.any (nG x) by simp,ft r e];exact q
def kf:OpR X (compareOp .NotIn) (Gs X.K true):=by
 intro j s o H x y v u Q I i m h;obtain⟨p,n,rfl,d,k,e,q⟩:=h;cases m;rcases d with d|d
 ·obtain⟨c,r,g,l⟩:=I.list d;refine SeqAt.notIn_listAt (nG x) g.isList (λw f=>dR i k r e w (by simpa using f)) ⟨.bl _,H,I,rfl,?_⟩;rw[show c.toArray.any (nG x)=c.any (nG x) by simp,ft r e];exact q
 ·obtain⟨c,r,g,l⟩:=I.tuple d;refine SeqAt.notIn_tupleAt (nG x) g (λw f=>dR i k r e w (by simpa using f)) ⟨.bl _,H,I,rfl,?_⟩;rw[show c.toArray.any (nG x)=c.any (nG x) by simp,ft r e];exact q
def kg:bZ X (.builtin "len") (λxs H Q=>∃p ys,xs=[.ref p]/\(SqL X.K H p ys\/SqT X.K H p ys)/\Q (.int ys.length) H):=by
 intro i s n H xs l Q I r h;obtain⟨p,ys,rfl,d,q⟩:=h;obtain⟨u,rfl,j⟩:=vals1 r;cases j;have m:=line63;rcases d with d|d
 ·obtain⟨e,g,f,k⟩:=I.list d;have c:=g.length;exact Calls.call_len_list f.isList (by simp only[aau]<;>omega) ⟨.int ys.length,H,I.tok _,⟨s.toks+1,by rw[aau,c]⟩,q⟩
 ·obtain⟨e,g,f,k⟩:=I.tuple d;have c:=g.length;exact len_tuple f (by simp only[aau]<;>omega) ⟨.int ys.length,H,I.tok _,⟨s.toks+1,by rw[aau,c]⟩,q⟩
def kh:bZ X (.type "list") (λxs H Q=>∃p ys,xs=[.ref p]/\(SqL X.K H p ys\/SqT X.K H p ys)/\∀l,H l=none->Q (.ref l) (upd H l (.lst ys))):=by
 intro v s D H xs F Q I r h;obtain⟨p,ys,rfl,j,q⟩:=h;obtain⟨u,rfl,C⟩:=vals1 r;cases C;have t:∀(c:List Value),Vals ys c->ys.length<=sizeLine->∀(d:Heap) (g:Nat),(∀b B,s.heap.get? b=some B->d.get? b=some B) ->
   d.get? s.heap.objs.size=some { cls:=.type "list",dict:=none,data:=.seq c.toArray g,slots:=#[] }->EP X v D Q (.ref s.heap.objs.size) { s with heap:=d }:=λc f k d g m e=>
  ⟨.ref s.heap.objs.size,_,I.laid m (aag _) (show ObjOk X.prog X.w _ d _ (.lst ys) from ⟨k,c,g,f,e⟩),rfl,q _ (I.hok.fresh (aag _))⟩
 rcases j with j|j
 ·obtain⟨c,f,z,k⟩:=I.list j;have i:=f.length;obtain⟨o,A,x,n,y⟩:=z.isList;exact call_list_seq p (.inl rfl) A x y (λd g m e=>t c f k d g m e) (by simp only[aau]<;>omega)
 ·obtain⟨c,f,z,k⟩:=I.tuple j;have i:=f.length;obtain⟨o,A,x,n,y⟩:=z;exact call_list_seq p (.inr rfl) A x y (λd g m e=>t c f k d g m e) (by simp only[aau]<;>omega)
def jt:bZ X (.type "tuple") (λxs H Q=>∃p ys,xs=[.ref p]/\((SqL X.K H p ys/\∀l,H l=none->Q (.ref l) (upd H l (.tup ys)))\/(SqT X.K H p ys/\Q (.ref p) H))):=by
 intro c s t H xs z Q I r h;obtain⟨p,ys,rfl,h⟩:=h;obtain⟨u,rfl,v⟩:=vals1 r;cases v;rcases h with ⟨g,q⟩|⟨g,q⟩
 ·obtain⟨d,j,i,n⟩:=I.list g;have m:=j.length;refine call_tuple_list i.isList (λf x=>?_) (by simp only[aau]<;>omega);have k:Inv X c t H { s with heap:=f }:=I.kept x;have y:Inv X c t (upd H f.objs.size (.tup ys)) { s with heap:=f.push { cls:=.type "tuple",data:=.seq d.toArray } }:=
   k.laid (λb o e=>Heap.get?_push_of_some _ e) (aag _) (show ObjOk X.prog X.w _ _ _ (.tup ys) from ⟨n,d,j,IsTup.new _ _⟩)
  exact⟨.ref f.objs.size,_,y,rfl,q _ (k.hok.fresh (aag _))⟩
 ·obtain⟨d,j,i,n⟩:=I.tuple g;exact call_tuple_same i ⟨.ref p,H,I,rfl,q⟩
def HH(K:Waa)(T:String)(x:V)(H:Hp):Prop:=match x with
 |.str _=>T="str"
 |.int _=>T="int"
 |.ref p=>(T="list"/\∃d,SqL K H p d)\/(T="tuple"/\∃o,K.lookup p=some o/\o.cls=.type "tuple"/\o.dict=none) \/
   (T="dict"/\((∃c,H p=some (.dK c))\/∃c,H p=some (.dT c)))\/(T="set"/\∃S n,H p=some (.set S n))
 |_=>False
def AD{g:List (Addr×Obj)}{σ:St}(I:Inv X g σ H s)(r:RelV x v)(h:HH X.K T x H):
  s.TypeIs v T/\∀a,v=.ref a->∃m,s.heap.get? a=some m/\m.dict=none:=by
 cases x with
 |str z=>obtain⟨t,rfl⟩:=r;cases (show T="str" from h);exact⟨typeIs_str s z t,λ_ e=>nomatch e⟩
 |int i=>obtain⟨t,rfl⟩:=r;cases (show T="int" from h);exact⟨typeIs_int s i t,λ_ e=>nomatch e⟩
 |ref p=>
  cases r;rcases h with ⟨rfl,A,u⟩|⟨rfl,o,d,w,l⟩|⟨rfl,d⟩|⟨rfl,S,n,d⟩
  ·obtain⟨y,_,q,_⟩:=I.list u;refine⟨q.isList.typeIs,λa e=>?_⟩;cases e;obtain⟨o,n,e,c,l,_⟩:=q;exact⟨o,e,l⟩
  ·refine⟨⟨o,I.rd p o d,w⟩,λa e=>?_⟩;cases e;exact⟨o,I.rd _ o d,l⟩
  ·have z:∃o,s.heap.get? p=some o/\o.ExactDict:=by
    rcases d with ⟨k,d⟩|⟨k,d⟩
    ·obtain⟨_,_,_,_,o,_,_,e,f,_⟩:=I.hok p _ d;exact⟨o,e,f⟩
    ·obtain⟨_,_,_,_,o,_,_,e,f,_⟩:=I.hok p _ d;exact⟨o,e,f⟩
   obtain⟨o,e,f⟩:=z;refine⟨⟨o,e,f.1⟩,λa j=>?_⟩;cases j;exact⟨o,e,f.2.1⟩
  ·obtain⟨o,_,_,_,e,f,_⟩:=I.hok p _ d;refine⟨⟨o,e,f.1⟩,λa j=>?_⟩;cases j;exact⟨o,e,f.2.1⟩
 |_=>exact False.elim h
def Ip(K:Waa)(T:String)(r:V->List V->Hp->VK->Prop)(f:TE)(t:TA):TE:=λd H Q=>f d H λx c=>HH K T x c/\t d c λe g=>r x e g Q
variable{o e:Expr}{es:List Expr}{to:TE}{t:TA}{name:Str}{apos cpos:Pos}{T id:String}{r:V->List V->Hp->VK->Prop}
def tm(C:PlainAttrs T) (i:Slot T name id) (k:typeOf (.builtin id)=pure (.type "method_descriptor")) (N:Io X id r) (W:PE X o to) (D:PA X (e::es) t)
  (g:attributeBase o name X.env (eval o X.env)=eval o X.env:=by rfl)
  (j:((backTo cpos (starEach (e::es) X.env)).all (λx=>!x.1)&&(backToKw cpos (keywordEach [] X.env)).all (λx=>x.1.isSome)
   && decide ((e::es).length+([]:List Keyword).length+(if ([]:List Keyword).isEmpty then 0 else 1)<30))=true:=by rfl)
  (f:(apos.endLine==cpos.line)=true:=by rfl) (u:starEach (e::es) X.env=(false,eval e X.env)::starEach es X.env:=by rfl) (d:(backTo cpos (starEach es X.env)).any (·.1)=false:=by rfl):
  PE X (.Call (.Attribute o name apos) (e::es) [] cpos) (Ip X.K T r to t):=by
 intro c s l H Q I h;refine wpAny_Call_method_late g j f rfl (thn (W c s l H _ I h) λv L O=>?_);obtain⟨x,J,m,p,S,U⟩:=O;obtain⟨M,F⟩:=AD m p S;refine⟨T,id,C,i,k,M,F,?_⟩;have n:=D cpos c L l J _ m U;rw[u]at n ⊢;refine Calls.callWith_builtin (by show (false||(backTo cpos (starEach es X.env)).any (·.1))=false;rw[d]<;>rfl) (Calls.evalArgs_plain ?_);exact thn n λB q ⟨w,z,A,P,y⟩=>N c q l z x w v B Q A p P y
end
end
section
def Iq(X:Cx)(id:String)(r:V->List V->Hp->VK->Prop):Prop:=
 ∀(a:List (Addr×Obj)) (s:Shared) (d:St) (H:Hp) (x:V) (b:List V) (v:Value) (c:List Value) (Q:VK),Inv X a d H s->RelV x v->Vals b c->r x b H Q ->
  wpAny (model X.prog X.w) X.A (call (.builtin id) (v::c)) (EP X a d Q) X.xe s
def Vals.one(h:Vals [x] us):∃u,us=[u]/\RelV x u:=by
 cases h with|cons r t=>cases t;exact⟨_,rfl,r⟩
def Vals.two(h:Vals [x,y] us):∃u v,us=[u,v]/\RelV x u/\RelV y v:=by
 cases h with|cons r t=>cases t with|cons q t=>cases t;exact⟨_,_,rfl,r,q⟩
section
variable{X:Cx}{pins:List (Addr×Obj)}{σ:St}{H:Hp}{s:Shared}{l b:Addr}{xs ys zs:List V}
def Inv.lset{c a:List Value}{n:Nat}{f:Array Value->Array Value}{t':Nat}(I:Inv X pins σ H s)(j:H l=some (.lst xs))
  (e:s.heap.get? l=some { cls:=.type "list",data:=.seq c.toArray n }) (k:f c.toArray=a.toArray) (g:Vals ys a) (d:ys.length<=sizeLine):
  Inv X pins σ (upd H l (.lst ys)) { s with heap:=s.heap.update l (Obj.mapSeq f),toks:=t' }:=by
 have q:=PySem.IsL.update e f;rw[k]at q;refine I.write (by rw[j];exact trivial) (.inl rfl) (λm u i h=>(Heap.get?_update_other s.heap (Obj.mapSeq f) (aaG i)).trans h) ⟨_,q⟩ ?_;exact⟨d,a,_,g,q⟩
def Inv.lnew{t':Nat}(I:Inv X pins σ H s)(c:Vals ys its)(a:ys.length<=sizeLine):
  Inv X pins σ (upd H s.heap.objs.size (.lst ys)) { s with heap:=s.heap.push { cls:=.type "list",data:=.seq its.toArray },toks:=t' }:=
 I.laid (λ_ _ q=>Heap.get?_push_of_some _ q) (aag _) ⟨a,its,0,c,Heap.get?_push_size _ rfl⟩
def Inv.fresh(I:Inv X pins σ H s):H s.heap.objs.size=none:=I.hok.fresh (aag _)
def Inv.lstM(I:Inv X pins σ H s)(c:H l=some (.lst xs)):xs.length<=sizeLine/\∃(a:List Value) (n:Nat),Vals xs a/\xs.length=a.length/\s.heap.get? l=some { cls:=.type "list",data:=.seq a.toArray n }:=by obtain⟨z,a,n,r,e⟩:=I.hok l _ c;exact⟨z,a,n,r,r.length,e⟩
end
section
variable{X:Cx}
def rAppend:V->List V->Hp->VK->Prop:=λx b H Q=>∃l a y,x=.ref l/\b=[y]/\H l=some (.lst a)/\a.length<sizeLine/\Q .non (upd H l (.lst (a++[y])))
def eG:Iq X "list.append" rAppend:=by intro c s p H x i v k Q I d f h;obtain⟨l,m,y,rfl,rfl,b,j,q⟩:=h;cases d;obtain⟨u,rfl,g⟩:=f.one;obtain⟨z,a,n,r,o,e⟩:=I.lstM b;refine call_meets F.slot_list_append ⟨_,e,rfl⟩ F.entry_list_append (F.args_list_append_2 _ _) (PySem.list_append l a.toArray n u (by rw[aau];omega)) ⟨e,?_⟩;refine⟨.non,_,I.lset b e (by simp) (r.append (.cons g .nil)) ?_,rfl,q⟩;rw[aal,aaI];omega
end
section
variable{prog:Program}{w:World}{A:Around}{E:Value->Shared->Prop}{s:Shared}
set_option maxRecDepth 100000 in
end
end
end L2
namespace Att
open PySem PySem.W PySem.Calls PyProof.Rows
def hV:∀(ns:List Int) (vs:List Value),WellAll P h vs (ns.map WData.int)->IntsAre vs ns:=by
 intro ns;induction ns with
 |nil=>intro vs w;rw[aaC]at w;cases w;exact .nil
 |cons n ns c=>
  intro vs w;rw[aaj]at w;cases w with
  |cons a b=>cases a;exact .cons _ _ (c _ b)
def rB{l:OpenLaw}(t:l.most=some n)
  (b:l.row.toRowW.claim.pre args=true) (j:WellAll P h vals args):
  ∃a vs ns,vals=[Value.ref a]/\args=[WData.list (ns.map WData.int)]/\h.get? a=some { cls:=.type "list",data:=.seq vs.toArray }/\IntsAre vs ns/\ns.length<=n:=by
 have i:WShape.hasAll [] args [.list .int]=true:=(pre_splitW b).1;have k:l.pre.holds [] { args:=args }=true:=(pre_splitW b).2;obtain⟨d,r,rfl,v,s⟩:=hasAllW_cons i;obtain rfl:=hasAllW_nil s;obtain⟨x,rfl,m⟩:=hasW_list v;obtain⟨ns,rfl⟩:=items_int m;have c:ns.length<=n:=by
  unfold OpenLaw.pre at k;have g:(WTm.not (.lt (.lit (.int (n:Int))) (.len (.arg 0)))).holds [] { args:=[.list (ns.map .int)] }=true:=by have g:=(holds_andW k).1;rw[t]at g;exact g
  have f:=condW_of g (w_not (w_lt w_lit (w_len_list (w_arg rfl))));rw[aaa]at f;refine Nat.le_of_not_lt λq=>?_;have u:(n:Int)<((ns.length:Nat):Int):=by omega
  first
   | (rw[Dac u]at f;exact absurd f (by decide))
   | (simp at f;omega)
 cases j with
 |cons o p=>
  cases p;cases o with
  |list w e=>exact⟨_,_,ns,rfl,rfl,w,hV ns _ e,c⟩
def rC(l:OpenLaw)(args:List WData):l.row.toRowW.claim.post args (.bool true) args=true:=
 postW_of
  (show WShape.has [] (.bool true) .bool=true by first|rfl|decide|simp[WShape.has,WShape.arms,WShape.armsAll])
  (show (WTm.eq .res (.lit (.bool true))).value [] { args:=args,res:=some (.bool true),after:=args }=some (.bool (true==true)) from w_eq_bool (w_res rfl) w_lit) rfl
def attach_call{l:OpenLaw}
  (M:l.most=some n) (t:d.params.defaults=[])
  (call:∀(w:World) (c b:Shared) (m y:Str->Option Value) (k:Addr) (o:Obj) (v p g:Value) (a:Addr) (vs:List Value) (ns:List Int),
   Ground q loose [] XP w c m y b.heap->YP w b.heap ->
   b.heap.get? k=some o->o.data=.func (docDef d.name d.params d.body d.scope v p g)->b.heap.CodeRec p d.name->m d.name=some (.ref k) ->
   b.heap.get? a=some { cls:=.type "list",data:=.seq vs.toArray }->IntsAre vs ns->ns.length<=n->b.gens=#[] ->
   codeAny (model l.prog w) callerA (.call (.ref k) ⟨[.ref a],[]⟩) (λr s=>r=.ok (.ret (.bool true))/\OldK b.heap s.heap/\s.os=b.os/\AllBare s.gens) b):
  WalkO q loose XP YP l.row.toRowW d [] (λf vs=>PySem.call f vs):=by
 intro w c b m y G Y k o v p g I Q U T z D x J B C W j A P u O;obtain rfl:I=.none:=Dflts.none D t;obtain rfl:Q=.none:=Dflts.noKw D;obtain⟨a,vs,ns,rfl,rfl,i,e,h⟩:=rB M j u;refine enter_call (codeAny_mono (call w c b m y k o v p g a vs ns G Y U (fd_plain T) z x i e h J) λr s H=>?_);obtain⟨rfl,L,F,N⟩:=H;exact⟨.inl ⟨.bool true,.bool true,[],rfl,λ_=>rfl,.bool true,rC l _,λ_=>⟨List.Pairwise.nil,λ_ S=>(nomatch S)⟩⟩,L,F,N⟩
end Att
namespace L2
open PySem PySem.Spec PyProof.Rows
section
def vals_ints:∀{vs:List Value}{ns:List Int},IntsAre vs ns->Vals (ns.map V.int) vs
 |_,_,.nil=>.nil
 |_,_,.cons n t h=>.cons ⟨t,rfl⟩ (vals_ints h)
def AE(H:Hp):Prop:=∀b,H b=none\/∃o a,H b=some (.frz o (.lst a))
def tu{P:Program}{w:World}{K:Waa}{CX:CXT}{k:Nat}{O a:Addr}{fd:FuncData}{sp:Sp}{vs:List Value}{ns:List Int}
  (KX:K.In s₁.heap) (L:s₁.heap.Ns mainGlobals mg) (f:s₁.heap.Ns builtinsNs mb) (Q:∀x:Str,x≠"__name__"->mb x=bootBuiltins x) (M:s₁.heap.NoLimit) (hg:s₁.gens=#[])
  (N:s₁.heap.get? a=some { cls:=.type "list",data:=.seq vs.toArray }) (Y:IntsAre vs ns) (hl:ns.length<=sizeLine) (hr:Room k callerA)
  (F:∀i:Heap,K.In i->i.Ns mainGlobals mg->FnOk P w K mg i CX k O fd [x] sp) (p:∀(s:Shared) (u:Value),BindsTo s fd ⟨[u],[]⟩ [(x,u)])
  (W:∀H:Hp,AE H->SqL K H a (ns.map V.int)->sp [.ref a] H (λv _=>v=.bl true) λ_ _ _=>False)
  (S:∀H e g,CX [] H s₁ (λ_ _ _=>False) e g->False):
  codeAny (model P w) callerA (.call (.ref O) ⟨[.ref a],[]⟩) (λr g=>r=.ok (.ret (.bool true))/\OldK s₁.heap g.heap/\g.os=s₁.os/\AllBare g.gens) s₁:=by
 have rv:=vals_ints Y;have y:=Y.length;have l:∀H:Hp,AE H->SqL K H a (ns.map V.int)->HOk P w H s₁.heap->(∀b,H b≠none->b=a)->(H a≠none->K.lookup a=none) ->
   codeAny (model P w) callerA (.call (.ref O) ⟨[.ref a],[]⟩) (λr g=>r=.ok (.ret (.bool true))/\OldK s₁.heap g.heap/\g.os=s₁.os/\AllBare g.gens) s₁:=by
  intro H hO hS D hA hK;have c:∀{b:Addr}{o:Obj},s₁.heap.get? b=some o->H b=none->(j3 s₁.heap H).get? b=some o:=λe n=>hidT_get e n;have T:∀{b:Addr}{o:Obj}{I:Array DictEntry}{t:Nat},s₁.heap.get? b=some o->o.data=.dict I t->H b=none:=λ{b o I t} e d=>by
   cases q:H b with
   |none=>rfl
   |some u=>have X:b=a:=hA b (by rw[q];simp);subst X;rw[N]at e;cases e;have d':Data.seq vs.toArray _=Data.dict I t:=d;cases d'
  have j:∀{b:Addr}{m:Str->Option Value},s₁.heap.Ns b m->(j3 s₁.heap H).Ns b m:=λ{b m} ⟨o,I,t,e,d,r⟩=>⟨o,I,t,c e (T e d),d,r⟩
  have A:K.In (j3 s₁.heap H):=λb o e=>c (KX b o e) (by
   cases q:H b with
   |none=>rfl
   |some u=>
    have X:b=a:=hA b (by rw[q];simp);subst X;rw[hK (by rw[q];simp)]at e;cases e)
  have hM:Mod K mg (j3 s₁.heap H):=⟨A,j L,⟨mb,j f,Q⟩,let ⟨mc,h1,h2⟩:=M;⟨mc,j h1,h2⟩⟩
  have e0:Env0 P w K mg (j3 s₁.heap H) callerA [] s₁ H:=⟨rfl,hM,λb o e=>wG e,abT (qY _ _),trivial,λb f=>absurd (show b∈([]:List Addr) from f) (by simp),D,.of_eq hg⟩
  refine codeAny_mono ((F _ A (j L)).run callerA [] s₁ H ⟨[.ref a],[]⟩ [.ref a] [.ref a] _ _ hr e0 (p s₁ (.ref a)) (.cons rfl .nil) (W H hO hS)) λr g h=>?_;cases r with
  |error e=>exact(S H e g h).elim
  |ok fl=>
   cases fl with
   |next=>exact False.elim h
   |brk=>exact False.elim h
   |cont=>exact False.elim h
   |ret u=>
    obtain⟨v,H',os,B,Z,J,r',q⟩:=h;have q':v=.bl true:=q;subst q';obtain rfl:u=Value.bool true:=r';refine⟨rfl,OldK.of_keep λb o e=>?_,os,B⟩;cases q:H b with
    |none=>exact Z.keep b o e q (by intro z;exact absurd (show b∈([]:List Addr) from z) (by simp)) (by simp)
    |some u=>
     rcases hO b with z|⟨ob,xs,z⟩
     ·rw[q]at z;cases z
     ·have z2:=Z.frzs b ob _ z;obtain⟨e1,_⟩:=D b _ z;obtain⟨e2,_⟩:=J b _ z2;rw[e]at e1;cases e1;exact e2
 cases U:K.lookup a with
 |some o=>have e:=KX a o U;rw[N]at e;cases e;refine l (λ_=>none) (λ_=>.inl rfl) (.inr ⟨_,vs.toArray,_,U,rfl,rfl,rfl,by rw[aau,y];exact hl,by simpa using rv⟩) (λb u z=>by have C:(none:Option HO)=some u:=z;cases C) (λb z=>absurd rfl z) λz=>absurd rfl z
 |none=>
  refine l (λb=>if b=a then some (.frz { cls:=.type "list",data:=.seq vs.toArray } (.lst (ns.map V.int))) else none) (λb=>?_) (.inl (.inr ⟨{ cls:=.type "list",data:=.seq vs.toArray },if_pos rfl⟩)) (λb u z=>?_) (λb z=>?_) λ_=>U
  ·by_cases f:b=a
   ·exact .inr ⟨_,_,if_pos f⟩
   ·exact .inl (if_neg f)
  ·by_cases f:b=a
   ·have C:=(if_pos f).symm.trans z;cases C;subst f;exact⟨N,by rw[aaa];exact hl,vs,_,rv,N⟩
   ·have C:=(if_neg f).symm.trans z;cases C
  ·by_cases f:b=a
   ·exact f
   ·exact absurd (if_neg f) z
end
section
def walk_of{l:PySem.W.OpenLaw}{K:Params->Waa}{CX:World->CXT}{sp:World->Sp}{x:Str}
  (U:l.most=some n) (I:n<=sizeLine) (y:d.params.defaults=[]) (M:Room k callerA)
  (P:∀(w:World) (h:Heap),YP w h->(K w.params).In h)
  (F:∀(w:World) (m:Str->Option Value) (t:Addr) (h:Heap),(K w.params).In h->h.Ns mainGlobals m->m d.name=some (.ref t) ->
   ∃z:FuncData,(∀(s:Shared) (u:Value),BindsTo s z ⟨[u],[]⟩ [(x,u)]) /\
    ∀c:Heap,(K w.params).In c->c.Ns mainGlobals m->FnOk l.prog w (K w.params) m c (CX w) k t z [x] (sp w))
  (C:∀(w:World) (H:Hp) (a:Addr) (ns:List Int),ns.length<=n->AE H->SqL (K w.params) H a (ns.map V.int)->sp w [.ref a] H (λv _=>v=.bl true) λ_ _ _=>False)
  (D:∀(w:World) (H:Hp) (s:Shared) (e:Value) (B:Shared),CX w [] H s (λ_ _ _=>False) e B->False):
  PySem.W.WalkO q loose XP YP l.row.toRowW d [] (λf vs=>PySem.call f vs):=by
 refine Att.attach_call U y λw L p m mb t o pm cd a0 a vs ns G Y ho hd Z A r j i Q=>?_;have J:=P w _ Y;obtain⟨z,O,N⟩:=F w m t _ J G.T.g A;exact tu J G.T.g G.T.b G.T.builtins G.T.nolimit Q r j (aan i I) M N O (λH X S=>C w H a ns i X S) λH e B=>D w H p e B
end
section
def eI(s:Stmt):Arguments:=match s with
 |.FunctionDef _ a _ _ _ _ _ _ _ _=>a
 |_=>{ posonlyargs:=[],args:=[],vararg:=none,kwonlyargs:=[],kw_defaults:=[],kwarg:=none,defaults:=[] }
def cv(s:Stmt):List Stmt:=match s with
 |.FunctionDef _ _ b _ _ _ _ _ _ _=>b
 |_=>[]
def aL(s:Stmt):Scope:=match s with
 |.FunctionDef _ _ _ _ _ _ sc _ _ _=>sc
 |_=>{ kind:=.function,names:=[],isGenerator:=false,isCoroutine:=false }
abbrev CX0:CXT:=λ_ _ _ _ _ _=>False
abbrev E0:XK:=λ_ _ _=>False
def oN:Passes CX0 X E0:=λ_ _ _ _ _ _ _ h=>h.elim
structure Fun (K:Waa)(x qual:Str)(st:Stmt)(f:Addr)(fd:FuncData):Prop where
 ex:∃(oc:Value) (od:Option Addr) (kV doc pm:Value) (an:Option Addr) (cdv ct:Value) (osl:Array (Option Value)),
  fd=PySem.W.fnOf x qual (eI st) (cv st) (aL st) .none kV doc pm an cdv ct/\K.lookup f=some ⟨oc,od,.func fd,osl⟩/\PySem.W.codeIn K cdv qual=true
 kp:PySem.W.keepIn K (.ref f)=true
section
variable{P:Program}{w:World}{K:Waa}{mg:Str->Option Value}{base:Heap}
def Fun.ok{x b:Str}{e:Stmt}(F:Fun K x b e f fd)(S:FnScope N ps (aL e))(g:∀vs H Q E,sp vs H Q E->vs.length=ps.length)
  (d:∀(c:Value) (A:Around) (a:List Env) (s:Shared) (H:Hp) (vs:List V) (Q:VK) (E:XK),Room k (A.deeper (envOfC b (aL e) s.heap.objs.size f c))->sp vs H Q E ->
   ∃t,PSs (kc CX0 P w K mg base N b (aL e) f c A a s H E).nox (cv e) t/\t { nx:=λ_ o=>Q .non o,rt:=Q } (start N vs) H):FnOk P w K mg base CX0 (k+1) f fd ps sp:=by
 obtain⟨r,u,y,n,v,z,c,B,p,rfl,m,j⟩:=F.ex;refine Dn m j S g λA a s H vs Q E l i=>?_;obtain⟨t,h,q⟩:=d c A a s H vs Q E l i;exact⟨t,h.nox,q⟩
def ki{d:Stmt}{h b e a g:Value}(l:K.lookup f=some ⟨oc,od,.func (PySem.W.fnOf x qual (eI d) (cv d) (aL d) .none h b e an a g),osl⟩)
  (c:PySem.W.codeIn K a qual=true) (k:PySem.W.keepIn K (.ref f)=true):Fun K x qual d f (PySem.W.fnOf x qual (eI d) (cv d) (aL d) .none h b e an a g):=⟨⟨oc,od,h,b,e,an,a,g,osl,rfl,l,c⟩,k⟩
end
def Same(H a:Hp):Prop:=∀b o,H b=some o->a b=some o
def Same.seq{K:Waa}(e:Same H H')(h:SqL K H a xs):SqL K H' a xs:=by
 rcases h with (h|⟨o,h⟩)|h
 ·exact .inl (.inl (e _ _ h))
 ·exact .inl (.inr ⟨o,e _ _ h⟩)
 ·exact .inr h
end
section
def nH:∀(f:List (Str×NameKind)) (g:List (Str×Addr)),(∀x∈f,x.2=.free->∃c,env.cells.lookup x.1=some c) ->
  (∀x c,g.lookup x=some c->env.cells.lookup x=some c) ->
  ∃l:List (Str×Addr),forIn f g (λ(x:Str×NameKind) (r:List (Str×Addr))=>match x with
    | (name,kind)=>(if kind==NameKind.free then do let c <-cellOf env name;pure (ForInStep.yield ((name,c)::r)) else pure (ForInStep.yield r):Sem (ForInStep (List (Str×Addr)))))=pure l /\
   (∀x c,l.lookup x=some c->env.cells.lookup x=some c)/\(∀x∈f,x.2=.free->∃c,l.lookup x.1=some c)/\(∀x c,g.lookup x=some c->∃j,l.lookup x=some j):=by
 intro f;induction f with
 |nil=>intro g _ m;exact⟨g,rfl,m,λ_ h=>(nomatch h),λx c h=>⟨c,h⟩⟩
 |cons p r y=>
  intro g w m;obtain⟨n,k⟩:=p;rw[abW];have u:∀x∈r,x.2=.free->∃c,env.cells.lookup x.1=some c:=λx i=>w x (aah _ i);by_cases t:k=.free
  ·subst t;obtain⟨c,v⟩:=w (n,.free) aai rfl;have s:cellOf env n=pure c:=by unfold cellOf;rw[show env.cells.lookup n=some c from v]
   have q:∀x j,((n,c)::g).lookup x=some j->env.cells.lookup x=some j:=λx j h=>by
    rw[aaV]at h;cases i:x==n with
    |true=>rw[i]at h;cases h;rw[eq_of_beq i];exact v
    |false=>rw[i]at h;exact m x j h
   obtain⟨l,e,a,b,d⟩:=y ((n,c)::g) u q;refine⟨l,?_,a,λx i o=>?_,λx j h=>?_⟩
   ·show ((cellOf env n >>= λc=>pure (ForInStep.yield ((n,c)::g))) >>= _)=_;rw[s];exact e
   ·rcases aab.mp i with rfl|i
    ·exact d n c (by simp[aaV])
    ·exact b x i o
   ·cases i:x==n with
    |true=>exact d x c (by rw[aaV,i])
    |false=>exact d x j (by rw[aaV,i];exact h)
  ·have z:(k==NameKind.free)=false:=by simpa using t
   obtain⟨l,e,a,b,d⟩:=y g u m;refine⟨l,?_,a,λx i o=>?_,d⟩
   ·show ((if (k==NameKind.free)=true then _ else _) >>= _)=_;rw[z];exact e
   ·rcases aab.mp i with rfl|i
    ·exact absurd o t
    ·exact b x i o
def iA(h:∀x∈scope.names,x.2=.free->∃c,env.cells.lookup x.1=some c):
  ∃d:List (Str×Addr),closureFor scope env=pure d/\(∀x c,d.lookup x=some c->env.cells.lookup x=some c)/\(∀x∈scope.names,x.2=.free->∃c,d.lookup x.1=some c):=by
 obtain⟨d,e,a,b,_⟩:=nH scope.names [] h (λ_ _ h=>nomatch h);refine⟨d,?_,a,b⟩;have q:closureFor scope env=(forIn scope.names ([]:List (Str×Addr)) (λ(x:Str×NameKind) (r:List (Str×Addr))=>match x with
    | (name,kind)=>(if kind==NameKind.free then do let c <-cellOf env name;pure (ForInStep.yield ((name,c)::r)) else pure (ForInStep.yield r):Sem (ForInStep (List (Str×Addr))))) >>= λr=>pure r):=rfl
 rw[q,e];rfl
def a9(X:Cx)(N:List Str)(a:Scope)(c:List (Str×Addr))(s:Shared)(H:Hp)(d:List Addr)(b:List (Addr×Obj)):Cx where
 prog:=X.prog
 w:=X.w
 K:=X.K
 mg:=X.mg
 base:=X.base
 A:=X.A
 N:=N
 s₀:=s
 H₀:=H
 env:=compEnvC a c s.heap.objs.size X.env
 outer:=X.stack
 stack:=X.stack
 ex:=d
 fn:=λ_=>false
 calm:=X.calm
 pn:=X.pn++b
 xe:=λ_ _=>False
structure CC where
 cl:List (Str×Addr)
 s:Shared
 H:Hp
 fp:List Addr
 pins:List (Addr×Obj)
abbrev dn(X:Cx)(N:List Str)(scope:Scope)(c:CC):Cx:=a9 X N scope c.cl c.s c.H c.fp c.pins
def bC(nt:Nat)(fr:List Nat)(σ:St):St:=List.replicate nt none++fr.map λj=>(σ[j]?).join
structure CompScope (N:List Str)(nt:Nat)(fr:List Nat)(ON:List Str)(sc osc:Scope):Prop where
 kind:sc.kind=.function
 nocell:∀x∈sc.names,x.2≠.cell
 names:∀x∈sc.names,x.2=.local->sc.names.lookup x.1=some .local
 len:N.length=nt+fr.length
 out:∀(i:Nat) (j:Nat),fr[i]?=some j->∃x,N[nt+i]?=some x/\ON[j]?=some x/\osc.names.lookup x=some .cell/\sc.names.lookup x=some .free
 cells:∀x∈sc.names,x.2=.free->osc.names.lookup x.1=some .cell
 looks:∀x∈sc.names,x.2=.free->sc.names.lookup x.1=some .free
def cx{sc:Scope}{env:Env}:∀(a:List (Str×NameKind)) (x:Str) (k:NameKind),
  (a.map λ(n,k)=>if (k==NameKind.free&&env.scope.kind==.function&&env.kindOf n==some .cell) then (n,NameKind.cell) else (n,k)).lookup x=some k ->
  a.lookup x=some k\/(k=.cell/\a.lookup x=some .free)
 |[],_,_,h=>by simp at h
 | (n,k0)::r,x,k,h=>by
  have e:=cx (sc:=sc) (env:=env) r x k;rw[aaj]at h;have b:List.lookup x ((if (k0==NameKind.free&&env.scope.kind==.function&&env.kindOf n==some .cell)=true then (n,NameKind.cell) else (n,k0))::(r.map λ(n,k)=>if (k==NameKind.free&&env.scope.kind==.function&&env.kindOf n==some .cell) then (n,NameKind.cell) else (n,k)))=some k:=h;by_cases d:(k0==NameKind.free&&env.scope.kind==.function&&env.kindOf n==some .cell)=true
  ·rw[if_pos d,aaV]at b;rw[aaV];cases c:x==n with
   |true=>
    rw[c]at b;cases b;rw[aaE,aaE]at d;have:k0=.free:=by simpa using d.1.1
    subst this;exact .inr ⟨rfl,rfl⟩
   |false=>rw[c]at b;exact e b
  ·rw[if_neg d,aaV]at b;rw[aaV];cases c:x==n with
   |true=>rw[c]at b;exact .inl b
   |false=>rw[c]at b;exact e b
def rD(I:Nat->Shared->Prop)
  (k:∀n s,I n s->wpAny (model prog w) A (pyNext it) (λr e=>match r with
   |none=>R (.ok .next) e
   |some v=>wpAny (model prog w) A (letOwnedTupleGo target it v) (λ_ a=>wpAny (model prog w) A (assign target env v) (λ_ a=>
     wpAny (model prog w) A (forIn ifs true λc r=>if r=true then do let q <-isTrue c env (eval c env);pure (ForInStep.yield q) else pure (ForInStep.yield r)) (λq d=>
      if q=true then wpAny (model prog w) A (eval elt env) (λx i=>
       wpAny (model prog w) A (call (.builtin "list.append") [acc,x]) (λ_ j=>∃m,m<n/\I m j) (λ_ _=>False) i) (λ_ _=>False) d
      else ∃m,m<n/\I m d) (λ_ _=>False) a) (λ_ _=>False) a) (λ_ _=>False) e) (λ_ _=>False) s)
  (n:Nat) (h:I n s):
  codeAny (model prog w) A (.compLoop (.ListComp elt [⟨target,iter,ifs,0⟩] scope pos) 0 it acc env) R s:=by
 refine codeAny_loop rfl I (λn s t=>?_) n h;show wpAny _ A ((compTurn (.ListComp elt [⟨target,iter,ifs,0⟩] scope pos) 0 it acc env).onRaise (λx=>do noteFrame x env;theTreesLotGoes x)) _ _ s;refine wpAny_noted ?_;rw[compTurn_list];refine wpAny_bind (wpAny_standAt (wpAny_bind (wpAny_mono (k n s t) (λr e b=>?_) λ_ _ f=>f.elim)));cases r with
 |none=>exact wpAny_pure b
 |some v=>
  refine wpAny_bind (wpAny_mono b (λ_ a b=>?_) λ_ _ f=>f.elim);refine wpAny_bind (wpAny_mono b (λ_ a p=>wpAny_bind (wpAny_mono p (λq d g=>?_) λ_ _ f=>f.elim)) λ_ _ f=>f.elim);cases q with
  |false=>exact wpAny_pure ⟨rfl,g⟩
  |true=>exact wpAny_bind (wpAny_bind (wpAny_mono g (λx i l=>wpAny_bind (wpAny_mono l (λ_ j o=>wpAny_pure (wpAny_pure ⟨rfl,o⟩)) λ_ _ f=>f.elim)) λ_ _ f=>f.elim))
section
variable{X:Cx}{tg elt iter:Expr}{ifs:List Expr}{scope:Scope}{pos:Pos}{N:List Str}{nt:Nat}{fr:List Nat}
def iB(S:CompScope N nt fr X.N scope X.env.scope)(I:Inv X pins σ H s)
  (C:∀b∈fp,FpOk X pins H b) (g:∀b∈fp,b<s.heap.objs.size)
  (a:∀x c,cl.lookup x=some c->X.env.cells.lookup x=some c) (J:∀x∈scope.names,x.2=.free->∃c,cl.lookup x.1=some c)
  (hk:∀b o,s.heap.get? b=some o->s4.heap.get? b=some o) (hn:∃m,s4.heap.Ns s.heap.objs.size m) (ho:s4.os=s.os) (hg:s4.gens=s.gens):
  Inv (a9 X N scope cl s H fp pins) [] (bC nt fr σ) H s4:=by
 have hC:H s.heap.objs.size=none:=I.hok.fresh (aag _);have P:∀b o,s.heap.get? b=some o->b≠s.heap.objs.size:=λb o e=>aao (Heap.lt_size e);have kd:(a9 X N scope cl s H fp pins).env.scope.kind=.function:=S.kind;have U:∀x,scope.names.lookup x=some .free->∃c,cl.lookup x=some c:=λx h=>J (x,.free) (aa7 h) rfl;refine⟨⟨I.ok.mod,kd,I.ok.glob,I.ok.blt,aag _,λx y c T f=>I.ok.inj x y c (a x c T) (a y c f),λx hx=>?_,λ_ _ h _=>absurd (show false=true from h) aaf,I.ok.hd,I.ok.frames,.inl rfl,λb r=>⟨aao (g b r),λx c e=>(C b r).2.2.2.2.1 x c (a x c e)⟩,
  I.bs,aan I.ok.bsz I.sz,λb o e r=>?_,λb r hs=>?_,I.stack,I.sj⟩,ho,by rw[hg];exact I.bare,Un.kept hk,?_,λx c e=>?_,hC,λx c e=>I.freeC x c (a x c e),λp hp=>?_,I.hok.kept hk,?_⟩
 ·have L:(relabel scope X.env).names.lookup x=some .cell\/(relabel scope X.env).names.lookup x=some .free:=hx;rcases L with h|h
  ·rcases cx (sc:=scope) scope.names x _ h with q|⟨_,q⟩
   ·exact absurd rfl (S.nocell _ (aa7 q))
   ·exact U x q
  ·rcases cx (sc:=scope) scope.names x _ h with q|⟨q,_⟩
   ·exact U x q
   ·cases q
 ·rcases (C b r).2.2.2.1 with z|z
  ·exact I.ok.noex b o e z
  ·exact absurd (aat (Heap.lt_size e) (aan I.ok.bsz z)) (aa3 _)
 ·rcases aab.mp (I.pa b hs) with z|z
  ·exact(C b r).2.1 z
  ·exact(C b r).2.2.1 z
 ·obtain⟨m,hm⟩:=hn;refine⟨m,hm,λi x v T f h3=>?_⟩;obtain⟨m0,a0,F⟩:=I.loc;have hi:nt<=i:=by refine Nat.le_of_not_lt λg=>?_;unfold bC at f;rw[abV (by simpa using g),acn]at f;rw[if_pos g]at f;cases f
  obtain⟨d,rfl⟩:∃d,i=nt+d:=⟨i-nt,by omega⟩
  unfold bC at f;rw[abx (by simp),aby,aco,aav]at f;cases M:fr[d]? with
  |none=>rw[M]at f;cases f
  |some j=>
   rw[M]at f;have k:(σ[j]?).join=some v:=aaD f;have Q:σ[j]?=some (some v):=by
    cases e:σ[j]? with
    |none=>rw[e]at k;cases k
    |some q=>rw[e]at k;exact congrArg some k
   obtain⟨y,e1,e2,Z,Y⟩:=S.out d j M;have w:N[nt+d]?=some x:=T;rw[e1]at w;cases w;obtain⟨u,ru,l⟩:=F j x v e2 Q (.inr (.inl Z));refine⟨u,ru,?_⟩;rcases l with ⟨q,_⟩|⟨_,c,ec,z⟩
   ·have B:X.env.scope.names.lookup x=some .local:=q;rw[Z]at B;cases B
   ·obtain⟨O,A⟩:=U x Y;have:O=c:=by have:=a x O A;rw[ec]at this;exact(aaD this).symm
    subst this;obtain⟨o,t,W⟩:=z;refine .inr ⟨?_,O,A,⟨o,hk _ _ t,W⟩⟩;rcases h3 with q|q|q
    ·have B:(relabel scope X.env).names.lookup x=some .local:=q;rcases cx (sc:=scope) scope.names x _ B with z|⟨z,_⟩
     ·rw[Y]at z;cases z
     ·cases z
    ·exact .inl q
    ·exact .inr q
 ·obtain⟨v,o,t,W⟩:=I.cell x c (a x c e);exact⟨v,o,hk _ _ t,W⟩
 ·have D:p∈X.pn++pins:=by
   rcases aak.mp hp with z|z
   ·exact z
   ·exact absurd z (by simp)
  obtain⟨e,n,ne,nf,d⟩:=I.pin p D;refine⟨hk _ _ e,n,P _ _ e,λz=>?_,d⟩;rcases aab.mp (I.pa p.1 z) with q|q
  ·exact ne q
  ·exact nf q
 ·show (bC nt fr σ).length=N.length;unfold bC;rw[aal,aby,aaa,S.len]
def tw(I:Inv X pins σ H s)(F:∀b∈fp,FpOk X pins H b)
  (t:H D=none) (k:s.heap.objs.size<=D) (r:D<s3.heap.objs.size) (hk:∀b o,s.heap.get? b=some o->s3.heap.get? b=some o) (p:s3.os=s.os)
  (J:Inv (a9 X N scope cl s3 (upd H D (.lst [])) fp pins) pins' σ' H1 s5) (l:Heap.SameBut s3.heap.objs.size s5.heap h'):
  Inv X pins σ H1 { s5 with heap:=h' }:=by
 have m:s.heap.objs.size<=s3.heap.objs.size:=aaQ (abX k r);have f:∀b,b<s.heap.objs.size->b≠D/\b≠s3.heap.objs.size:=λb d=>⟨aao (aat d k),aao (aat d m)⟩
 have i:∀b,b≠D->(upd H D (.lst [])) b=H b:=λb d=>upd_ne d;refine I.call' (ch:=fp) (J.os.trans p) ⟨λb o e n d g=>?_,λb o e n d g=>?_,λb o e n g=>?_,λb o e g=>?_,λb B e=>?_,λb o u e=>?_,λb A e=>?_⟩ ?_ J.bare λb d=>?_
 ·obtain⟨h,j⟩:=f b (Heap.lt_size e);exact(l.2 b j).trans (J.base.keep b o (hk b o e) ((i b h).trans n) d g)
 ·obtain⟨h,j⟩:=f b (Heap.lt_size e);obtain⟨O,q⟩:=J.base.slot b o (hk b o e) ((i b h).trans n) d g;exact⟨O,(l.2 b j).trans q⟩
 ·obtain⟨h,j⟩:=f b (Heap.lt_size e);exact J.base.free b o (hk b o e) ((i b h).trans n) g
 ·obtain⟨h,j⟩:=f b (Heap.lt_size e);obtain⟨w,q⟩:=J.base.there b o (hk b o e) g;exact⟨w,(l.2 b j).trans q⟩
 ·exact J.base.tups b B ((i b (ao e t)).trans e)
 ·exact J.base.frzs b o u ((i b (ao e t)).trans e)
 ·exact J.base.tbls b A ((i b (ao e t)).trans e)
 ·intro b u e;refine(J.hok b u e).kl (λc v x q=>(l.2 c ?_).trans q) (λ_ q=>q) λ_ _ q=>q;have a:H1 s3.heap.objs.size=none:=J.free;rintro rfl;rcases x with z|z
  ·rw[z]at a;rw[a]at e;cases e
  ·rw[a]at z;cases z
 ·obtain⟨Q,M,P,L,C,y⟩:=F b d;exact⟨L,M,C,y⟩
abbrev TC:=Addr->St->Hp->(Hp->Prop)->Prop
def oO(d:TE):TC:=λD c H Q=>d c H λy b=>∃a,b D=some (.lst a)/\a.length<sizeLine/\Q (upd b D (.lst (a++[y])))
def Dq(e:TT)(d:TE):TC:=λD c H Q=>e c H λb a=>if b=true then oO d D c a Q else Q a
def lR(o:TI)(nt:Nat)(fr:List Nat)(g:CC->TG)(l:CC->TC):TE:=λj H Q=>o j H λJ h=>∀(c:CC) D,h D=none->∃W:Nat->Nat->St->Hp->Prop,(∃m,W 0 m (bC nt fr j) (upd h D (.lst []))) /\
 ∀i m b d,W i m b d->(J.stop i d/\Q (.ref D) d)\/(J.go i d/\∀x e,J.yld i d x e->g c x b e λa n=>l c D a n λk=>∃f,f<m/\W (i+1) f a k)
def lX(Y:Cx)(D:Addr)(ifs:List Expr)(elt:Expr)(i:TC):Prop:=
 ∀(a:List (Addr×Obj)) (s:Shared) (g:St) (H:Hp) (Q:Hp->Prop),Inv Y a g H s->i D g H Q ->
  wpAny (model Y.prog Y.w) Y.A (forIn ifs true λc r=>if r=true then do let h <-isTrue c Y.env (eval c Y.env);pure (ForInStep.yield h) else pure (ForInStep.yield r)) (λh b=>
   if h=true then wpAny (model Y.prog Y.w) Y.A (eval elt Y.env) (λx e=>
    wpAny (model Y.prog Y.w) Y.A (call (.builtin "list.append") [.ref D,x]) (λ_ f=>∃d,Inv Y a g d f/\Q d) Y.xe e) Y.xe b
   else ∃d,Inv Y a g d b/\Q d) Y.xe s
def oP(l:PE Y elt te)(I:Inv Y pins σ H s)(h:oO te D σ H Q):
  wpAny (model Y.prog Y.w) Y.A (eval elt Y.env) (λx a=>
    wpAny (model Y.prog Y.w) Y.A (call (.builtin "list.append") [.ref D,x]) (λ_ b=>∃c,Inv Y pins σ c b/\Q c) Y.xe a) Y.xe s:=by
 refine thn (l pins s σ H _ I h) λu m o=>?_;obtain⟨y,k,d,p,g,n,f,q⟩:=o;refine thn (eG pins m σ k (.ref D) [y] (.ref D) [u] (λv c=>v=.non/\Q c) d rfl (.cons p .nil) ⟨D,g,y,rfl,rfl,n,f,rfl,q⟩) λv r ⟨z,i,j,_,_,e⟩=>⟨i,j,e⟩
def rE(b:PE Y elt te):lX Y D [] elt (oO te):=by intro a s c H Q I h;refine wpAny_tests_nil ?_;rw[if_pos rfl];exact oP b I h
def tx(k:PT Y c tt)(i:PE Y elt te):lX Y D [c] elt (Dq tt te):=by
 intro a s j H Q I h;refine wpAny_tests_one (thn (k a s j H _ I h) λb l f=>?_);obtain⟨g,e,d⟩:=f;cases b with
 |true=>rw[if_pos rfl]at d ⊢;exact oP i e d
 |false=>rw[if_neg aaf]at d ⊢;exact⟨g,e,d⟩
def jz{a3:Option (Value->Sem Unit)}{Q0:Value->Shared->Prop}(hc:X.calm=true)(S:CompScope N nt fr X.N scope X.env.scope)(hi:PI X tg iter wi)
  (hg:∀c:CC,PG (dn X N scope c) tg (g c)) (ha:∀(c:CC) D,lX (dn X N scope c) D ifs elt (tc c))
  (I:Inv X pins σ H s) (h:lR wi nt fr g tc σ H Q) (c2:∀x∈scope.names,x.2=.free->X.env.kindOf x.1=some .cell)
  (fin:∀(D C:Addr) (s5:Shared) (H1:Hp),FpOk X pins H1 C->s5.heap.get? C≠none->C≠X.env.locals->(∃m,s5.heap.Ns C m)->(∀h',Heap.SameBut C s5.heap h'->Inv X pins σ H1 { s5 with heap:=h' })->Q (.ref D) H1 ->
   compPost (model X.prog X.w) X.A X.xe a3 Q0 (.ref D) C (.ok .next) s5)
  (hs:∀x,foldedSetIterable iter X.env x=pure x:=by intro _;rfl):
  wpAny (model X.prog X.w) X.A (comprehension (.ListComp elt [⟨tg,iter,ifs,0⟩] scope pos) scope X.env (firstIterPos [⟨tg,iter,ifs,0⟩] pos) (newList []) false (eval iter X.env) a3) Q0 X.xe s:=by
 have Y:∀x∈scope.names,x.2=.free->∃c,X.env.cells.lookup x.1=some c:=λx hx hf=>I.ok.has x.1 (.inl (c2 x hx hf));obtain⟨B,c4,h1,h2⟩:=iA Y;refine wpAny_comprehension_free rfl hs c4 S.kind S.names (thn (hi pins s σ H _ I h) λxv s1 hx=>thn hx λd1 a c6=>?_);obtain⟨it,j,tn,J,t,rfl,I2,T,b7,f2,hW⟩:=c6;have a1:∀b∈j,b<a.heap.objs.size:=λb f=>let ⟨o,e,_⟩:=T.obj 0 _ b7 b f;Heap.lt_size e
 refine wpAny_newObj_type (wpAny_newFunctionEnv S.nocell (by intro y hy;simp at hy) (λv l q=>?_) S.kind) (by show 0<=sizeLine;exact aaH _);have hD:t a.heap.objs.size=none:=I2.hok.fresh (aag _);have I3:Inv X pins σ (upd t a.heap.objs.size (.lst [])) { a with heap:=a.heap.push { cls:=.type "list",dict:=none,data:=.seq ([]:List Value).toArray } }:=I2.lnew .nil (aaH _);generalize hs3:({ a with heap:=a.heap.push { cls:=.type "list",dict:=none,data:=.seq ([]:List Value).toArray } }:Shared)=s3 at l q I3 ⊢;obtain⟨W,⟨m0,w0⟩,a5⟩:=hW ⟨B,s3,upd t a.heap.objs.size (.lst []),j,pins⟩ _ hD;have a6:∀b o,a.heap.get? b=some o->s3.heap.get? b=some o:=λb o e=>by rw[<-hs3];exact Heap.get?_push_of_some _ e
 have z3:s3.heap.objs.size=a.heap.objs.size+1:=by rw[<-hs3];exact Heap.size_push ..
 have c5:s3.os=a.os:=by rw[<-hs3]
 have f3:∀b∈j,FpOk X pins (upd t a.heap.objs.size (.lst [])) b:=λb f=>⟨by rw[upd_ne (aao (a1 b f))];exact(f2 b f).1,(f2 b f).2⟩
 have b5:∀b o,s3.heap.get? b=some o->v.get? b=some o:=λb o e=>q.extBut b o (aao (Heap.lt_size e)) (Heap.get?_push_of_some _ e);generalize hs4:({ s3 with heap:=v,toks:=s3.toks+([]:List (Str×Value)).length }:Shared)=s4;have a2:s4.heap=v:=by rw[<-hs4]
 have I4:Inv (a9 X N scope B s3 (upd t a.heap.objs.size (.lst [])) j pins) [] (bC nt fr σ) (upd t a.heap.objs.size (.lst [])) s4:=
  iB S I3 f3 (λb f=>by rw[z3];exact abl (a1 b f)) h1 h2 (λb o e=>by rw[a2];exact b5 b o e) ⟨_,by rw[a2];exact l⟩ (by rw[<-hs4]) (by rw[<-hs4])
 have b6:tn 0 s4.heap:=T.keep 0 _ _ b7 λb f o e=>by rw[a2];exact b5 b o (a6 b o e)
 have Z:codeAny (model X.prog X.w) X.A (.compLoop (.ListComp elt [⟨tg,iter,ifs,0⟩] scope pos) 0 (.ref it) (.ref a.heap.objs.size) (compEnvC scope B s3.heap.objs.size X.env))
   (compPost (model X.prog X.w) X.A X.xe a3 Q0 (.ref a.heap.objs.size) s3.heap.objs.size) s4:=by
  have F:∀{k:Hp},(∀b∈j,k b=none)->∀b∈j,FpOk (a9 X N scope B s3 (upd t a.heap.objs.size (.lst [])) j pins) [] k b:=λ{k} hn b f=>
   ⟨hn b f,aao (show b<s3.heap.objs.size by rw[z3];exact abl (a1 b f)),λz=>I4.ok.exfs b f z,.inl f,λx c e=>(f2 b f).2.2.2.2.1 x c (h1 x c e),λp hp=>(f2 b f).2.2.2.2.2 p (by
    rcases aak.mp hp with z|z
    ·exact z
    ·exact absurd z (by simp))⟩
  refine rD (λn s'=>∃i L k,Inv (a9 X N scope B s3 (upd t a.heap.objs.size (.lst [])) j pins) [] L k s'/\tn i s'.heap/\(∀b∈j,k b=none)/\W i n L k) ?_ m0
   ⟨0,_,_,I4,b6,λb f=>(f3 b f).1,w0⟩
  rintro n s5 ⟨i,P,H5,I5,a7,b8,w5⟩;rcases a5 i n P H5 w5 with ⟨a4,qn⟩|⟨go,b0⟩
  ·refine thn (T.done (a9 X N scope B s3 (upd t a.heap.objs.size (.lst [])) j pins) rfl rfl rfl hc i [] s5 P H5 (λ_ _=>False) I5 (F b8) a7 a4) λr s6 hZ=>?_;obtain⟨hr,I6⟩:=hZ;subst hr;obtain⟨m,hm,_⟩:=id I6.loc;refine fin _ _ s6 H5 (I2.r3 (by rw[z3];exact aa6 _) I6.free) ?_ ?_ ⟨m,hm⟩ (λh' c7=>tw I2 f2 hD (aag _) (by rw[z3];exact aa5 _) a6 c5 I6 c7) qn
   ·obtain⟨o,_,_,ho,_⟩:=hm;intro z;have a8:s6.heap.get? s3.heap.objs.size=some o:=ho;rw[z]at a8;cases a8
   ·exact aa4 (abA I2.lt (by rw[z3];exact aa5 _))
  ·refine thn (T.item (a9 X N scope B s3 (upd t a.heap.objs.size (.lst [])) j pins) rfl rfl rfl hc i [] s5 P H5 (λ_ _=>False) I5 (F b8) a7 go) λr s6 hZ=>?_;obtain⟨u,hr,h6⟩:=hZ;subst hr;refine thn h6 λ_ s7 hZ=>?_;obtain⟨x,H7,I7,r7,y7,a0,c3⟩:=hZ;have c1:=I7.pinned (F c3) (T.obj _ _ a0);refine thn (hg ⟨B,s3,upd t a.heap.objs.size (.lst []),j,pins⟩ _ s7 P H7 x u _ c1 r7 (b0 x H7 y7)) λ_ s8 hZ=>?_;obtain⟨U,H8,I8,q8⟩:=hZ;refine thn (ha ⟨B,s3,upd t a.heap.objs.size (.lst []),j,pins⟩ _ _ s8 U H8 _ I8 q8) λok s9 h9=>?_;have M:∀{O:Shared},(∃k,Inv (a9 X N scope B s3 (upd t a.heap.objs.size (.lst [])) j pins) ([]++pinsAt j s7.heap) U k O/\∃m',m'<n/\W (i+1) m' U k) ->
     ∃m,m<n/\∃i L k,Inv (a9 X N scope B s3 (upd t a.heap.objs.size (.lst [])) j pins) [] L k O/\tn i O.heap/\(∀b∈j,k b=none)/\W i m L k:=λ{O} ⟨k,I',m',hm,w'⟩=>by
    refine⟨m',hm,i+1,U,k,I'.ez,T.keep _ _ _ a0 λb f o e=>(I'.pin (b,o) (aac _ (aac _ (bN f e)))).1,λb f=>?_,w'⟩;obtain⟨o,e,d⟩:=T.obj _ _ a0 b f;exact(I'.pin (b,o) (aac _ (aac _ (bN f e)))).2.1
   cases ok with
   |true=>rw[if_pos rfl]at h9 ⊢;exact thn h9 λy d2 c0=>thn c0 λ_ d0 c8=>M c8
   |false=>rw[if_neg aaf]at h9 ⊢;exact M h9
 exact codeAny_compStart_list Z (T.self X.A 0 s4 _ _ b6 Z)
def oQ(f:X.calm=true)(S:CompScope N nt fr X.N scope X.env.scope)(r:PI X tg iter wi)
  (j:∀c:CC,PG (dn X N scope c) tg (g c)) (k:∀(c:CC) D,lX (dn X N scope c) D ifs elt (tc c))
  (e:∀x,foldedSetIterable iter X.env x=pure x:=by intro _;rfl):
  PE X (.ListComp elt [⟨tg,iter,ifs,0⟩] scope pos) (lR wi nt fr g tc):=by
 intro d s u H Q I h;rw[eval_ListComp];refine jz f S r j k I h (λx n p=>S.cells x n p) (λD C t l _ _ _ a i q=>?_) e;obtain⟨m,a⟩:=a;exact⟨m,a,λo b=>⟨.ref D,l,i o b,rfl,q⟩⟩
def wW{k d:Pos}(Z:X.N.Nodup)(U:X.N[i]?=some y)(J:X.env.scope.names.lookup y=some .local)(Q:X.calm=true)(S:CompScope N nt fr X.N scope X.env.scope)(hi:PI X tg iter wi)
  (W:∀c:CC,PG (dn X N scope c) tg (g c)) (Y:∀(c:CC) D,lX (dn X N scope c) D ifs elt (tc c))
  (M:∀x,foldedSetIterable iter X.env x=pure x:=by intro _;rfl)
  (u:swapsWith (.ListComp elt [⟨tg,iter,ifs,0⟩] scope pos) (some (.Name y k)) d.line X.env=pure true:=by rfl):
  PS X (.Assign [.Name y k] (.ListComp elt [⟨tg,iter,ifs,0⟩] scope pos) d) (sM (lR wi nt fr g tc) (lL i)):=by
 intro j s σ H D I h;rw[exec_Assign_Name_used _ _ _ _ u];refine wpAny_bind (wpAny_standAt (wpAny_bind ?_));show wpAny _ X.A (do let _ <-comprehension (.ListComp elt [⟨tg,iter,ifs,0⟩] scope pos) scope X.env _ (newList []) false (eval iter X.env) (some (assign (.Name y k) X.env))) _ _ s;refine wpAny_bind (wpAny_mono (jz Q S hi W Y I h (λx hx hf=>S.cells x hx hf) (λB C L F f hC _ t T q=>?_) M) (λ_ s' O=>wpAny_pure (wpAny_pure O)) λ_ _ e=>e);obtain⟨m,t⟩:=t;have I5:Inv X j σ F L:=T L.heap ⟨rfl,λ_ _=>rfl⟩;show wpAny _ X.A (assign (.Name y k) X.env (.ref B)) _ _ _;refine wpAny_assign_Name (fZ I5 Z U (.inl J) (v:=.ref B) rfl (λs6 I6 r=>?_) (.inr J));obtain⟨a,n,l⟩:=r;have p:C≠a:=by
  rcases l with e|e
  ·rw[e];exact f.2.1
  ·exact λz=>f.2.2.2.2.1 _ _ e z.symm
 exact⟨m,t.sameBut n p,λh' w=>⟨_,F,I6.turned (λb o P e=>(w.2 b P).trans e) f.1 f.2.1 f.2.2.2.1 f.2.2.2.2.1 f.2.2.2.2.2,q⟩⟩
end
end
section
section
variable{prog:Program}{w:World}{A:Around}{E:Value->Shared->Prop}{s:Shared}
def fu{items}(a:s.heap.IsTupleIter it t i)
  (g:s.heap.IsTuple t items) (h:items[i]?=some x)
  (f:∀h',h'.IsTupleIter it t (i+1)->Heap.SameBut it s.heap h'->Q x { s with heap:=h' }):
  wpAny (model prog w) A (Builtin.SmallTypes.nextOf (.ref it)) Q E s:=by
 obtain⟨o,c,j,b⟩:=id a;obtain⟨k,d,_,l,e⟩:=g;unfold Builtin.SmallTypes.nextOf;refine wpAny_bind (wpAny_callSpecial?_slot a.typeIs F.slot_tuple_iterator_next
  (wpAny_call_entry F.slot_tuple_iterator_next a.typeIs F.entry_tuple_iterator_next ?_ (F.args_tuple_iterator_next_1 _)))
 show wpAny _ _ (field (.ref it) 0 >>= _) _ _ s;refine wpAny_bind (wpAny_field c b rfl ?_);show wpAny _ _ (if (Value.ref t==Value.none)=true then _ else _) _ _ s;rw[if_neg (show ¬ ((Value.ref t==Value.none)=true) from aaf)];show wpAny _ _ (field (.ref it) 1 >>= _) _ _ s;refine wpAny_bind (wpAny_field c b rfl ?_);show wpAny _ _ (seqItems? (.ref t) >>= _) _ _ s;refine wpAny_bind (wpAny_seqItems d e ?_);simp only[abe,h];refine wpAny_bind (wpAny_setField c b (by simp) (wpAny_pure ⟨x,rfl,wpAny_pure (f _ ?_ (Heap.SameBut.update ..))⟩));exact⟨_,Heap.get?_update_self _ c (Obj.isFreed_of_fields (Obj.data_mapFields b _)),(Obj.cls_mapFields ..).trans j,by
  rw[Obj.data_mapFields b];simp[rawInt]⟩
def gg{items}{Q:Value->Shared->Prop}(g:A.handled=none)
  (a:s.heap.IsTupleIter it t i) (h:s.heap.IsTuple t items) (j:items[i]?=none)
  (k:∀h' e,Heap.ExtBut it s.heap h'->(∃o,h'.get? e=some o/\o.cls=.type "StopIteration")->E (.ref e) { s with heap:=h' }):
  wpAny (model prog w) A (Builtin.SmallTypes.nextOf (.ref it)) Q E s:=by
 obtain⟨o,d,n,c⟩:=id a;obtain⟨l,b,_,m,f⟩:=h;unfold Builtin.SmallTypes.nextOf;refine wpAny_bind (wpAny_callSpecial?_slot a.typeIs F.slot_tuple_iterator_next
  (wpAny_call_entry F.slot_tuple_iterator_next a.typeIs F.entry_tuple_iterator_next ?_ (F.args_tuple_iterator_next_1 _)))
 show wpAny _ _ (field (.ref it) 0 >>= _) _ _ s;refine wpAny_bind (wpAny_field d c rfl ?_);show wpAny _ _ (if (Value.ref t==Value.none)=true then _ else _) _ _ s;rw[if_neg (show ¬ ((Value.ref t==Value.none)=true) from aaf)];show wpAny _ _ (field (.ref it) 1 >>= _) _ _ s;refine wpAny_bind (wpAny_field d c rfl ?_);show wpAny _ _ (seqItems? (.ref t) >>= _) _ _ s;refine wpAny_bind (wpAny_seqItems b f ?_);simp only[abe,j];refine wpAny_bind (wpAny_rule (wpAny_bind (wpAny_setField d c (by simp) ?_)));show wpAny _ _ (newExc (.type "StopIteration") [] >>= _) _ _ _;refine wpAny_bind ?_;simp only[newExc,newTuple];refine wpAny_bind (wpAny_newObj_type ?_ (by size_fits));refine wpAny_bind (wpAny_of_eq (by first|rfl|(simp only[firstArgMember];rfl)) ?_);refine wpAny_newObj_type ?_ (by size_fits);simp only[raiseNew];refine wpAny_bind (wpAny_handled ?_)
 first|rw[show A.in1.handled=none from g]|rw[g]
 refine wpAny_bind (wpAny_pure (wpAny_throw ?_));exact k _ _ (((Heap.SameBut.update ..).extBut.push _).push _) ⟨_,Heap.get?_push_size _ rfl,rfl⟩
end
inductive ZS where
 |lst (a:Addr) (xs:List V)
 |tup (a:Addr) (xs:List V)
 |str (z:Str)
def ZS.items:ZS->List V
 |.lst _ xs=>xs
 |.tup _ xs=>xs
 |.str z=>z.cps.toList.map λc=>.str ⟨#[c]⟩
def ZS.val:ZS->V
 |.lst a _=>.ref a
 |.tup a _=>.ref a
 |.str z=>.str z
def ZS.ok(K:Waa)(H:Hp):ZS->Prop
 |.lst a xs=>SqL K H a xs
 |.tup a xs=>SqT K H a xs
 |.str _=>True
structure Sub (prog:Program)(w:World)(A:Around)(i:Addr)(sl:List Addr)(src:Heap->Prop)(st:Nat->Heap->Prop)(vs:List V):Prop where
 sfr:∀h h',src h->(∀b∈sl,∀o,h.get? b=some o->h'.get? b=some o)->src h'
 ifr:∀k h h',st k h->(∀o,h.get? i=some o->h'.get? i=some o)->st k h'
 item:∀(k:Nat) (s:Shared) (x:V) (Q:Value->Shared->Prop) (E:Value->Shared->Prop),vs[k]?=some x->src s.heap->st k s.heap ->
  (∀v h' tk,RelV x v->st (k+1) h'->Heap.SameBut i s.heap h'->Q v { s with heap:=h',toks:=tk })->wpAny (model prog w) A (Builtin.SmallTypes.nextOf (.ref i)) Q E s
 done:∀(k:Nat) (s:Shared) (Q:Value->Shared->Prop) (E:Value->Shared->Prop),vs.length<=k->src s.heap->st k s.heap ->
  (∀h' e,Heap.ExtBut i s.heap h'->(∃o,h'.get? e=some o/\o.cls=.type "StopIteration")->E (.ref e) { s with heap:=h' })->wpAny (model prog w) A (Builtin.SmallTypes.nextOf (.ref i)) Q E s
def Sub.list(j:A.handled=none)(i l:Addr)(r:Vals xs its):
  Sub prog w A i [l] (λh=>h.IsList l its.toArray) (λk h=>h.IsListIter i l k) xs where
 sfr:=λh c x k=>x.at λo e=>k l (by simp) o e
 ifr:=λk h c x f=>x.at λo e=>f o e
 item:=λk s x Q E p a b n=>by obtain⟨u,q,t⟩:=r.get p;exact wpAny_nextOf_list_item b a (by simpa using q) λc d g=>n u c s.toks t d g
 done:=λk s Q E v a b m=>by have y:=r.length;exact wpAny_nextOf_list_end j b a (by simp;omega) m
def Sub.tuple(m:A.handled=none)(i l:Addr)(r:Vals xs its):
  Sub prog w A i [l] (λh=>h.IsTuple l its.toArray) (λk h=>h.IsTupleIter i l k) xs where
 sfr:=λh d ⟨o,e,c⟩ k=>⟨o,k l (by simp) o e,c⟩
 ifr:=λk h d ⟨o,e,c⟩ f=>⟨o,f o e,c⟩
 item:=λk s x Q E q a b p=>by obtain⟨u,t,v⟩:=r.get q;exact fu b a (by simpa using t) λd g j=>p u d s.toks v g j
 done:=λk s Q E y a b n=>by have z:=r.length;exact gg m b a (by simp;omega) n
def Sub.strs(q:A.handled=none)(i:Addr)(z:Str)(t:Tok):
  Sub prog w A i [] (λ_=>True) (λk h=>h.IsStrIter i (strIterType z) z t k) (z.cps.toList.map λc=>V.str ⟨#[c]⟩) where
 sfr:=λh j x k=>trivial
 ifr:=λk h j ⟨o,e,c⟩ f=>⟨o,f o e,c⟩
 item:=λk s x Q E g v a d=>by
  rw[aav]at g;cases e:z.cps.toList[k]? with
  |none=>rw[e]at g;cases g
  |some c=>
   rw[e]at g;have p:V.str ⟨#[c]⟩=x:=aaD g;subst p;have l:z.cps[k]?=some c:=by rw[<-acp];exact e
   unfold strIterType at a d;split at a
   ·rename_i n;rw[if_pos n]at d;exact wpAny_nextOf_ascii_item a l λj b m=>d _ j _ ⟨_,rfl⟩ b m
   ·rename_i n;rw[if_neg n]at d;exact wpAny_nextOf_wide_item a l λj b m=>d _ j _ ⟨_,rfl⟩ b m
 done:=λk s Q E r v a u=>by
  have l:z.cps[k]?=none:=by rw[aaa,abu]at r;exact Array.getElem?_eq_none r
  unfold strIterType at a;split at a
  ·exact wpAny_nextOf_ascii_end q a l u
  ·exact wpAny_nextOf_wide_end q a l u
structure ZApart (z TI TO i1 i2:Addr)(sl1 sl2:List Addr):Prop where
 TIz:TI≠z
 TOz:TO≠z
 i1z:i1≠z
 i2z:i2≠z
 TITO:TI≠TO
 TIi1:TI≠i1
 TIi2:TI≠i2
 TOi1:TO≠i1
 TOi2:TO≠i2
 i12:i1≠i2
 s1:∀b∈sl1,b≠z/\b≠TO/\b≠i1/\b≠i2
 s2:∀b∈sl2,b≠z/\b≠TO/\b≠i1/\b≠i2
section
variable{prog:Program}{w:World}{A:Around}{E:Value->Shared->Prop}{s:Shared}
def rF{z O p P T:Addr}{Q:Value->Shared->Prop}(D:ZApart z O p P T sl1 sl2)
  (S1:Sub prog w A P sl1 src1 st1 xs) (S2:Sub prog w A T sl2 src2 st2 ys)
  (hz:IsZip s.heap z O p .none) (a7:IsPair s.heap O (.ref P) (.ref T)) (b5:IsPair s.heap p a b)
  (h1:st1 k s.heap) (h2:st2 k s.heap) (a8:src1 s.heap) (b6:src2 s.heap) (hx:xs[k]?=some x) (hy:ys[k]?=some y)
  (hQ:∀u v h' tk,RelV x u->RelV y v->IsZip h' z O p (rawInt s.heap.objs.size)->IsPair h' p u v->st1 (k+1) h'->st2 (k+1) h'->IsPair h' s.heap.objs.size u v->h'.objs.size=s.heap.objs.size+1 ->
   (∀c o,c≠z->c≠p->c≠P->c≠T->s.heap.get? c=some o->h'.get? c=some o)->Q (.ref s.heap.objs.size) { s with heap:=h',toks:=tk })
  (c0:P<s.heap.objs.size) (b8:T<s.heap.objs.size):
  wpAny (model prog w) A (Builtin.«zip.__next__» ⟨[.ref z],[]⟩) (λa6 s'=>∃v,a6=.done (.ret v)/\Q v s') E s:=by
 show wpAny _ _ (field (.ref z) 2 >>= _) _ _ _;refine wpAny_bind (wpAny_field hz rfl rfl ?_);show wpAny _ _ (field (.ref z) 3 >>= _) _ _ _;refine wpAny_bind (wpAny_field hz rfl rfl ?_);refine wpAny_bind (wpAny_seqItems a7 rfl ?_);show wpAny _ _ (Builtin.SmallTypes.ownedTupleIsFree (.ref z) >>= _) _ _ _;refine wpAny_bind ?_;unfold Builtin.SmallTypes.ownedTupleIsFree;refine wpAny_bind (wpAny_field hz rfl rfl (wpAny_pure ?_));simp only[if_true];refine wpAny_bind (wpAny_rule ?_);refine wpAny_bind (wpAny_field hz rfl rfl ?_);refine wpAny_bind (wpAny_setField_rec hz (by simp) λS B j=>?_);replace B:IsZip S z O p .ellipsis:=B;refine wpAny_bind ?_;simp only[List.zipIdx_cons,List.zipIdx_nil,abW,List.forIn_nil];refine wpAny_bind (wpAny_bind (wpAny_onRaise ?_));show wpAny _ _ (Builtin.SmallTypes.nextOf (.ref P) >>= _) _ _ _;refine wpAny_bind (S1.item k _ x _ _ hx (S1.sfr _ _ a8 λb hb o e=>j.extBut b o (D.s1 b hb).1 e) (S1.ifr _ _ _ h1 λo e=>j.extBut _ o D.i1z e) λu N b0 ru W g=>wpAny_pure ?_);have g:Heap.SameBut P S N:=g;have F:IsPair N p a b:=g.extBut _ _ D.TOi1 (j.extBut _ _ D.TOz b5);refine wpAny_bind (wpAny_seqItems F rfl ?_);refine wpAny_bind (wpAny_updateSeq_pair F λL m f=>?_);replace m:IsPair L p u b:=m;have f:Heap.SameBut p N L:=f;refine wpAny_bind (wpAny_letGo (wpAny_pure ?_));refine wpAny_bind (wpAny_bind (wpAny_onRaise ?_));show wpAny _ _ (Builtin.SmallTypes.nextOf (.ref T) >>= _) _ _ _;refine wpAny_bind (S2.item k _ y _ _ hy (S2.sfr _ _ b6 λb hb o e=>f.extBut b o (D.s2 b hb).2.1 (g.extBut b o (D.s2 b hb).2.2.1 (j.extBut b o (D.s2 b hb).1 e)))
  (S2.ifr _ _ _ h2 λo e=>f.extBut _ o D.TOi2.symm (g.extBut _ o D.i12.symm (j.extBut _ o D.i2z e))) λv J b7 rv a0 h=>wpAny_pure ?_)
 have h:Heap.SameBut T L J:=h;have H:IsPair J p u b:=h.extBut _ _ D.TOi2 m;refine wpAny_bind (wpAny_seqItems H rfl ?_);refine wpAny_bind (wpAny_updateSeq_pair H λd l i=>?_);replace l:IsPair d p u v:=l;have i:Heap.SameBut p J d:=i;refine wpAny_bind (wpAny_letGo (wpAny_pure (wpAny_pure ?_)));refine wpAny_bind (wpAny_seqItems l rfl ?_);refine wpAny_bind (wpAny_newTuple ?_);have a3:d.objs.size=s.heap.objs.size:=by rw[i.1,h.1,f.1,g.1,j.1]
 have M:IsZip d z O p .ellipsis:=i.extBut _ _ D.TOz.symm (h.extBut _ _ D.i2z.symm (f.extBut _ _ D.TOz.symm (g.extBut _ _ D.i1z.symm B)));have Y:∀c o,c≠z->c≠p->c≠P->c≠T->s.heap.get? c=some o->d.get? c=some o:=λc o Z c2 c3 c4 e=>
  i.extBut _ _ c2 (h.extBut _ _ c4 (f.extBut _ _ c2 (g.extBut _ _ c3 (j.extBut _ _ Z e))))
 have a1:st1 (k+1) d:=S1.ifr _ _ _ W λo e=>i.extBut _ o D.TOi1.symm (h.extBut _ o D.i12 (f.extBut _ o D.TOi1.symm e));have a2:st2 (k+1) d:=S2.ifr _ _ _ a0 λo e=>i.extBut _ o D.TOi2.symm e;have U:z<d.objs.size:=Heap.lt_size M;show wpAny _ _ (Builtin.SmallTypes.ownedTupleHandOut (.ref z) (.ref d.objs.size) >>= _) _ _ _;refine wpAny_bind ?_;unfold Builtin.SmallTypes.ownedTupleHandOut;have X:IsZip (d.push { cls:=.type "tuple",data:=.seq #[u,v] }) z O p .ellipsis:=Heap.get?_push_of_some _ M;refine wpAny_bind (wpAny_setField_rec X (by simp) λa4 t C=>?_);replace t:IsZip a4 z O p (rawInt d.objs.size):=t;refine wpAny_setField_rec t (by simp) λq n r=>?_;replace n:IsZip q z O p (rawInt d.objs.size):=n;have up:∀c o,c≠z->d.get? c=some o->q.get? c=some o:=λc o Z e=>r.extBut _ _ Z (C.extBut _ _ Z (Heap.get?_push_of_some _ e));have I:IsPair q d.objs.size u v:=r.extBut _ _ (aa4 U) (C.extBut _ _ (aa4 U) (Heap.get?_push_size _ rfl));have a5:q.objs.size=d.objs.size+1:=by rw[r.1,C.1,Heap.size_push]
 rw[a3]at n I a5;refine wpAny_pure ⟨_,rfl,?_⟩;show Q (.ref d.objs.size) _;rw[a3];exact hQ u v q _ ru rv n (up _ _ D.TOz l) (S1.ifr _ _ _ a1 λo e=>up _ o D.i1z e) (S2.ifr _ _ _ a2 λo e=>up _ o D.i2z e) I a5 λc o Z c2 c3 c4 e=>up c o Z (Y c o Z c2 c3 c4 e)
def tz{z J B F I:Addr}{Q:Fin->Shared->Prop}(D:ZApart z J B F I sl1 sl2)
  (T:Sub prog w A F sl1 src1 st1 xs) (S2:Sub prog w A I sl2 src2 st2 ys)
  (L:IsZip s.heap z J B .none) (Z:IsPair s.heap J (.ref F) (.ref I)) (a2:IsPair s.heap B a b)
  (h1:st1 k s.heap) (h2:st2 k s.heap) (a0:src1 s.heap) (a3:src2 s.heap) (O:xs.length<=k\/ys.length<=k)
  (hE:∀h' tk e,(∀c o,c≠z->c≠B->c≠F->c≠I->s.heap.get? c=some o->h'.get? c=some o)->(∃o,h'.get? e=some o/\o.cls=.type "StopIteration")->E (.ref e) { s with heap:=h',toks:=tk }):
  wpAny (model prog w) A (Builtin.«zip.__next__» ⟨[.ref z],[]⟩) Q E s:=by
 show wpAny _ _ (field (.ref z) 2 >>= _) _ _ _;refine wpAny_bind (wpAny_field L rfl rfl ?_);show wpAny _ _ (field (.ref z) 3 >>= _) _ _ _;refine wpAny_bind (wpAny_field L rfl rfl ?_);refine wpAny_bind (wpAny_seqItems Z rfl ?_);show wpAny _ _ (Builtin.SmallTypes.ownedTupleIsFree (.ref z) >>= _) _ _ _;refine wpAny_bind ?_;unfold Builtin.SmallTypes.ownedTupleIsFree;refine wpAny_bind (wpAny_field L rfl rfl (wpAny_pure ?_));simp only[if_true];refine wpAny_bind (wpAny_rule ?_);refine wpAny_bind (wpAny_field L rfl rfl ?_);refine wpAny_bind (wpAny_setField_rec L (by simp) λm l g=>?_);replace l:IsZip m z J B .ellipsis:=l;refine wpAny_bind ?_;simp only[List.zipIdx_cons,List.zipIdx_nil,abW,List.forIn_nil];refine wpAny_bind (wpAny_bind (wpAny_onRaise ?_));show wpAny _ _ (Builtin.SmallTypes.nextOf (.ref F) >>= _) _ _ _;have l1:src1 m:=T.sfr _ _ a0 λb M o e=>g.extBut b o (D.s1 b M).1 e;have t1:st1 k m:=T.ifr _ _ _ h1 λo e=>g.extBut _ o D.i1z e;by_cases hx:xs.length<=k
 ·refine wpAny_bind (T.done k _ _ _ hx l1 t1 λi e d he=>?_);have d:Heap.ExtBut F m i:=d;obtain⟨U,n,r⟩:=he;have t:IsZip i z J B .ellipsis:=d _ _ D.i1z.symm l;have H:e≠z:=λx=>by subst x;rw[t]at n;cases n;simp at r
  refine wpAny_setField_rec t (by simp) λq _ f=>hE q _ e (λc o P _ X _ x=>f.extBut _ _ P (d _ _ X (g.extBut _ _ P x))) ⟨U,f.extBut _ _ H n,r⟩
 ·have hy:ys.length<=k:=by rcases O with h|h;exact absurd h hx;exact h
  obtain⟨x,Y⟩:∃x,xs[k]?=some x:=⟨_,aap (Nat.lt_of_not_le hx)⟩
  refine wpAny_bind (T.item k _ x _ _ Y l1 t1 λu i a1 ru W d=>wpAny_pure ?_);have d:Heap.SameBut F m i:=d;have p:IsPair i B a b:=d.extBut _ _ D.TOi1 (g.extBut _ _ D.TOz a2);refine wpAny_bind (wpAny_seqItems p rfl ?_);refine wpAny_bind (wpAny_updateSeq_pair p λq S f=>?_);have f:Heap.SameBut B i q:=f;refine wpAny_bind (wpAny_letGo (wpAny_pure ?_));refine wpAny_bind (wpAny_bind (wpAny_onRaise ?_));show wpAny _ _ (Builtin.SmallTypes.nextOf (.ref I) >>= _) _ _ _;refine wpAny_bind (S2.done k _ _ _ hy (S2.sfr _ _ a3 λb M o e=>f.extBut b o (D.s2 b M).2.1 (d.extBut b o (D.s2 b M).2.2.1 (g.extBut b o (D.s2 b M).1 e)))
   (S2.ifr _ _ _ h2 λo e=>f.extBut _ o D.TOi2.symm (d.extBut _ o D.i12.symm (g.extBut _ o D.i2z e))) λC e j he=>?_)
  have j:Heap.ExtBut I q C:=j;obtain⟨U,n,r⟩:=he;have y:IsZip C z J B .ellipsis:=j _ _ D.i2z.symm (f.extBut _ _ D.TOz.symm (d.extBut _ _ D.i1z.symm l));have H:e≠z:=λx=>by subst x;rw[y]at n;cases n;simp at r
  refine wpAny_setField_rec y (by simp) λN _ v=>hE N _ e (λc o P c2 X c4 x=>v.extBut _ _ P (j _ _ c4 (f.extBut _ _ c2 (d.extBut _ _ X (g.extBut _ _ P x))))) ⟨U,v.extBut _ _ H n,r⟩
def nI{z g d e f:Addr}(D:ZApart z g d e f sl1 sl2)
  (I:Sub prog w A.in1 e sl1 src1 st1 xs) (J:Sub prog w A.in1 f sl2 src2 st2 ys)
  (q:IsZip s.heap z g d .none) (l:IsPair s.heap g (.ref e) (.ref f)) (n:IsPair s.heap d a b)
  (P:st1 k s.heap) (C:st2 k s.heap) (m:src1 s.heap) (p:src2 s.heap) (O:xs[k]?=some x) (t:ys[k]?=some y)
  (M:∀u v h' h,RelV x u->RelV y v->IsZip h' z g d (rawInt s.heap.objs.size)->IsPair h' d u v->st1 (k+1) h'->st2 (k+1) h'->IsPair h' s.heap.objs.size u v->h'.objs.size=s.heap.objs.size+1 ->
   (∀c o,c≠z->c≠d->c≠e->c≠f->s.heap.get? c=some o->h'.get? c=some o)->Q (some (.ref s.heap.objs.size)) { s with heap:=h',toks:=h })
  (j:e<s.heap.objs.size) (i:f<s.heap.objs.size):
  wpAny (model prog w) A (pyNext (.ref z)) Q E s:=by
 have r:s.TypeIs (.ref z) "zip":=⟨_,q,rfl⟩
 unfold pyNext;exact wpAny_bind (wpAny_attempt (wpAny_callSpecial?_slot r F.slot_zip_next
  (wpAny_call_entry F.slot_zip_next r F.entry_zip_next
   (rF D I J q l n P C m p O t (λu v h' h W U L N X H B T S=>wpAny_pure (M u v h' h W U L N X H B T S)) j i) (F.args_zip_next_1 _))))
def rG{z n g f h:Addr}(D:ZApart z n g f h sl1 sl2)
  (x:Sub prog w A.in1 f sl1 src1 st1 xs) (y:Sub prog w A.in1 h sl2 src2 st2 ys)
  (p:IsZip s.heap z n g .none) (i:IsPair s.heap n (.ref f) (.ref h)) (l:IsPair s.heap g a b)
  (H:st1 k s.heap) (u:st2 k s.heap) (j:src1 s.heap) (m:src2 s.heap) (d:xs.length<=k\/ys.length<=k)
  (B:∀h' q,(∀c o,c≠z->c≠g->c≠f->c≠h->s.heap.get? c=some o->h'.get? c=some o)->Q none { s with heap:=h',toks:=q }):wpAny (model prog w) A (pyNext (.ref z)) Q E s:=by
 have r:s.TypeIs (.ref z) "zip":=⟨_,p,rfl⟩
 unfold pyNext;refine wpAny_bind (wpAny_attempt (wpAny_callSpecial?_slot r F.slot_zip_next
  (wpAny_call_entry F.slot_zip_next r F.entry_zip_next (tz D x y p i l H u j m d λh' q e v C=>?_) (F.args_zip_next_1 _))))
 obtain⟨o,I,t⟩:=C;refine wpAny_bind (wpAny_isInstance ⟨o,I,t⟩ isSubtype_stop ?_);exact wpAny_pure (B _ _ v)
end
end
section
def Gu(K:Waa)(a b:ZS):It:=
 ⟨λi H=>a.ok K H/\b.ok K H/\i<a.items.length/\i<b.items.length,
  λi H v c=>∃T x y,a.items[i]?=some x/\b.items[i]?=some y/\H T=none/\v=.ref T/\c=upd H T (.tup [x,y]),
  λi H=>a.ok K H/\b.ok K H/\(a.items.length<=i\/b.items.length<=i)⟩
def ZS.rcd:ZS->Value->Obj
 |.lst _ _,v=>{ cls:=.type "list_iterator",data:=.fields #[v,.int 0 0] }
 |.tup _ _,v=>{ cls:=.type "tuple_iterator",data:=.fields #[v,.int 0 0] }
 |.str z,v=>{ cls:=.type (strIterType z),data:=.fields #[v,.int 0 0] }
def ZS.st(a:ZS)(v:Value)(i:Addr)(k:Nat)(h:Heap):Prop:=match a,v with
 |.lst l _,_=>h.IsListIter i l k
 |.tup l _,_=>h.IsTupleIter i l k
 |.str z,.str _ t=>h.IsStrIter i (strIterType z) z t k
 |.str _,_=>False
def ZS.sl:ZS->List Addr
 |.lst l _=>[l]
 |.tup l _=>[l]
 |.str _=>[]
def ZS.qd{a:ZS}(x:a.st v i k h):∃o,h.get? i=some o/\∀c,o.data≠.cell c:=by
 cases a with
 |lst l b=>obtain⟨o,e,c,d⟩:=(show h.IsListIter i l k from x);exact⟨o,e,λv z=>by rw[d]at z;cases z⟩
 |tup l b=>obtain⟨o,e,c,d⟩:=(show h.IsTupleIter i l k from x);exact⟨o,e,λv z=>by rw[d]at z;cases z⟩
 |str z=>
  cases v with
  |str y t=>obtain⟨o,e,c,d⟩:=(show h.IsStrIter i (strIterType z) z t k from x);exact⟨o,e,λv z=>by rw[d]at z;cases z⟩
  |_=>exact False.elim x
def ZS.i3{a:ZS}(x:a.st v i k h)(f:∀o,h.get? i=some o->h'.get? i=some o):a.st v i k h':=by
 cases a with
 |lst l b=>obtain⟨o,e,c⟩:=(show h.IsListIter i l k from x);exact⟨o,f o e,c⟩
 |tup l b=>obtain⟨o,e,c⟩:=(show h.IsTupleIter i l k from x);exact⟨o,f o e,c⟩
 |str z=>
  cases v with
  |str y t=>obtain⟨o,e,c⟩:=(show h.IsStrIter i (strIterType z) z t k from x);exact⟨o,f o e,c⟩
  |_=>exact False.elim x
section
variable{X:Cx}{pins:List (Addr×Obj)}{σ:St}{H:Hp}{s:Shared}
def ZS.sub(a:ZS)(I:Inv X pins σ H s)(c:a.ok X.K H)(x:RelV a.val v)(A:Around)(m:A.handled=none)(i:Addr):
  ∃j:Heap->Prop,j s.heap/\Sub X.prog X.w A i a.sl j (a.st v i) a.items/\(∀b∈a.sl,∃o,s.heap.get? b=some o/\(H b≠none\/X.base.get? b=some o)):=by
 cases a with
 |lst l q=>
  have c:SqL X.K H l q:=c;obtain⟨k,r,p,u⟩:=I.list c;refine⟨_,p.isList,Sub.list m i l r,λb f=>?_⟩;have e:b=l:=by simpa[ZS.sl] using f
  subst e;rcases c with (h|⟨o,h⟩)|⟨o,d,n,g,_⟩
  ·obtain⟨_,_,_,_,e⟩:=I.hok _ _ h;exact⟨_,e,.inl (by rw[h];simp)⟩
  ·obtain⟨e,_⟩:=I.hok _ _ h;exact⟨_,e,.inl (by rw[h];simp)⟩
  ·exact⟨o,I.rd _ _ g,.inr (I.ok.mod.kin _ _ g)⟩
 |tup l q=>
  have c:SqT X.K H l q:=c;obtain⟨k,r,p,u⟩:=I.tuple c;refine⟨_,p,Sub.tuple m i l r,λb f=>?_⟩;have e:b=l:=by simpa[ZS.sl] using f
  subst e;rcases c with (h|⟨o,h⟩)|⟨o,d,n,g,_⟩
  ·obtain⟨_,_,_,o,e,_⟩:=I.hok _ _ h;exact⟨_,e,.inl (by rw[h];simp)⟩
  ·obtain⟨e,_⟩:=I.hok _ _ h;exact⟨_,e,.inl (by rw[h];simp)⟩
  ·exact⟨o,I.rd _ _ g,.inr (I.ok.mod.kin _ _ g)⟩
 |str z=>obtain⟨t,rfl⟩:=x;exact⟨_,trivial,Sub.strs m i z t,λb f=>by simp[ZS.sl]at f⟩
end
def aM{a:ZS}(I:Inv X pins σ H s)(f:FpOk X pins H b)(h:∀c∈a.sl,∃o,s.heap.get? c=some o/\(H c≠none\/X.base.get? c=some o)):∀c∈a.sl,c≠b:=by
 intro c d e;subst e;obtain⟨o,_,q⟩:=h c d;rcases q with q|q
 ·exact q f.1
 ·rcases f.2.2.2.1 with z|z
  ·exact I.ok.noex c o q z
  ·exact absurd (aat (Heap.lt_size q) (aan I.ok.bsz z)) (aa3 _)
structure ZRec (z TI TO i1 i2:Addr):Prop where
 TIz:TI≠z
 TOz:TO≠z
 i1z:i1≠z
 i2z:i2≠z
 TITO:TI≠TO
 TIi1:TI≠i1
 TIi2:TI≠i2
 TOi1:TO≠i1
 TOi2:TO≠i2
 i12:i1≠i2
def Inv.il{t':Nat}{g:List Addr}(I:Inv X pins σ H s)(k:∀b o,b ∉ g->s.heap.get? b=some o->h'.get? b=some o)(f:∀b∈g,FpOk X pins H b)
  : Inv X pins σ H { s with heap:=h',toks:=t' }:=by
 have d:∀b u,H b=some u->b ∉ g:=λb u e z=>by rw[(f b z).1]at e;cases e
 refine I.step (λb h=>?_) (λb o _ _ a e _=>k b o a e) (λb o _ _ a e _=>⟨o.slots,k b o a e⟩) (λ_ _ _ _ n=>n)
  (λb o a e=>⟨o,k b o a e⟩) (λ_ _ e=>e) (λ_ _ _ e=>e) (λb A e=>⟨#[],by rw[e];simp⟩) (λm x=>?_) (λb u e=>?_) I.bare
 ·obtain⟨B,w,C,t,p,j⟩:=f b h;exact⟨t,w,p,j⟩
 ·obtain⟨o,l,i,y,r⟩:=x;exact⟨o,l,i,k _ o (λz=>(f _ z).2.1 rfl) y,r⟩
 ·refine(I.hok b u e).kl (λc v a q=>k c v ?_ q) (λ_ q=>q) λ_ _ q=>q;rcases a with z|z
  ·rw[z];exact d b u e
  ·exact d c _ z
def tE{P:Program}{K:Waa}{x1}(a b:ZS)(va vb:Value)(ra:RelV a.val va)(rb:RelV b.val vb)(z TI TO i1 i2:Addr)(R:ZRec z TI TO i1 i2):
  Turn P w K (.Tuple es x1 pos) (Gu K a b) [z,TI,TO,i1,i2] z
   (λi h=>IsZip h z TI TO .none/\IsPair h TI (.ref i1) (.ref i2)/\(∃p q,IsPair h TO p q)/\a.st va i1 i h/\b.st vb i2 i h) where
 mem:=by simp
 obj:=λi h ⟨C,F,⟨p,q,J⟩,L,M⟩ c d=>by
  simp only[aab,aaw,or_false]at d;rcases d with rfl|rfl|rfl|rfl|rfl
  ·exact⟨_,C,λv z=>by cases z⟩
  ·exact⟨_,F,λv z=>by cases z⟩
  ·exact⟨_,J,λv z=>by cases z⟩
  ·exact ZS.qd L
  ·exact ZS.qd M
 keep:=λi h h' ⟨C,F,⟨p,q,J⟩,L,M⟩ k=>
  ⟨k z (by simp) _ C,k TI (by simp) _ F,⟨p,q,k TO (by simp) _ J⟩,ZS.i3 L (λo e=>k i1 (by simp) o e),ZS.i3 M (λo e=>k i2 (by simp) o e)⟩
 item:=by
  intro X hP hw hK d i B s σ H E I g ⟨C,F,⟨p,q,J⟩,L,M⟩ hg;subst hP hw hK;obtain⟨S,O,la,lb⟩:=hg;have hh:X.A.in1.handled=none:=I.ok.hd d;obtain⟨W,N,S1,j⟩:=a.sub I S ra X.A.in1 hh i1;obtain⟨a3,Q,S2,l⟩:=b.sub I O rb X.A.in1 hh i2;obtain⟨x,hx⟩:∃x,a.items[i]?=some x:=⟨_,aap la⟩
  obtain⟨y,hy⟩:∃y,b.items[i]?=some y:=⟨_,aap lb⟩
  have D:ZApart z TI TO i1 i2 a.sl b.sl:=⟨R.TIz,R.TOz,R.i1z,R.i2z,R.TITO,R.TIi1,R.TIi2,R.TOi1,R.TOi2,R.i12,
   λc d=>⟨aM I (g z (by simp)) j c d,aM I (g TO (by simp)) j c d,aM I (g i1 (by simp)) j c d,aM I (g i2 (by simp)) j c d⟩,
   λc d=>⟨aM I (g z (by simp)) l c d,aM I (g TO (by simp)) l c d,aM I (g i1 (by simp)) l c d,aM I (g i2 (by simp)) l c d⟩⟩
  have fl:∀c∈([z,TI,TO,i1,i2]:List Addr),c<s.heap.objs.size:=λc d=>by
   simp only[aab,aaw,or_false]at d;rcases d with rfl|rfl|rfl|rfl|rfl
   ·exact Heap.lt_size C
   ·exact Heap.lt_size F
   ·exact Heap.lt_size J
   ·obtain⟨o,e,_⟩:=ZS.qd L;exact Heap.lt_size e
   ·obtain⟨o,e,_⟩:=ZS.qd M;exact Heap.lt_size e
  refine nI D S1 S2 C F J L M N Q hx hy (λu v h' tk ru rv a6 Y U Z hT a7 hk=>?_) (fl i1 (by simp)) (fl i2 (by simp));refine⟨.ref s.heap.objs.size,rfl,?_⟩;refine wpAny_letOwnedTupleGo_zip a6 λt a0 f=>?_;have f:Heap.SameBut z h' t:=f;have k1:∀c o,c ∉ ([z,TI,TO,i1,i2]:List Addr)->s.heap.get? c=some o->t.get? c=some o:=λc o d e=>by simp only[aab,aaw,or_false,not_or]at d;exact f.extBut _ _ d.1 (hk c o d.1 d.2.2.1 d.2.2.2.1 d.2.2.2.2 e)
  have T:H s.heap.objs.size=none:=I.hok.fresh (aag _);have I1:Inv X B σ H { s with heap:=t,toks:=tk }:=I.il k1 g;have a4:s.heap.objs.size≠z:=aa4 (fl z (by simp));have a1:IsPair t s.heap.objs.size u v:=f.extBut _ _ a4 hT;have I2:Inv X B σ (upd H s.heap.objs.size (.tup [x,y])) { s with heap:=t,toks:=tk }:=by
   refine I.step (λb hb=>?_) (λb o _ _ d e _=>k1 b o d e) (λb o _ _ d e _=>⟨o.slots,k1 b o d e⟩) (λb o d e n=>?_)
    (λb o d e=>⟨o,k1 b o d e⟩) (λb ys e=>?_) (λb o u e=>?_) (λb ps e=>⟨#[],?_⟩) (λm hm=>?_) (λb o e=>?_) I.bare
   ·obtain⟨f0,f1,f2,f3,f4,f5⟩:=g b hb;exact⟨f3,f1,f4,f5⟩
   ·rw[upd_ne (aao (Heap.lt_size e))];exact n
   ·rw[upd_ne (ao e T)];exact e
   ·rw[upd_ne (ao e T)];exact e
   ·rw[upd_ne (ao e T),e];simp
   ·obtain⟨o,a5,ep,ho,r⟩:=hm;exact⟨o,a5,ep,k1 _ o (λz=>(g _ z).2.1 rfl) ho,r⟩
   ·by_cases hb:b=s.heap.objs.size
    ·subst hb;rw[au]at e;cases e;exact⟨(by show 2<=sizeLine;decide),[u,v],.cons ru (.cons rv .nil),⟨_,a1,rfl,_,rfl⟩⟩
    ·rw[upd_ne hb]at e;refine(I1.hok b o e).kl (λc v d q=>q) (λc q=>by rw[upd_ne (ao q T)];exact q) λc ys q=>by rw[upd_ne (ao q T)];exact q
  refine⟨.ref s.heap.objs.size,_,I2,rfl,⟨_,x,y,hx,hy,T,rfl,rfl⟩,⟨a0,?_,⟨u,v,f.extBut _ _ R.TOz Y⟩,ZS.i3 U (λo e=>f.extBut _ _ R.i1z e),ZS.i3 Z (λo e=>f.extBut _ _ R.i2z e)⟩,λc d=>?_⟩
  ·exact f.extBut _ _ R.TIz (hk _ _ R.TIz R.TITO R.TIi1 R.TIi2 F)
  ·rw[upd_ne (aao (fl c d))];exact(g c d).1
 done:=by
  intro X hP hw hK d i B s σ H E I g ⟨C,F,⟨p,q,J⟩,L,M⟩ hg;subst hP hw hK;obtain⟨S,O,a2⟩:=hg;have hh:X.A.in1.handled=none:=I.ok.hd d;obtain⟨W,N,S1,j⟩:=a.sub I S ra X.A.in1 hh i1;obtain⟨a3,Q,S2,l⟩:=b.sub I O rb X.A.in1 hh i2;have D:ZApart z TI TO i1 i2 a.sl b.sl:=⟨R.TIz,R.TOz,R.i1z,R.i2z,R.TITO,R.TIi1,R.TIi2,R.TOi1,R.TOi2,R.i12,
   λc d=>⟨aM I (g z (by simp)) j c d,aM I (g TO (by simp)) j c d,aM I (g i1 (by simp)) j c d,aM I (g i2 (by simp)) j c d⟩,
   λc d=>⟨aM I (g z (by simp)) l c d,aM I (g TO (by simp)) l c d,aM I (g i1 (by simp)) l c d,aM I (g i2 (by simp)) l c d⟩⟩
  refine rG D S1 S2 C F J L M N Q a2 λh' tk hk=>⟨rfl,I.il (λc o d e=>?_) g⟩
  simp only[aab,aaw,or_false,not_or]at d;exact hk c o d.1 d.2.2.1 d.2.2.2.1 d.2.2.2.2 e
 self:=λ_ _ _ _ _ ⟨C,_⟩ h=>wpAny_pyIter_zip C h
def iC(l n:Value)(o1 o2:Obj)(b a:Heap->Prop)(i:∀h o,a h->a (h.push o))
  (r:∀(prog:Program) (w:World) (A:Around) (E:Value->Shared->Prop) (s:Shared) (Q:Value->Shared->Prop),b s.heap->Q (.ref s.heap.objs.size) { s with heap:=s.heap.push o1 }->wpAny (model prog w) A (pyIter l) Q E s)
  (t:∀(prog:Program) (w:World) (A:Around) (E:Value->Shared->Prop) (s:Shared) (Q:Value->Shared->Prop),a s.heap->Q (.ref s.heap.objs.size) { s with heap:=s.heap.push o2 }->wpAny (model prog w) A (pyIter n) Q E s):
  Meets (Builtin.«zip.__new__» ⟨[.type "zip",l,n],[]⟩) (λ_ R s=>b s.heap/\a s.heap /\
   R (.ok (.ret (.ref ((((s.heap.push o1).push o2).push { cls:=.type "tuple",data:=.seq #[.ref s.heap.objs.size,.ref (s.heap.push o1).objs.size] }).push { cls:=.type "tuple",data:=.seq #[.none,.none] }).objs.size)))
    { s with heap:=((((s.heap.push o1).push o2).push { cls:=.type "tuple",data:=.seq #[.ref s.heap.objs.size,.ref (s.heap.push o1).objs.size] }).push { cls:=.type "tuple",data:=.seq #[.none,.none] }).push { cls:=.type "zip",data:=.fields #[.none,.bool false,.bool false,.ref ((s.heap.push o1).push o2).objs.size,.ref (((s.heap.push o1).push o2).push { cls:=.type "tuple",data:=.seq #[.ref s.heap.objs.size,.ref (s.heap.push o1).objs.size] }).objs.size] } }):=
 .of_wp λprog w A R s h=>by
  obtain⟨c,g,d,e,f⟩:=s;obtain⟨k,m,h⟩:=h;have p:=sub_zip;have u:∀{A:Around}{E:Value->Shared->Prop}{Q:Value->Shared->Prop},Q (.ref c.objs.size) ⟨c.push o1,g,d,e,f⟩->wpAny (model prog w) A (pyIter l) Q E ⟨c,g,d,e,f⟩:=λj=>r _ _ _ _ ⟨c,g,d,e,f⟩ _ k j;have q:∀{A:Around}{E:Value->Shared->Prop}{Q:Value->Shared->Prop},Q (.ref (c.push o1).objs.size) ⟨(c.push o1).push o2,g,d,e,f⟩->wpAny (model prog w) A (pyIter n) Q E ⟨c.push o1,g,d,e,f⟩:=λj=>t _ _ _ _ ⟨c.push o1,g,d,e,f⟩ _ (i _ _ m) j
  wp_walk using u,q
  exact⟨_,rfl,h⟩
end
section
def boot_zip:bootBuiltins "zip"=some (.type "zip"):=by decide +kernel
section
variable{X:Cx}
def ZS.iter(a:ZS)(I:Inv X pins σ H s)(f:a.ok X.K H)(d:RelV a.val v):
  ∃b:Heap->Prop,b s.heap/\(∀h o,b h->b (h.push o)) /\
   ∀(prog:Program) (w:World) (A:Around) (E:Value->Shared->Prop) (s:Shared) (Q:Value->Shared->Prop),b s.heap->Q (.ref s.heap.objs.size) { s with heap:=s.heap.push (a.rcd v) }->wpAny (model prog w) A (pyIter v) Q E s:=by
 cases a with
 |lst l e=>obtain⟨c,r,p,g⟩:=I.list (show SqL X.K H l e from f);cases d;exact⟨λh=>h.IsList l c.toArray,p.isList,λh o x=>x.push o,λprog w A E s Q h q=>wpAny_pyIter_list h q⟩
 |tup l e=>obtain⟨c,r,p,g⟩:=I.tuple (show SqT X.K H l e from f);cases d;exact⟨λh=>h.IsTuple l c.toArray,p,λh o x=>x.push o,λprog w A E s Q h q=>wpAny_pyIter_tuple h q⟩
 |str z=>obtain⟨t,rfl⟩:=d;exact⟨λ_=>True,trivial,λ_ _ _=>trivial,λprog w A E s Q _ q=>wpAny_pyIter_strU q⟩
def ZS.st0(a:ZS)(b:RelV a.val v)(e:h.get? i=some (a.rcd v)):a.st v i 0 h:=by
 cases a with
 |lst l c=>cases b;exact⟨_,e,rfl,rfl⟩
 |tup l c=>cases b;exact⟨_,e,rfl,rfl⟩
 |str z=>obtain⟨t,rfl⟩:=b;exact⟨_,e,rfl,rfl⟩
def lY(a:ZS)(v:Value):(a.rcd v).isFreed=false:=by cases a<;>rfl
def Gv(K:Waa)(d:TA):TI:=λf H R=>d f H λe c=>∃a b:ZS,e=[a.val,b.val]/\a.ok K c/\b.ok K c/\R (Gu K a b) c
def addNe(h:i≠j):(n+i:Addr)≠n+j:=λe=>h (acq e)
def addNe0(h:i≠0):(n+i:Addr)≠n:=λe=>h (acq e)
def AF{es:List Expr}{x1}{l:Pos}{a b:Expr}{p pos:Pos} (hg:Gl X "zip") (hm:X.mg "zip"=none) (ha:PA X [a,b] ta) (W:starEach [a,b] X.env=[(false,eval a X.env),(false,eval b X.env)]:=by rfl) (k:starEach [b] X.env=[(false,eval b X.env)]:=by rfl):
  PI X (.Tuple es x1 l) (.Call (.Name "zip" p) [a,b] [] pos) (Gv X.K ta):=by
 intro f s T H R I h;refine Call_ (f9 I hg hm boot_zip (abw (thn (ha pos f s T H _ I h) λus d hZ=>?_) (by rw[W,k]) (by rw[k];rfl)));obtain⟨vs,Q,j,r1,q1⟩:=hZ;obtain⟨g,i,e,B,D,q⟩:=q1;subst e;obtain⟨m,r,rfl,y,v⟩:=r1.two;obtain⟨n,h1,_,p1⟩:=g.iter j B y;obtain⟨t,h2,z,p2⟩:=i.iter j D v;refine callType_new F.called_zip (by decide) (F.typeCall_zip_2 _ _) (F.newCall_zip_2 _ _) (λx=>F.args_object_init_3 x _ _) F.entry_zip_new
  (iC m r (g.rcd m) (i.rcd r) n t z p1 p2) ⟨h1,h2,?_⟩
 generalize hA:d.heap.push (g.rcd m)=A1;generalize hB:A1.push (i.rcd r)=A2;generalize hC:A2.push { cls:=.type "tuple",data:=.seq #[.ref d.heap.objs.size,.ref A1.objs.size] }=A3;generalize hD:A3.push { cls:=.type "tuple",data:=.seq #[.none,.none] }=A4;generalize hE:A4.push { cls:=.type "zip",data:=.fields #[.none,.bool false,.bool false,.ref A2.objs.size,.ref A3.objs.size] }=A5;have C:A1.objs.size=d.heap.objs.size+1:=by rw[<-hA];exact Heap.size_push ..
 have A:A2.objs.size=d.heap.objs.size+2:=by rw[<-hB,Heap.size_push,C]
 have w:A3.objs.size=d.heap.objs.size+3:=by rw[<-hC,Heap.size_push,A]
 have S:A4.objs.size=d.heap.objs.size+4:=by rw[<-hD,Heap.size_push,w]
 have P:A5.get? A4.objs.size=some { cls:=.type "zip",data:=.fields #[.none,.bool false,.bool false,.ref A2.objs.size,.ref A3.objs.size] }:=by rw[<-hE];exact Heap.get?_push_size _ rfl
 have O:∀c o,A4.get? c=some o->A5.get? c=some o:=λc o e=>by rw[<-hE];exact Heap.get?_push_of_some _ e
 have N:∀c o,A3.get? c=some o->A5.get? c=some o:=λc o e=>O c o (by rw[<-hD];exact Heap.get?_push_of_some _ e);have J:∀c o,A2.get? c=some o->A5.get? c=some o:=λc o e=>N c o (by rw[<-hC];exact Heap.get?_push_of_some _ e);have U:∀c o,A1.get? c=some o->A5.get? c=some o:=λc o e=>J c o (by rw[<-hB];exact Heap.get?_push_of_some _ e);have u1:∀c o,d.heap.get? c=some o->A5.get? c=some o:=λc o e=>U c o (by rw[<-hA];exact Heap.get?_push_of_some _ e);have g4:A5.get? A3.objs.size=some { cls:=.type "tuple",data:=.seq #[.none,.none] }:=O _ _ (by rw[<-hD];exact Heap.get?_push_size _ rfl);have g3:A5.get? A2.objs.size=some { cls:=.type "tuple",data:=.seq #[.ref d.heap.objs.size,.ref A1.objs.size] }:=N _ _ (by rw[<-hC];exact Heap.get?_push_size _ rfl);have Z:A5.get? A1.objs.size=some (i.rcd r):=J _ _ (by rw[<-hB];exact Heap.get?_push_size _ (lY _ _));have Y:A5.get? d.heap.objs.size=some (g.rcd m):=U _ _ (by rw[<-hA];exact Heap.get?_push_size _ (lY _ _));refine⟨⟨_,P,rfl⟩,?_⟩;have L:IsZip A5 A4.objs.size A2.objs.size A3.objs.size .none:=P;refine wpAny_pyIter_zip L ?_;have R:ZRec A4.objs.size A2.objs.size A3.objs.size d.heap.objs.size A1.objs.size:=by rw[C,A,w,S];refine⟨?_,?_,?_,?_,?_,?_,?_,?_,?_,?_⟩<;>first|exact addNe (by decide)|exact addNe0 (by decide)|exact(addNe0 (by decide)).symm
 have I5:Inv X f T Q { d with heap:=A5 }:=j.kept u1;refine⟨A4.objs.size,[A4.objs.size,A2.objs.size,A3.objs.size,d.heap.objs.size,A1.objs.size],_,_,Q,rfl,I5,tE g i m r y v _ _ _ _ _ R,
  ⟨L,g3,⟨_,_,g4⟩,g.st0 y Y,i.st0 v Z⟩,λb M=>?_,q⟩
 have u:d.heap.objs.size<=b:=by simp only[aab,aaw,or_false]at M;rcases M with rfl|rfl|rfl|rfl|rfl<;>first|exact aag _|(rw[S];exact aa8 _ _)|(rw[w];exact aa8 _ _)|(rw[A];exact aa8 _ _)|(rw[C];exact aa8 _ _)
 exact j.r3 u (j.hok.fresh u)
end
section
variable{X:Cx}
def wX:∀{us:List Value},Vals (a.map V.bl) us->LSm.BoolsAre us a:=by
 induction a with
 |nil=>intro us r;rw[aaC]at r;cases r;exact .nil
 |cons b a d=>
  intro us r;rw[aaj]at r;cases r with
  |cons e c=>cases e;exact .cons b (d c)
def tF(o:X.calm=true):bZ X (.builtin "all") (λxs H Q=>∃(p:Addr) (a:List Bool),xs=[.ref p]/\SqL X.K H p (a.map V.bl)/\Q (.bl (a.all id)) H):=by
 intro j s M H xs B Q I r h;obtain⟨p,a,rfl,n,q⟩:=h;obtain⟨u,rfl,l⟩:=vals1 r;cases l;obtain⟨c,x,f,y⟩:=I.list n;obtain⟨m,F⟩:=I.fr;have d:p<s.heap.objs.size:=by obtain⟨_,_,e,_⟩:=f;exact Heap.lt_size e
 have g:=wX x;refine call_all_walk (wpAny_pyIter_list f.isList ?_);refine⟨s.heap.objs.size,[s.heap.objs.size,p],[s.heap.objs.size],c.toArray.size,_,_,λi=>(a[i]?).getD true,rfl,Walks.list (A:=X.A.in1) (I.ok.hd o) _ p (aao d) c.toArray,
  ⟨⟨_,Heap.get?_push_size _ rfl,rfl,rfl⟩,f.isList.push _⟩,λi v C J L w k=>?_,λD z t=>?_⟩
 ·obtain⟨b,e,rfl⟩:=g.get i v (by simpa using w);simp only[e,Option.getD_some]at k;exact wpAny_truthy_bool k
 ·have e:((List.range c.toArray.size).all λi=>(a[i]?).getD true)=a.all id:=by rw[aau,g.length];exact LSm.range_all a
  rw[e];exact⟨.bl (a.all id),H,I.kept (LSm.kept_iter t),rfl,q⟩
end
end
section
mutual
inductive Dt (K:Waa)(H:Hp):V->PyData->Prop
 |non:Dt K H .non .none
 |bl (b:Bool):Dt K H (.bl b) (.bool b)
 |int (i:Int):Dt K H (.int i) (.int i)
 |str (x:Str):Dt K H (.str x) (.str x)
 |lst {a xs ds}:SqL K H a xs->DtAll K H xs ds->Dt K H (.ref a) (.list ds)
 |tup {a xs ds}:SqT K H a xs->DtAll K H xs ds->Dt K H (.ref a) (.tuple ds)
inductive DtAll (K:Waa)(H:Hp):List V->List PyData->Prop
 |nil:DtAll K H [] []
 |cons {x d xs ds}:Dt K H x d->DtAll K H xs ds->DtAll K H (x::xs) (d::ds)
end
def DtAll.length{K:Waa}(h:DtAll K H xs ds):xs.length=ds.length:=by
 induction xs generalizing ds with
 |nil=>cases h;rfl
 |cons v b a=>cases h with|cons _ t=>rw[aaq,aaq,a t]
def DtAll.ints{K:Waa}:∀(ns:List Int),DtAll K H (ns.map V.int) (ns.map PyData.int)
 |[]=>.nil
 |n::ns=>.cons (.int n) (DtAll.ints ns)
def Same.tupS{K:Waa}{H b:Hp}(e:Same H b)(h:SqT K H a xs):SqT K b a xs:=by
 rcases h with (h|⟨o,h⟩)|h
 ·exact .inl (.inl (e _ _ h))
 ·exact .inl (.inr ⟨o,e _ _ h⟩)
 ·exact .inr h
def Dt.ind{K:Waa}{P:V->PyData->Prop}{Q:List V->List PyData->Prop}(g:P .non .none)(l:∀b,P (.bl b) (.bool b))(k:∀i,P (.int i) (.int i))(c:∀x,P (.str x) (.str x))
  (e:∀{a xs ds},SqL K H a xs->Q xs ds->P (.ref a) (.list ds)) (f:∀{a xs ds},SqT K H a xs->Q xs ds->P (.ref a) (.tuple ds)) (nil:Q [] []) (cons:∀{x d xs ds},P x d->Q xs ds->Q (x::xs) (d::ds)):
  (∀{v d},Dt K H v d->P v d)/\∀{vs ds},DtAll K H vs ds->Q vs ds:=
 ⟨λh=>Dt.rec g l k c (λh _ i=>e h i) (λh _ i=>f h i) nil (λ_ _ i j=>cons i j) h,
  λh=>DtAll.rec g l k c (λh _ i=>e h i) (λh _ i=>f h i) nil (λ_ _ i j=>cons i j) h⟩
section
variable{X:Cx}{pins:List (Addr×Obj)}{σ:St}{H:Hp}{s:Shared}
def Dt.reads_(I:Inv X pins σ H s):(∀{x:V}{d:PyData},Dt X.K H x d->∀{u:Value},RelV x u->∃c,Reads s.heap u d c)/\∀{xs:List V}{ds:List PyData},DtAll X.K H xs ds->∀{us:List Value},Vals xs us->∃c,ReadsAll s.heap us ds c:=by
 refine Dt.ind (P:=λx d=>∀{u:Value},RelV x u->∃c,Reads s.heap u d c) ?_ ?_ ?_ ?_ ?_ ?_ ?_ ?_
 ·intro u r;cases r;exact⟨_,.none⟩
 ·intro b u r;cases r;exact⟨_,.bool b⟩
 ·intro i u r;obtain⟨t,rfl⟩:=r;exact⟨_,.int i t⟩
 ·intro x u r;obtain⟨t,rfl⟩:=r;exact⟨_,.str x t⟩
 ·intro a xs ds h i u r;cases r;obtain⟨g,k,⟨o,n,e,f,_,l⟩,_⟩:=I.list h;obtain⟨c,q⟩:=i k;exact⟨_,.list e f l (by simpa using q)⟩
 ·intro a xs ds h i u r;cases r;obtain⟨g,k,⟨o,e,f,n,l⟩,_⟩:=I.tuple h;obtain⟨c,q⟩:=i k;exact⟨_,.tuple e f l (by simpa using q)⟩
 ·intro us r;cases r;exact⟨_,.nil⟩
 ·intro x d xs ds i j us r;cases r with
  |cons v m=>obtain⟨c,q⟩:=i v;obtain⟨w,p⟩:=j m;exact⟨_,.cons q p⟩
def Dt.reads(I:Inv X pins σ H s)(h:Dt X.K H x d)(r:RelV x u):∃a,Reads s.heap u d a:=(Dt.reads_ I).1 h r
end
mutual
def eqv_refl:∀(d:PyData),d.canLay0=true->PyData.eqv d d=true
 |.none,_=>by simp[PyData.eqv]
 |.bool b,_=>by simp[PyData.eqv]
 |.int i,_=>by simp[PyData.eqv]
 |.str x,_=>by simp[PyData.eqv]
 |.list xs,h=>by simp only[PyData.eqv];exact eqvAll_refl xs (by simpa[PyData.canLay0] using h)
 |.tuple xs,h=>by simp only[PyData.eqv];exact eqvAll_refl xs (by simpa[PyData.canLay0] using h)
 |.dict _,h=>by simp[PyData.canLay0]at h
def eqvAll_refl:∀(ds:List PyData),PyData.canLayAll0 ds=true->PyData.eqvAll ds ds=true
 |[],_=>by simp[PyData.eqvAll]
 |d::ds,h=>by simp only[PyData.canLayAll0,aaE]at h;simp only[PyData.eqvAll,aaE];exact⟨eqv_refl d h.1,eqvAll_refl ds h.2⟩
end
section
variable{X:Cx}
def Dr(K:Waa):R2:=λx y H Q=>∃a b,Dt K H x a/\Dt K H y b/\SeqAt.shaped a=true/\SeqAt.shaped b=true/\Q (.bl (PyData.eqv a b)) H
def Ds(K:Waa):R2:=λx y H Q=>∃a b,Dt K H x a/\Dt K H y b/\SeqAt.shaped a=true/\SeqAt.shaped b=true/\Q (.bl (!PyData.eqv a b)) H
def AG(i:X.A.units+64<cLine):OpR X (compareOp .Eq) (Dr X.K):=by intro a s p H x y v u Q I c g h;obtain⟨o,l,d,b,f,e,q⟩:=h;obtain⟨n,k⟩:=d.reads I c;obtain⟨m,j⟩:=b.reads I g;exact eq_dataH k j f e i ⟨.bl _,H,I,rfl,q⟩
def AH(i:X.A.units+64<cLine):OpR X (compareOp .NotEq) (Ds X.K):=by intro a s p H x y v u Q I c g h;obtain⟨o,l,d,b,f,e,q⟩:=h;obtain⟨n,k⟩:=d.reads I c;obtain⟨m,j⟩:=b.reads I g;exact ne_dataH k j f e i ⟨.bl _,H,I,rfl,q⟩
def kit_same(K:Waa)(T:String):PySem.W.kitOne K (.type T) (.type T)=some true:=by unfold PySem.W.kitOne;rw[if_pos (by simp)]
def kit_tl(K:Waa):PySem.W.kitOne K (.type "tuple") (.type "list")=some false:=by kernel_rfl
def kit_bi(K:Waa):PySem.W.kitOne K (.type "bool") (.type "int")=some true:=by kernel_rfl
def kit_ib(K:Waa):PySem.W.kitOne K (.type "int") (.type "bool")=some false:=by kernel_rfl
def kit_il(K:Waa):PySem.W.kitOne K (.type "int") (.type "list")=some false:=by kernel_rfl
def kit_it(K:Waa):PySem.W.kitOne K (.type "int") (.type "tuple")=some false:=by kernel_rfl
def kit_sl(K:Waa):PySem.W.kitOne K (.type "str") (.type "list")=some false:=by kernel_rfl
def kit_st(K:Waa):PySem.W.kitOne K (.type "str") (.type "tuple")=some false:=by kernel_rfl
def kit_si(K:Waa):PySem.W.kitOne K (.type "str") (.type "int")=some false:=by kernel_rfl
def kit_bl(K:Waa):PySem.W.kitOne K (.type "bool") (.type "list")=some false:=by kernel_rfl
def kit_bt(K:Waa):PySem.W.kitOne K (.type "bool") (.type "tuple")=some false:=by kernel_rfl
def kit_bs(K:Waa):PySem.W.kitOne K (.type "bool") (.type "str")=some false:=by kernel_rfl
def kit_nl(K:Waa):PySem.W.kitOne K (.type "NoneType") (.type "list")=some false:=by kernel_rfl
def kit_nt(K:Waa):PySem.W.kitOne K (.type "NoneType") (.type "tuple")=some false:=by kernel_rfl
def kit_ni(K:Waa):PySem.W.kitOne K (.type "NoneType") (.type "int")=some false:=by kernel_rfl
def kit_li(K:Waa):PySem.W.kitOne K (.type "list") (.type "int")=some false:=by kernel_rfl
def kit_ti(K:Waa):PySem.W.kitOne K (.type "tuple") (.type "int")=some false:=by kernel_rfl
inductive Ty (K:Waa)(H:Hp):V->String->Prop
 |non:Ty K H .non "NoneType"
 |bl (b:Bool):Ty K H (.bl b) "bool"
 |int (i:Int):Ty K H (.int i) "int"
 |str (x:Str):Ty K H (.str x) "str"
 |lst {a xs}:SqL K H a xs->Ty K H (.ref a) "list"
 |tup {a xs}:SqT K H a xs->Ty K H (.ref a) "tuple"
def Ty.kitx(I:Inv X pins σ H s)(f:Ty X.K H x n)(a:RelV x u):
  ∃Z:Heap->Prop,PySem.W.KitX X.K u (.type n) Z/\Z s.heap/\u≠.builtin "__main__.__loader__#opaque":=by
 cases f with
 |non=>cases a;exact⟨_,PySem.W.kitx_none,trivial,λz=>nomatch z⟩
 |bl b=>cases a;exact⟨_,PySem.W.kitx_bool,trivial,λz=>nomatch z⟩
 |int i=>obtain⟨t,rfl⟩:=a;exact⟨_,PySem.W.kitx_int,trivial,λz=>nomatch z⟩
 |str x=>obtain⟨t,rfl⟩:=a;exact⟨_,PySem.W.kitx_str,trivial,λz=>nomatch z⟩
 |lst h=>cases a;obtain⟨d,_,⟨o,n,e,c,_⟩,_⟩:=I.list h;exact⟨_,PySem.W.kitx_list,⟨o,e,c⟩,λz=>nomatch z⟩
 |tup h=>cases a;obtain⟨d,_,⟨o,e,c,_⟩,_⟩:=I.tuple h;exact⟨_,PySem.W.kitx_tuple,⟨o,e,c⟩,λz=>nomatch z⟩
def tG(T:String):bZ X (.builtin "isinstance") (λxs H Q=>∃x n b,xs=[x,.ty T]/\Ty X.K H x n/\PySem.W.kitOne X.K (.type n) (.type T)=some b/\Q (.bl b) H):=by
 intro a s l H xs k Q I r h;obtain⟨x,n,b,rfl,i,e,q⟩:=h;obtain⟨u,v,rfl,c,f⟩:=r.two;cases f;obtain⟨Z,g,z,d⟩:=i.kitx I c;exact PySem.W.kia_one g I.rd z e d λj=>⟨.bl b,H,I.tok _,rfl,q⟩
def rH(S T:String):bZ X (.builtin "isinstance") (λxs H Q=>∃x n b p,xs=[x,.ref p]/\H p=some (.tup [.ty S,.ty T])/\Ty X.K H x n/\PySem.W.kitAny X.K (.type n) [.type S,.type T]=some b/\Q (.bl b) H):=by
 intro f s N H xs J Q I r h;obtain⟨x,n,b,p,rfl,l,B,e,q⟩:=h;obtain⟨u,v,rfl,g,t⟩:=r.two;cases t;obtain⟨Z,w,z,m⟩:=B.kitx I g;obtain⟨_,j,k,⟨⟨c,M,o,L⟩,i,a,y,d⟩⟩:=I.hok p _ l;obtain⟨F,O,rfl,C,A⟩:=k.two;cases C;cases A;replace a:c=.type "tuple":=a;replace d:o=.seq [Value.type S,Value.type T].toArray y:=d;subst a d;exact PySem.W.kia_tup w I.rd z i e m λD=>⟨.bl b,H,I.tok _,rfl,q⟩
def iD(K:Waa)(a:PySem.W.kitOne K (.type n) (.type S)=some true\/(PySem.W.kitOne K (.type n) (.type S)=some false/\PySem.W.kitOne K (.type n) (.type T)=some true)):
  PySem.W.kitAny K (.type n) [.type S,.type T]=some true:=by
 rcases a with h|⟨h,b⟩
 ·simp[PySem.W.kitAny,h]
 ·simp[PySem.W.kitAny,h,b]
def eJ(K:Waa)(h:PySem.W.kitOne K (.type n) (.type S)=some false)(h':PySem.W.kitOne K (.type n) (.type T)=some false):
  PySem.W.kitAny K (.type n) [.type S,.type T]=some false:=by
 simp[PySem.W.kitAny,h,h']
end
end
section
section
variable{X:Cx}{pos:Pos}
def Du(i j k:Nat)(b:TA):TS:=λD a H=>b a H λc d=>∃v w u,c=[v,w,u]/\D.nx (((a.set i (some v)).set j (some w)).set k (some u)) d
def wY{B t f}(hc:X.calm=true)(L:X.N.Nodup)(hi:X.N[i]?=some x)(hj:X.N[j]?=some y)(hk:X.N[k]?=some z)(J:i≠j)(P:i≠k)(O:j≠k)
  (Y:X.env.scope.names.lookup x=some .local) (U:X.env.scope.names.lookup y=some .local) (T:X.env.scope.names.lookup z=some .local) (ha:PA X [a,b,c] ta)
  (hw:swappedStores [.Tuple [.Name x px,.Name y py,.Name z pz] B pt] (.Tuple [a,b,c] t f) X.env=pure (some [x,y,z]))
  (hs:swapsWithSole [.Tuple [.Name x px,.Name y py,.Name z pz] B pt] (.Tuple [a,b,c] t f) pos.line X.env=pure false:=by rfl):
  PS X (.Assign [.Tuple [.Name x px,.Name y py,.Name z pz] B pt] (.Tuple [a,b,c] t f) pos) (Du i j k ta):=by
 intro d s r H D I h;rw[exec_Assign_arm];refine wpAny_bind (wpAny_standAt ?_);rw[hs];refine wpAny_bind (wpAny_pure ?_);rw[if_neg (by decide)];refine wpAny_bind (Tuple_ (thn (ha _ d s r H _ I h) λus n ⟨vs,W,I1,r1,S⟩=>?_));obtain⟨v,w,u,e1,S⟩:=S;subst e1;obtain⟨l,m,g,rfl,rv,Q,ru⟩:∃l m g,us=[l,m,g]/\RelV v l/\RelV w m/\RelV u g:=by
  cases r1 with
  |cons p q=>
   cases q with
   |cons p' q'=>
    cases q' with
    |cons C F=>cases F;exact⟨_,_,_,rfl,p,p',C⟩
 refine wpAny_newObj_type ?_ (by show 3<=sizeLine;decide);have I2:Inv X d r W { n with heap:=n.heap.push { cls:=.type "tuple",data:=.seq [l,m,g].toArray } }:=I1.kept λb o e=>Heap.get?_push_of_some _ e;rw[hw];refine wpAny_bind (wpAny_pure ?_);show wpAny (model X.prog X.w) X.A (do rule "assign.swapped-stores";let items <-unpackItems (.ref n.heap.objs.size) 3 none;assignInOrder [λv=>bindName X.env z v,λv=>bindName X.env y v,λv=>bindName X.env x v] items.reverse;pure Flow.next) _ _ _;refine wpAny_bind (wpAny_rule (wpAny_bind (unpackItems_tuple (items:=#[l,m,g]) (I.ok.hd hc) (IsTup.new n.heap _) λh' M=>?_)));have I3:=I2.kept (t':=n.toks) λb o e=>M b o (aao (Heap.lt_size e)) e;show wpAny _ _ (assignInOrder [λv=>bindName X.env z v,λv=>bindName X.env y v,λv=>bindName X.env x v] [g,m,l] >>= λ_=>pure Flow.next) _ _ _;refine wpAny_bind (assignInOrder_cons (wpAny_bindName (bY I3 L hk (.inl T) ru (λs2 I4=>?_) (.inr T))));refine assignInOrder_cons (wpAny_bindName (bY I4 L hj (.inl U) Q (λs3 I5=>?_) (.inr U)));refine assignInOrder_cons (wpAny_bindName (bY I5 L hi (.inl Y) rv (λs4 Z=>assignInOrder_nil (wpAny_pure ?_)) (.inr Y)));have e:((r.set k (some u)).set j (some w)).set i (some v)=((r.set i (some v)).set j (some w)).set k (some u):=by rw[abv _ _ (aaG J),abv _ _ (aaG P),abv _ _ (aaG O)]
 rw[e]at Z;exact⟨_,W,Z,S⟩
end
def Keep(S:List Addr)(H a:Hp):Prop:=∀b o,H b=some o->b ∉ S->a b=some o
def Keep.same(a:Keep [] H H'):Same H H':=λb o h=>a b o h (by simp)
end
section
def nJ:bootBuiltins "len"=some (.builtin "len"):=by decide +kernel
def AI:bootBuiltins "abs"=some (.builtin "abs"):=by decide +kernel
def AJ:bootBuiltins "max"=some (.builtin "max"):=by decide +kernel
def AK:bootBuiltins "min"=some (.builtin "min"):=by decide +kernel
def AL:bootBuiltins "all"=some (.builtin "all"):=by decide +kernel
def eT:bootBuiltins "isinstance"=some (.builtin "isinstance"):=by decide +kernel
def tH:bootBuiltins "int"=some (.type "int"):=by decide +kernel
def wZ:bootBuiltins "bool"=some (.type "bool"):=by decide +kernel
def AM:bootBuiltins "str"=some (.type "str"):=by decide +kernel
def kj:bootBuiltins "list"=some (.type "list"):=by decide +kernel
def iF:bootBuiltins "tuple"=some (.type "tuple"):=by decide +kernel
section
variable{H:Hp}{Q:VK}{K:Waa}{x y v:V}{i j:Int}{p l:Addr}{xs:List V}
def nK(h:n<=1000000):n<=sizeLine:=aan h (by decide)
end
end
section
section
variable{κ:Type}[DecidableEq κ]
def valV(a:List (κ×V))(k:κ):Option V:=(a.find? λb=>decide (b.1=k)).map (·.2)
def putK(a:List (κ×V))(k:κ)(v:V):List (κ×V):=
 if (a.any λb=>decide (b.1=k))=true then a.map (λb=>if b.1=k then (b.1,v) else b) else a++[(k,v)]
def dS{k:κ}(e:p.1=k):valV (p::r) k=some p.2:=by simp[valV,aaW,e]
def iG{k:κ}(e:¬ p.1=k):valV (p::r) k=valV r k:=by simp[valV,aaW,e]
def iH(k:κ):∀a:List (κ×V),(a.any λb=>decide (b.1=k))=(valV a k).isSome
 |[]=>rfl
 |p::r=>by
  rw[aaP];by_cases e:p.1=k
  ·simp only[dS e,Dac e,Bool.true_or,Option.isSome_some]
  ·rw[iG e,Dab e,abY];exact iH k r
def dU(a:List (κ×V))(k:κ)(v:V):(putK a k v).length<=a.length+1:=by
 unfold putK;split
 ·rw[aaa];omega
 ·rw[aal,aaq,aaX];omega
def putK_new{k:κ}(v:V)(h:valV kvs k=none):putK kvs k v=kvs++[(k,v)]:=by unfold putK;rw[iH,h];exact if_neg (by decide)
def RelO.eo(r:RelO o u):o.isSome=u.isSome:=by
 cases o with
 |none=>cases u with
  |none=>rfl
  |some _=>exact(show False from r).elim
 |some _=>cases u with
  |none=>exact(show False from r).elim
  |some _=>rfl
def KV.val(r:KV kvs vs)(k:κ):RelO (valV kvs k) (valueAt vs k):=by
 unfold KV at r;induction r with
 |nil=>exact True.intro
 |@cons p q ps qs h t ih=>
  obtain⟨c,d⟩:=h;by_cases e:p.1=k
  ·have a:q.1=k:=c.symm.trans e;have b:valueAt (q::qs) k=some q.2:=by simp[valueAt,aaW,a]
   rw[dS e,b];exact d
  ·have a:¬ q.1=k:=λz=>e (c.trans z);have b:valueAt (q::qs) k=valueAt qs k:=by simp[valueAt,aaW,a]
   rw[iG e,b];exact ih
def KV.any{vs:List (κ×Value)}(r:KV kvs vs)(k:κ):(kvs.any λa=>decide (a.1=k))=vs.any λa=>decide (a.1=k):=by
 unfold KV at r;induction r with
 |nil=>rfl
 |cons h t b=>rw[aaP,aaP,b,h.1]
def KV.repl(r:KV kvs vs)(k:κ)(d:RelV y u):
  KV (kvs.map λa=>if a.1=k then (a.1,y) else a) (vs.map λa=>if a.1=k then (a.1,u) else a):=by
 unfold KV at r ⊢;induction r with
 |nil=>exact .nil
 |@cons p q ps qs h t ih=>
  rw[aaj,aaj];refine .cons ?_ ih;obtain⟨b,c⟩:=h;by_cases e:p.1=k
  ·rw[if_pos e,if_pos (b.symm.trans e)];exact⟨b,d⟩
  ·rw[if_neg e,if_neg (λz=>e (b.trans z))];exact⟨b,c⟩
def KV.put(r:KV kvs vs)(k:κ)(a:RelV y u):KV (putK kvs k y) (stored vs k u):=by
 unfold putK stored;rw[r.any k];by_cases e:(vs.any λb=>decide (b.1=k))=true
 ·rw[if_pos e,if_pos e];exact r.repl k a
 ·rw[if_neg e,if_neg e];exact Paired.snoc r ⟨rfl,a⟩
def KV.length{vs:List (κ×Value)}(r:KV kvs vs):kvs.length=vs.length:=Paired.length r
end
def jA(r:RelV (kV k) u):(bj P w).is k u=true:=by
 cases k with
 |inl i=>obtain⟨t,e⟩:=(show ∃t,u=Value.int i t from r);subst e;exact lG P w i t
 |inr x=>obtain⟨t,e⟩:=(show ∃t,u=Value.str x t from r);subst e;exact mixKind_str P w x t
def jB:∀{ks:List Key}{us:List Value},Vals (ks.map kV) us->ItemsAre (bj P w) ks us
 |[],_,r=>by rw[aaC]at r;cases r;exact .nil
 |k::ks,_,r=>by
  rw[aaj]at r;cases r with
  |cons h t=>exact .cons (jA h) (jB t)
abbrev KT(H:Hp):List (List Key×V)->List (List Key×Addr×Value)->Prop:=Paired λp q=>p.1=q.1/\H q.2.1=some (.tup (p.1.map kV))/\RelV p.2 q.2.2
def KT.val(r:KT H kvs xs)(k:List Key):RelO (valV kvs k) ((atKey xs k).map (·.2)):=by
 induction r with
 |nil=>exact True.intro
 |@cons p q ps qs h t ih=>
  obtain⟨c,_,d⟩:=h;by_cases e:p.1=k
  ·have a:q.1=k:=c.symm.trans e;have b:atKey (q::qs) k=some q.2:=by simp[atKey,aaW,a]
   rw[dS e,b];exact d
  ·have a:¬ q.1=k:=λz=>e (c.trans z);have b:atKey (q::qs) k=atKey qs k:=by simp[atKey,aaW,a]
   rw[iG e,b];exact ih
def KT.repl(r:KT H kvs xs)(k:List Key)(f:RelV y u):
  KT H (kvs.map λb=>if b.1=k then (b.1,y) else b) (xs.map (putAt k u)):=by
 induction r with
 |nil=>exact .nil
 |@cons p q ps qs h t ih=>
  rw[aaj,aaj];refine .cons ?_ ih;obtain⟨a,c,d⟩:=h;unfold putAt;by_cases e:p.1=k
  ·rw[if_pos e,if_pos (a.symm.trans e)];exact⟨a,c,f⟩
  ·rw[if_neg e,if_neg (λz=>e (a.trans z))];exact⟨a,c,d⟩
def KT.put(r:KT H kvs xs)(k:List Key)(d:H b=some (.tup (k.map kV)))(a:RelV y u):
  KT H (putK kvs k y) (storedH xs k b u):=by
 have e:(kvs.any λc=>decide (c.1=k))=(atKey xs k).isSome:=by rw[iH,(r.val k).eo,abZ]
 unfold putK storedH;rw[e];by_cases q:(atKey xs k).isSome=true
 ·rw[if_pos q,if_pos q];exact r.repl k a
 ·rw[if_neg q,if_neg q];exact Paired.snoc r ⟨rfl,d,a⟩
def KT.keeps(r:KT H kvs xs)(a:∀b ys,H b=some (.tup ys)->H' b=some (.tup ys)):KT H' kvs xs:=
 Paired.mapP r λ_ _ z=>⟨z.1,a _ _ z.2.1,z.2.2⟩
section
variable{P:Program}{w:World}{H:Hp}{h:Heap}{a:Addr}
def zg(b:HOk P w H h)(e:Rd H a u):ObjOk P w H h a u:=e.ok b
def lZ(b:HOk P w H h)(e:Rd H a (.dK kvs)):kvs.length<=sizeLine/\(a==sysModules)=false/\∃vs,KV kvs vs/\h.DictOf (bj P w) a vs:=
 show ObjOk P w H h a (.dK kvs) from zg b e
def zh(b:HOk P w H h)(e:H a=some (.dK kvs)):kvs.length<=sizeLine/\(a==sysModules)=false/\∃vs,KV kvs vs/\h.DictOf (bj P w) a vs:=lZ b (.inl e)
def iI(f:HOk P w H h)(e:H a=some (.tup (ks.map kV))):(tupleKind (bj P w)).is h ks a:=by
 obtain⟨_,b,r,o,g,d,n,c⟩:=(show ObjOk P w H h a (.tup (ks.map kV)) from f a _ e)
 exact⟨o,b.toArray,n,g,d,c,by simpa using jB r⟩
def l4(d:HOk P w H h)(e:Rd H a (.dT kvs)):kvs.length<=sizeLine/\(a==sysModules)=false /\
  ∃xs,KT H kvs xs/\h.DictOfH (tupleKind (bj P w)) a xs:=by
 obtain⟨z,y,xs,r,o,n,g,s,i,f,k,j⟩:=(show ObjOk P w H h a (.dT kvs) from zg d e)
 refine⟨z,y,xs,r,o,n,g,s,i,f,k,λx b=>?_,j⟩;have c:∀{l:List (List Key×V)}{m:List (List Key×Addr×Value)},KT H l m->∀x∈m,(tupleKind (bj P w)).is h x.1 x.2.1:=by
  intro l m q;induction q with
  |nil=>intro x b;exact nomatch b
  |@cons p q ps qs hq t ih=>
   intro x b;rcases aab.mp b with e|b
   ·subst e;exact iI d (by rw[<-hq.1];exact hq.2.1)
   ·exact ih x b
 exact c r x b
def Dv(b:HOk P w H h)(e:H a=some (.dT kvs)):kvs.length<=sizeLine/\(a==sysModules)=false /\
  ∃xs,KT H kvs xs/\h.DictOfH (tupleKind (bj P w)) a xs:=l4 b (.inl e)
end
def DGet(H:Hp)(a:Addr)(y:V)(r:Option V):Prop:=
 (∃c k,Rd H a (.dK c)/\y=kV k/\r=valV c k)\/∃c k b,Rd H a (.dT c)/\y=.ref b/\H b=some (.tup (k.map kV))/\r=valV c k
def DPut(H:Hp)(a:Addr)(y v:V)(d:Hp):Prop:=
 (∃c k,H a=some (.dK c)/\y=kV k/\c.length<sizeLine/\d=upd H a (.dK (putK c k v))) \/
 ∃c k b,H a=some (.dT c)/\y=.ref b/\H b=some (.tup (k.map kV))/\c.length<sizeLine/\d=upd H a (.dT (putK c k v))
def DGet.k{H:Hp}{a:Addr}{b:List (Key×V)}{k:Key}(e:H a=some (.dK b)):DGet H a (kV k) (valV b k):=.inl ⟨b,k,.inl e,rfl,rfl⟩
def DPut.k{H:Hp}{a:Addr}{b:List (Key×V)}{k:Key}{v:V}(e:H a=some (.dK b))(c:b.length<sizeLine):DPut H a (kV k) v (upd H a (.dK (putK b k v))):=.inl ⟨b,k,e,rfl,c,rfl⟩
section
variable{X:Cx}{pins:List (Addr×Obj)}{σ:St}{H:Hp}{s:Shared}{a:Addr}{y v:V}{u r:Value}{o:Option V}{A:Around}{E:Value->Shared->Prop}
def Inv.big(I:Inv X pins σ H s):sysModules<s.heap.objs.size:=by have h:mainGlobals<s.heap.objs.size:=(I.mod.glob.keeps I.bk).lt;exact abA (by decide) h
def rJ(C:A.units+1<cLine)(I:Inv X pins σ H s)(g:DGet H a y (some v))(x:RelV y u)(h:∀f t,Inv X pins σ H t->RelV v f->Q f t):
  wpAny (model X.prog X.w) A (getItem (.ref a) u) Q E s:=by
 rcases g with ⟨m,k,e,j,l⟩|⟨m,k,b,e,j,D,l⟩
 ·subst j;obtain⟨z,F,J,c,n⟩:=lZ I.hok e;obtain⟨f,q,d⟩:=RelO.some_of (by rw[l];exact c.val k);exact wpAny_getItem_of (jA x) n.mapOf q (h f _ (I.tok _) d)
 ·subst j;cases (show u=Value.ref b from x);obtain⟨z,F,L,c,n⟩:=l4 I.hok e;obtain⟨f,q,d⟩:=RelO.some_of (by rw[l];exact c.val k);obtain⟨p,B,i⟩:=aaJ.mp q;refine wpAny_getItem_heap (tupleKind_room_in1 C) (iI I.hok D) n B ?_;rw[i];exact h f _ (I.tok _) d
def Gw(p:A.units+1<cLine)(I:Inv X pins σ H s)(g:DGet H a y o)(n:RelV y u)(h:∀m,Inv X pins σ H m->Q (.bool o.isSome) m):
  wpAny (model X.prog X.w) A (compareOp .In u (.ref a)) Q E s:=by
 rcases g with ⟨f,k,e,d,l⟩|⟨f,k,b,e,d,t,l⟩
 ·subst d;obtain⟨z,j,x,c,i⟩:=lZ I.hok e;refine wpAny_in_of (jA n) j i.mapOf ?_;rw[<-(c.val k).eo,<-l];exact h _ (I.tok _)
 ·subst d;cases (show u=Value.ref b from n);obtain⟨z,j,B,c,i⟩:=l4 I.hok e;refine wpAny_in_heap (tupleKind_room_in1 p) (iI I.hok t) j i ?_;have q:=(c.val k).eo;rw[abZ]at q;rw[<-q,<-l];exact h _ (I.tok _)
def w8(p:A.units+1<cLine)(I:Inv X pins σ H s)(g:DGet H a y o)(n:RelV y u)(h:∀m,Inv X pins σ H m->Q (.bool (!o.isSome)) m):
  wpAny (model X.prog X.w) A (compareOp .NotIn u (.ref a)) Q E s:=by
 rcases g with ⟨f,k,e,d,l⟩|⟨f,k,b,e,d,t,l⟩
 ·subst d;obtain⟨z,j,x,c,i⟩:=lZ I.hok e;refine wpAny_notIn_of (jA n) j i.mapOf ?_;rw[<-(c.val k).eo,<-l];exact h _ (I.tok _)
 ·subst d;cases (show u=Value.ref b from n);obtain⟨z,j,B,c,i⟩:=l4 I.hok e;refine wpAny_notIn_heap (tupleKind_room_in1 p) (iI I.hok t) j i ?_;have q:=(c.val k).eo;rw[abZ]at q;rw[<-q,<-l];exact h _ (I.tok _)
def km{t':Nat}(I:Inv X pins σ H s)(f:CY (H a))(d:Heap.SameBut a s.heap h')(e:∃q,h'.get? a=some q)(c:ObjOk X.prog X.w (upd H a ob) h' a ob):
  Inv X pins σ (upd H a ob) { s with heap:=h',toks:=t' }:=
 I.write f (.inl rfl) (λb q g z=>(d.2 b g).trans z) e c
def tI(z:kvs.length<=sizeLine)(c:(a==sysModules)=false)(b:KV kvs vs)(dd:h'.DictOf (bj P w) a vs):
  ObjOk P w H' h' a (.dK kvs):=⟨z,c,vs,b,dd⟩
def rK(hu:A.units+1<cLine)(I:Inv X pins σ H s)(g:DPut H a y v H')(F:RelV y u)(C:RelV v r)(h:∀D,Inv X pins σ H' D->Q () D):
  wpAny (model X.prog X.w) A (setItem (.ref a) u r) Q E s:=by
 rcases g with ⟨f,k,e,p,l,n⟩|⟨f,k,b,e,p,M,l,n⟩
 ·subst p n;obtain⟨z,B,O,d,x⟩:=zh I.hok e;have P:O.length<=sizeLine:=by rw[<-d.length];exact z
  have t:(putK f k v).length<=sizeLine:=by have:=dU f k v;omega
  refine wpAny_setItem_pairs (jA F) x λJ i m=>h _ ?_;have he:∃q,J.get? a=some q:=let ⟨q,_,_,j,_⟩:=i;⟨q,j⟩
  exact km I (by rw[e];exact True.intro) m he (tI t B (d.put k C) i)
 ·subst p n;cases (show u=Value.ref b from F);obtain⟨z,B,W,d,x⟩:=Dv I.hok e;have P:W.length<=sizeLine:=by rw[<-Paired.length d];exact z
  have t:(putK f k v).length<=sizeLine:=by have:=dU f k v;omega
  refine wpAny_setItem_heap (tupleKind_room_in1 hu) (iI I.hok M) x λJ i m=>h _ ?_;obtain⟨q,Z,S,j,T,N,Y,_,U⟩:=i;refine km I (by rw[e];exact True.intro) m ⟨q,j⟩ ⟨t,B,_,(d.put k M C).keeps λc ys L=>?_,q,Z,S,j,T,N,Y,U⟩;rw[upd_ne (CW L e (λz=>nomatch z))];exact L
end
def NoSl(i:Expr):Prop:=∀b a,subscripted i false b a=operate [b,a] (getItem b a)
def subD_of{T l:String}
  (m:typeLookup (.type T) "__getitem__"=pure (some (.builtin l))) (k:NoSl slice)
  (h:wpAny (model prog w) A (eval value env) (λo c=>wpAny (model prog w) A (eval slice env) (λi a=>a.TypeIs o T/\wpAny (model prog w) A (getItem o i) Q E a) E c) E s):
  wpAny (model prog w) A (eval (.Subscript value slice pos) env) Q E s:=by
 refine Subscript_ (wpAny_mono h (λo c g=>wpAny_mono g (λi a b=>?_) λ_ _ x=>x) λ_ _ x=>x);obtain⟨j,b⟩:=b;unfold subscriptTail;refine wpAny_bind ?_;rw[getitemInPython_of_ne j.not_modules];refine wpAny_bind (wpAny_specialOf j m ?_);have e:wpAny (model prog w) A (subscripted slice false o i) (λr d=>wpAny (model prog w) A (letTemporaryGo value o r >>= λ_=>pure r) Q E d) E a:=by rw[k o i];exact wpAny_operating (wpAny_mono b (λr d f=>wpAny_bind (wpAny_letTemporaryGo (wpAny_pure f))) λ_ _ x=>x)
 first
  |exact wpAny_pure (wpAny_bind e)
  |exact wpAny_bind (wpAny_pure (wpAny_bind e))
  |exact wpAny_bind e
def l5(I:Inv X pins σ H s)(g:DGet H a y o):s.TypeIs (.ref a) "dict":=by
 rcases g with ⟨c,k,e,_,_⟩|⟨c,k,b,e,_,_,_⟩
 ·obtain⟨_,_,h,_,d⟩:=lZ I.hok e;exact d.typeIs
 ·obtain⟨_,_,f,_,d⟩:=l4 I.hok e;exact d.typeIs
def Dw(e f:TE):TE:=λc H Q=>e c H λx d=>f c d λy b=>∃a v,x=.ref a/\DGet b a y (some v)/\Q v b
def Dx(f e:TE):TE:=λc H Q=>f c H λy d=>e c d λx b=>∃a o,x=.ref a/\DGet b a y o/\Q (.bl o.isSome) b
def oR(f e:TE):TE:=λc H Q=>f c H λy d=>e c d λx b=>∃a o,x=.ref a/\DGet b a y o/\Q (.bl (!o.isSome)) b
def Dy(g h e:TE):TS:=λD b H=>e b H λv f=>g b f λx i=>h b i λy d=>∃a c,x=.ref a/\DPut d a y v c/\D.nx b c
section
variable{X:Cx}{o i e value:Expr}{pos pos' tpos:Pos}{td ty tv:TE}
def w9(z:X.A.units+1<cLine)(J:PE X o td)(B:PE X i ty)(l:NoSl i):PE X (.Subscript o i pos) (Dw td ty):=by intro b s f H Q I h;refine subD_of PySem.F.slot_dict_getitem.lookup l (thn (J b s f H _ I h) λu w ⟨x,r,j,k,D⟩=>thn (B b w f r _ j D) λN L C=>?_);obtain⟨y,p,d,t,a,v,n,g,m⟩:=C;subst n;obtain rfl:u=Value.ref a:=k;exact⟨l5 d g,rJ z d g t λO M q c=>⟨v,p,q,c,m⟩⟩
def tJ(v:X.A.units+1<cLine)(w:PE X i ty)(C:PE X o td):PC X .In i o (Dx ty td):=by
 intro b s c H Q I h;refine thn (w b s c H _ I h) λJ t ⟨y,q,d,r,B⟩=>thn (C b t c q _ d B) λu D z=>?_;obtain⟨x,m,n,f,a,j,l,g,k⟩:=z;subst l;obtain rfl:u=Value.ref a:=f;exact Gw v n g r λF p=>⟨.bl j.isSome,m,p,rfl,k⟩
def jC(v:X.A.units+1<cLine)(w:PE X i ty)(C:PE X o td):PC X .NotIn i o (oR ty td):=by
 intro b s c H Q I h;refine thn (w b s c H _ I h) λJ t ⟨y,q,d,r,B⟩=>thn (C b t c q _ d B) λu D z=>?_;obtain⟨x,m,n,f,a,j,l,g,k⟩:=z;subst l;obtain rfl:u=Value.ref a:=f;exact w8 v n g r λF p=>⟨.bl (!j.isSome),m,p,rfl,k⟩
def oS(L:X.A.units+1<cLine)(Q:PE X o td)(M:PE X i ty)(P:PE X value tv)(k:swapsWith value (some (.Subscript o i pos')) pos.line X.env=pure false):
  PS X (.Assign [.Subscript o i pos'] value pos) (Dy td ty tv):=by
 intro b s c H D I h;refine wpAny_Assign_Subscript (thn (P b s c H _ I h) λr J ⟨v,C,d,t,O⟩=>thn (Q b J c C _ d O) λu f ⟨x,p,q,j,l⟩=>thn (M b f c p _ q l) λT S N=>?_) k;obtain⟨y,U,z,F,a,n,m,g,B⟩:=N;subst m;obtain rfl:u=Value.ref a:=j;exact rK L z g F t λW w=>⟨c,n,w,B⟩
end
def l6(h:Heap)(a:sysModules<h.objs.size):ObjOk P w H (h.push { cls:=.type "dict",data:=.dict #[] }) h.objs.size (.dK []):=
 ⟨aaH _,beq_eq_false_iff_ne.mpr (aaG (aao a)),[],.nil,Heap.DictOf.new h⟩
def tDNewK:TE:=λ_ H Q=>∀p,H p=none->Q (.ref p) (upd H p (.dK []))
section
variable{X:Cx}{pos:Pos}
def tK:PE X (.Dict [] [] pos) tDNewK:=λa s b H Q I h=>
 wpAny_Dict_empty ⟨.ref s.heap.objs.size,_,I.laid (λ_ _ q=>Heap.get?_push_of_some _ q) (aag _) (l6 s.heap I.big),rfl,h _ (I.hok.fresh (aag _))⟩
end
end
end L2
namespace L2
open PySem PySem.Spec PyProof.Rows
section
def Gx(K:Waa)(l:Addr):It:=
 ⟨λi H=>∃a x,SqL K H l a/\a[i]?=some x,
  λi H v b=>∃T x,(∀a,SqL K H l a->a[i]?=some x)/\H T=none/\v=.ref T/\b=upd H T (.tup [.int i,x]),
  λi H=>∃a,SqL K H l a/\a.length<=i⟩
def rL{K:Waa}{x1}(l e it:Addr)(F:e≠it):
  Turn P w K (.Tuple es x1 pos) (Gx K l) [e,it] e (λi h=>(∃g,IsEnum h e it (i:Int) g)/\h.IsListIter it l i) where
 mem:=by simp
 obj:=λi h ⟨⟨g,y⟩,A⟩ c a=>by
  simp only[aab,aaw,or_false]at a;rcases a with rfl|rfl
  ·exact⟨_,y,λv z=>by cases z⟩
  ·obtain⟨o,e,c,d⟩:=A;exact⟨o,e,λv z=>by rw[d]at z;cases z⟩
 keep:=λi h T ⟨⟨g,y⟩,A⟩ k=>⟨⟨g,k e (by simp) _ y⟩,A.at λo e=>k it (by simp) o e⟩
 item:=by
  intro X hP hw Q a i t s σ H E I B ⟨⟨g,y⟩,A⟩ hg;subst hP hw Q;obtain⟨xs,x,N,S⟩:=hg;obtain⟨Z,W,p,hz⟩:=I.list N;obtain⟨u,hu,ru⟩:=W.get S;have le:e<s.heap.objs.size:=Heap.lt_size y;have li:it<s.heap.objs.size:=by obtain⟨o,e',_⟩:=id A;exact Heap.lt_size e'
  refine wpAny_pyNext_enum_item y A p.isList (by simpa using hu) F λT Y M hT a0 hk=>?_;refine⟨.ref s.heap.objs.size,rfl,?_⟩;refine wpAny_letOwnedTupleGo_enum Y λj D f=>?_;have f:Heap.SameBut e T j:=f;have L:∀c o,c ∉ ([e,it]:List Addr)->s.heap.get? c=some o->j.get? c=some o:=λc o a q=>by simp only[aab,aaw,or_false,not_or]at a;exact f.extBut _ _ a.1 (hk c o a.1 a.2 q)
  have C:H s.heap.objs.size=none:=I.hok.fresh (aag _);have I1:Inv X t σ H { s with heap:=j,toks:=s.toks+1 }:=I.il L B;have J:IsPair j s.heap.objs.size (.int i s.toks) u:=f.extBut _ _ (aa4 le) hT;have I2:Inv X t σ (upd H s.heap.objs.size (.tup [.int i,x])) { s with heap:=j,toks:=s.toks+1 }:=by
   refine I.step (λb O=>?_) (λb o _ _ a e _=>L b o a e) (λb o _ _ a e _=>⟨o.slots,L b o a e⟩) (λb o a e n=>?_)
    (λb o a e=>⟨o,L b o a e⟩) (λb ys e=>?_) (λb o u e=>?_) (λb ps e=>⟨#[],?_⟩) (λm hm=>?_) (λb o e=>?_) I.bare
   ·obtain⟨f0,f1,f2,f3,f4,f5⟩:=B b O;exact⟨f3,f1,f4,f5⟩
   ·rw[upd_ne (aao (Heap.lt_size e))];exact n
   ·rw[upd_ne (ao e C)];exact e
   ·rw[upd_ne (ao e C)];exact e
   ·rw[upd_ne (ao e C),e];simp
   ·obtain⟨o,U,ep,ho,r⟩:=hm;exact⟨o,U,ep,L _ o (λz=>(B _ z).2.1 rfl) ho,r⟩
   ·by_cases O:b=s.heap.objs.size
    ·subst O;rw[au]at e;cases e;exact⟨(by show 2<=sizeLine;decide),[.int i s.toks,u],.cons ⟨_,rfl⟩ (.cons ru .nil),⟨_,J,rfl,_,rfl⟩⟩
    ·rw[upd_ne O]at e;refine(I1.hok b o e).kl (λc v a q=>q) (λc q=>by rw[upd_ne (ao q C)];exact q) λc ys q=>by rw[upd_ne (ao q C)];exact q
  refine⟨.ref s.heap.objs.size,_,I2,rfl,⟨_,x,λys hy=>by rw[I.rx hy N];exact S,C,rfl,rfl⟩,⟨⟨u,by simpa using D⟩,M.at λo q=>f.extBut _ _ (aaG F) q⟩,λc a=>?_⟩;simp only[aab,aaw,or_false]at a;rcases a with rfl|rfl
  ·rw[upd_ne (aao le)];exact(B _ (by simp)).1
  ·rw[upd_ne (aao li)];exact(B _ (by simp)).1
 done:=by
  intro X hP hw Q a i t s σ H E I B ⟨⟨g,y⟩,A⟩ hg;subst hP hw Q;obtain⟨xs,N,S⟩:=hg;obtain⟨Z,W,p,hz⟩:=I.list N;have hl:=W.length;refine wpAny_pyNext_enum_end (I.ok.hd a) y A p.isList (by simp;omega) λT eb=>⟨rfl,I.il (λc o a q=>?_) B⟩
  simp only[aab,aaw,or_false,not_or]at a;exact eb c o a.2 q
 self:=λ_ _ _ _ _ ⟨⟨g,y⟩,_⟩ h=>wpAny_pyIter_enum y h
def rM:bootBuiltins "enumerate"=some (.type "enumerate"):=by decide +kernel
section
variable{X:Cx}
def Dz(K:Waa)(c:TA):TI:=λe H R=>c e H λd a=>∃l b,d=[.ref l]/\SqL K a l b/\R (Gx K l) a
def xc{es:List Expr}{A}{f:Pos}{a:Expr}{p pos:Pos} (x:Gl X "enumerate") (D:X.mg "enumerate"=none) (y:PA X [a] ta) (t:starEach [a] X.env=[(false,eval a X.env)]:=by rfl):
  PI X (.Tuple es A f) (.Call (.Name "enumerate" p) [a] [] pos) (Dz X.K ta):=by
 intro c s o H R I h;refine Call_ (f9 I x D rM (abw (thn (y pos c s o H _ I h) λQ d F=>?_) t rfl));obtain⟨O,m,i,M,L⟩:=F;obtain⟨l,T,e,J,q⟩:=L;subst e;cases M with
 |cons r B=>
  cases B;cases r;obtain⟨w,S,N,P⟩:=i.list J;refine call_enumerate_list N.isList λC n j v u=>?_;refine wpAny_pyIter_enum n ?_;have z:Inv X c o m { d with heap:=C }:=i.kept u;refine⟨d.heap.objs.size+1,[d.heap.objs.size+1,d.heap.objs.size],_,_,m,rfl,z,rL l _ _ (by show (_:Nat)≠_;omega),⟨⟨_,n⟩,j⟩,λb k=>?_,q⟩;have g:d.heap.objs.size<=b:=by
   simp only[aab,aaw,or_false]at k;rcases k with rfl|rfl
   ·show d.heap.objs.size<=d.heap.objs.size+1;omega
   ·exact aag _
  exact i.r3 g (i.hok.fresh g)
end
end
section
section
variable{X:Cx}{o i e:Expr}{pos:Pos}{ti:TE}{c:Addr}{kvs:List (Str×Str)}
set_option exponentiation.threshold 2000 in
def Gy(K:Waa)(n:Nat)(t:TGs):TG:=λv d H Q=>∃a b,v=.ref a/\SqL K H a b/\b.length=n/\t b d H Q
def AN{k:Nat}(y:X.calm=true)(h:CN X es t)
  (B:(assignEach es X.env).length=n:=by rfl) (g:(assignEach es X.env).findIdx? (·.1)=none:=by rfl):PG X (.Tuple es k pos) (Gy X.K n t):=by
 intro d s m H v u Q I r j;obtain⟨a,C,x,w,D,j⟩:=j;subst x;cases r;obtain⟨f,l,⟨N,M,L,A,_,q⟩,O⟩:=I.list w;have z:s.heap.IsList a f.toArray:=⟨N,L,A,M,q⟩
 rw[assign_Tuple];refine wpAny_bind (wpAny_standAt ?_);unfold unpack;rw[show (assignEach es X.env).length=f.toArray.size by simp[B,<-D,l.length],g];refine wpAny_bind (wpAny_holding (PySem.W.kun_itemsOf (I.ok.hd y) z λJ F=>?_));have p:Inv X d m H { s with heap:=J }:=I.kept λb o e=>F b o (aao (Heap.lt_size e)) e;exact h d _ m H C _ Q p (by simpa using l) j
end
end
section
def nL(I:Nat->Shared->Prop)
  (l:∀n s,I n s->wpAny (model prog w) A (pyNext it) (λr f=>match r with
   |none=>R (.ok .next) f
   |some v=>wpAny (model prog w) A (letOwnedTupleGo target it v) (λ_ a=>wpAny (model prog w) A (assign target env v) (λ_ a=>
     wpAny (model prog w) A (forIn ifs true λc r=>if r=true then do let u <-isTrue c env (eval c env);pure (ForInStep.yield u) else pure (ForInStep.yield r)) (λu e=>
      if u=true then wpAny (model prog w) A (eval kx env) (λy i=>wpAny (model prog w) A (eval vx env) (λz j=>
       wpAny (model prog w) A (dictSet D y z) (λ_ k=>∃m,m<n/\I m k) (λ_ _=>False) j) (λ_ _=>False) i) (λ_ _=>False) e
      else ∃m,m<n/\I m e) (λ_ _=>False) a) (λ_ _=>False) a) (λ_ _=>False) f) (λ_ _=>False) s)
  (n:Nat) (h:I n s):
  codeAny (model prog w) A (.compLoop (.DictComp kx vx [⟨target,iter,ifs,0⟩] scope pos) 0 it (.ref D) env) R s:=by
 refine codeAny_loop rfl I (λn s B=>?_) n h;show wpAny _ A ((compTurn (.DictComp kx vx [⟨target,iter,ifs,0⟩] scope pos) 0 it (.ref D) env).onRaise (λx=>do noteFrame x env;theTreesLotGoes x)) _ _ s;refine wpAny_noted ?_;rw[compTurn_dict];refine wpAny_bind (wpAny_standAt (wpAny_bind (wpAny_mono (l n s B) (λr f b=>?_) λ_ _ d=>d.elim)));cases r with
 |none=>exact wpAny_pure b
 |some v=>
  refine wpAny_bind (wpAny_mono b (λ_ a b=>?_) λ_ _ d=>d.elim);refine wpAny_bind (wpAny_mono b (λ_ a t=>wpAny_bind (wpAny_mono t (λu e g=>?_) λ_ _ d=>d.elim)) λ_ _ d=>d.elim);cases u with
  |false=>exact wpAny_pure ⟨rfl,g⟩
  |true=>exact wpAny_bind (wpAny_bind (wpAny_mono g (λy i o=>wpAny_bind (wpAny_holding (wpAny_mono o (λz j p=>wpAny_bind (wpAny_standAt (wpAny_holding (wpAny_mono p (λ_ k q=>wpAny_pure ⟨rfl,q⟩) λ_ _ d=>d.elim)))) λ_ _ d=>d.elim))) λ_ _ d=>d.elim))
section
variable{X:Cx}{tg kx vx iter:Expr}{ifs:List Expr}{scope:Scope}{pos:Pos}{N:List Str}{nt:Nat}{fr:List Nat}
def rN(I:Inv X pins σ H s)(F:∀b∈fp,FpOk X pins H b)
  (t:H D=none) (k:s.heap.objs.size<=D) (r:D<s3.heap.objs.size) (hk:∀b o,s.heap.get? b=some o->s3.heap.get? b=some o) (p:s3.os=s.os)
  (J:Inv (a9 X N scope cl s3 (upd H D (.dK [])) fp pins) pins' σ' H1 s5) (l:Heap.SameBut s3.heap.objs.size s5.heap h'):
  Inv X pins σ H1 { s5 with heap:=h' }:=by
 have m:s.heap.objs.size<=s3.heap.objs.size:=aaQ (abX k r);have f:∀b,b<s.heap.objs.size->b≠D/\b≠s3.heap.objs.size:=λb d=>⟨aao (aat d k),aao (aat d m)⟩
 have i:∀b,b≠D->(upd H D (.dK [])) b=H b:=λb d=>upd_ne d;refine I.call' (ch:=fp) (J.os.trans p) ⟨λb o e n d g=>?_,λb o e n d g=>?_,λb o e n g=>?_,λb o e g=>?_,λb B e=>?_,λb o u e=>?_,λb A e=>?_⟩ ?_ J.bare λb d=>?_
 ·obtain⟨h,j⟩:=f b (Heap.lt_size e);exact(l.2 b j).trans (J.base.keep b o (hk b o e) ((i b h).trans n) d g)
 ·obtain⟨h,j⟩:=f b (Heap.lt_size e);obtain⟨O,q⟩:=J.base.slot b o (hk b o e) ((i b h).trans n) d g;exact⟨O,(l.2 b j).trans q⟩
 ·obtain⟨h,j⟩:=f b (Heap.lt_size e);exact J.base.free b o (hk b o e) ((i b h).trans n) g
 ·obtain⟨h,j⟩:=f b (Heap.lt_size e);obtain⟨w,q⟩:=J.base.there b o (hk b o e) g;exact⟨w,(l.2 b j).trans q⟩
 ·exact J.base.tups b B ((i b (ao e t)).trans e)
 ·exact J.base.frzs b o u ((i b (ao e t)).trans e)
 ·exact J.base.tbls b A ((i b (ao e t)).trans e)
 ·intro b u e;refine(J.hok b u e).kl (λc v x q=>(l.2 c ?_).trans q) (λ_ q=>q) λ_ _ q=>q;have a:H1 s3.heap.objs.size=none:=J.free;rintro rfl;rcases x with z|z
  ·rw[z]at a;rw[a]at e;cases e
  ·rw[a]at z;cases z
 ·obtain⟨Q,M,P,L,C,y⟩:=F b d;exact⟨L,M,C,y⟩
def zi(H:Hp)(a:Addr)(y v:V)(c:Hp):Prop:=∃b k,H a=some (.dK b)/\y=kV k/\b.length<sizeLine/\c=upd H a (.dK (putK b k v))
def AO(e c:TE):TC:=λD b H Q=>e b H λk d=>c b d λv f=>∃a,zi f D k v a/\Q a
def tL(o:TI)(nt:Nat)(fr:List Nat)(g:CC->TG)(l:CC->TC):TE:=λj H Q=>o j H λJ h=>∀(c:CC) D,h D=none->∃W:Nat->Nat->St->Hp->Prop,(∃m,W 0 m (bC nt fr j) (upd h D (.dK []))) /\
 ∀i m b d,W i m b d->(J.stop i d/\Q (.ref D) d)\/(J.go i d/\∀x e,J.yld i d x e->g c x b e λa n=>l c D a n λk=>∃f,f<m/\W (i+1) f a k)
def tM(Y:Cx)(D:Addr)(ifs:List Expr)(kx vx:Expr)(l:TC):Prop:=
 ∀(a:List (Addr×Obj)) (s:Shared) (h:St) (H:Hp) (Q:Hp->Prop),Inv Y a h H s->l D h H Q ->
  wpAny (model Y.prog Y.w) Y.A (forIn ifs true λc r=>if r=true then do let i <-isTrue c Y.env (eval c Y.env);pure (ForInStep.yield i) else pure (ForInStep.yield r)) (λi b=>
   if i=true then wpAny (model Y.prog Y.w) Y.A (eval kx Y.env) (λj d=>wpAny (model Y.prog Y.w) Y.A (eval vx Y.env) (λk e=>
    wpAny (model Y.prog Y.w) Y.A (dictSet D j k) (λ_ f=>∃g,Inv Y a h g f/\Q g) Y.xe e) Y.xe d) Y.xe b
   else ∃g,Inv Y a h g b/\Q g) Y.xe s
def rO(L:A.units+1<cLine)(I:Inv X pins σ H s)(g:zi H a y v H')(t:RelV y u)(n:RelV v r)(h:∀f,Inv X pins σ H' f->Q () f):
  wpAny (model X.prog X.w) A (dictSet a u r) Q E s:=by
 obtain⟨c,k,e,p,l,o⟩:=g;subst p o;obtain⟨z,F,m,b,D⟩:=zh I.hok e;have J:m.length<=sizeLine:=by rw[<-b.length];exact z
 have x:(putK c k v).length<=sizeLine:=by have:=dU c k v;omega
 refine wpAny_dictSet_pairs (jA t) D λC d i=>h _ ?_;have B:∃q,C.get? a=some q:=let ⟨q,_,_,j,_⟩:=d;⟨q,j⟩
 exact km I (by rw[e];exact True.intro) i B (tI x F (b.put k n) d)
def AQ(o:Y.A.units+1<cLine)(hk:PE Y kx tk)(x:PE Y vx tv)(I:Inv Y pins σ H s)(h:AO tk tv D σ H Q):
  wpAny (model Y.prog Y.w) Y.A (eval kx Y.env) (λf a=>wpAny (model Y.prog Y.w) Y.A (eval vx Y.env) (λj b=>
    wpAny (model Y.prog Y.w) Y.A (dictSet D f j) (λ_ c=>∃d,Inv Y pins σ d c/\Q d) Y.xe b) Y.xe a) Y.xe s:=by
 refine thn (hk pins s σ H _ I h) λu n ⟨y,m,e,z,p⟩=>thn (x pins n σ m _ e p) λr B ⟨v,F,i,t,l,g,q⟩=>?_;exact rO o i g z t λC k=>⟨l,k,q⟩
def nM(c:Y.A.units+1<cLine)(hk:PE Y kx tk)(b:PE Y vx tv):tM Y D [] kx vx (AO tk tv):=by intro a s d H Q I h;refine wpAny_tests_nil ?_;rw[if_pos rfl];exact AQ c hk b I h
def nN{a4:Option (Value->Sem Unit)}{Q0:Value->Shared->Prop}(hc:X.calm=true)(S:CompScope N nt fr X.N scope X.env.scope)(hi:PI X tg iter wi)
  (hg:∀c:CC,PG (dn X N scope c) tg (g c)) (ha:∀(c:CC) D,tM (dn X N scope c) D ifs kx vx (tc c))
  (I:Inv X pins σ H s) (h:tL wi nt fr g tc σ H Q) (c4:∀x∈scope.names,x.2=.free->X.env.kindOf x.1=some .cell)
  (fin:∀(D C:Addr) (s5:Shared) (H1:Hp),FpOk X pins H1 C->s5.heap.get? C≠none->C≠X.env.locals->(∃m,s5.heap.Ns C m)->(∀h',Heap.SameBut C s5.heap h'->Inv X pins σ H1 { s5 with heap:=h' })->Q (.ref D) H1 ->
   compPost (model X.prog X.w) X.A X.xe a4 Q0 (.ref D) C (.ok .next) s5)
  (hs:∀x,foldedSetIterable iter X.env x=pure x:=by intro _;rfl):
  wpAny (model X.prog X.w) X.A (comprehension (.DictComp kx vx [⟨tg,iter,ifs,0⟩] scope pos) scope X.env (firstIterPos [⟨tg,iter,ifs,0⟩] pos) newDict false (eval iter X.env) a4) Q0 X.xe s:=by
 have Z:∀x∈scope.names,x.2=.free->∃c,X.env.cells.lookup x.1=some c:=λx hx hf=>I.ok.has x.1 (.inl (c4 x hx hf));obtain⟨F,c6,h1,h2⟩:=iA Z;refine wpAny_comprehension_free rfl hs c6 S.kind S.names (thn (hi pins s σ H _ I h) λxv s1 hx=>thn hx λd3 a c8=>?_);obtain⟨it,j,tn,J,v,rfl,I2,T,b8,f2,hW⟩:=c8;have a2:∀b∈j,b<a.heap.objs.size:=λb f=>let ⟨o,e,_⟩:=T.obj 0 _ b8 b f;Heap.lt_size e
 refine wpAny_newObj_type (wpAny_newFunctionEnv S.nocell (by intro y hy;simp at hy) (λB l t=>?_) S.kind) (by first|trivial|exact aaH _|decide);have hD:v a.heap.objs.size=none:=I2.hok.fresh (aag _);have I3:Inv X pins σ (upd v a.heap.objs.size (.dK [])) { a with heap:=a.heap.push { cls:=.type "dict",data:=.dict #[] } }:=I2.laid (λ_ _ q=>Heap.get?_push_of_some _ q) (aag _) (l6 a.heap I2.big);generalize hs3:({ a with heap:=a.heap.push { cls:=.type "dict",data:=.dict #[] } }:Shared)=s3 at l t I3 ⊢;obtain⟨W,⟨m0,w0⟩,a6⟩:=hW ⟨F,s3,upd v a.heap.objs.size (.dK []),j,pins⟩ _ hD;have a7:∀b o,a.heap.get? b=some o->s3.heap.get? b=some o:=λb o e=>by rw[<-hs3];exact Heap.get?_push_of_some _ e
 have z3:s3.heap.objs.size=a.heap.objs.size+1:=by rw[<-hs3];exact Heap.size_push ..
 have c7:s3.os=a.os:=by rw[<-hs3]
 have f3:∀b∈j,FpOk X pins (upd v a.heap.objs.size (.dK [])) b:=λb f=>⟨by rw[upd_ne (aao (a2 b f))];exact(f2 b f).1,(f2 b f).2⟩
 have b6:∀b o,s3.heap.get? b=some o->B.get? b=some o:=λb o e=>t.extBut b o (aao (Heap.lt_size e)) (Heap.get?_push_of_some _ e);generalize hs4:({ s3 with heap:=B,toks:=s3.toks+([]:List (Str×Value)).length }:Shared)=s4;have a3:s4.heap=B:=by rw[<-hs4]
 have I4:Inv (a9 X N scope F s3 (upd v a.heap.objs.size (.dK [])) j pins) [] (bC nt fr σ) (upd v a.heap.objs.size (.dK [])) s4:=
  iB S I3 f3 (λb f=>by rw[z3];exact abl (a2 b f)) h1 h2 (λb o e=>by rw[a3];exact b6 b o e) ⟨_,by rw[a3];exact l⟩ (by rw[<-hs4]) (by rw[<-hs4])
 have b7:tn 0 s4.heap:=T.keep 0 _ _ b8 λb f o e=>by rw[a3];exact b6 b o (a7 b o e)
 have a0:codeAny (model X.prog X.w) X.A (.compLoop (.DictComp kx vx [⟨tg,iter,ifs,0⟩] scope pos) 0 (.ref it) (.ref a.heap.objs.size) (compEnvC scope F s3.heap.objs.size X.env))
   (compPost (model X.prog X.w) X.A X.xe a4 Q0 (.ref a.heap.objs.size) s3.heap.objs.size) s4:=by
  have L:∀{k:Hp},(∀b∈j,k b=none)->∀b∈j,FpOk (a9 X N scope F s3 (upd v a.heap.objs.size (.dK [])) j pins) [] k b:=λ{k} hn b f=>
   ⟨hn b f,aao (show b<s3.heap.objs.size by rw[z3];exact abl (a2 b f)),λz=>I4.ok.exfs b f z,.inl f,λx c e=>(f2 b f).2.2.2.2.1 x c (h1 x c e),λp hp=>(f2 b f).2.2.2.2.2 p (by
    rcases aak.mp hp with z|z
    ·exact z
    ·exact absurd z (by simp))⟩
  refine nL (λn s'=>∃i M k,Inv (a9 X N scope F s3 (upd v a.heap.objs.size (.dK [])) j pins) [] M k s'/\tn i s'.heap/\(∀b∈j,k b=none)/\W i n M k) ?_ m0
   ⟨0,_,_,I4,b7,λb f=>(f3 b f).1,w0⟩
  rintro n s5 ⟨i,U,H5,I5,a8,c0,w5⟩;rcases a6 i n U H5 w5 with ⟨a5,qn⟩|⟨go,b5⟩
  ·refine thn (T.done (a9 X N scope F s3 (upd v a.heap.objs.size (.dK [])) j pins) rfl rfl rfl hc i [] s5 U H5 (λ_ _=>False) I5 (L c0) a8 a5) λr s6 ⟨hr,I6⟩=>?_;subst hr;obtain⟨m,hm,_⟩:=id I6.loc;refine fin _ _ s6 H5 (I2.r3 (by rw[z3];exact aa6 _) I6.free) ?_ ?_ ⟨m,hm⟩ (λh' d0=>rN I2 f2 hD (aag _) (by rw[z3];exact aa5 _) a7 c7 I6 d0) qn
   ·obtain⟨o,_,_,ho,_⟩:=hm;intro z;have b0:s6.heap.get? s3.heap.objs.size=some o:=ho;rw[z]at b0;cases b0
   ·exact aa4 (abA I2.lt (by rw[z3];exact aa5 _))
  ·refine thn (T.item (a9 X N scope F s3 (upd v a.heap.objs.size (.dK [])) j pins) rfl rfl rfl hc i [] s5 U H5 (λ_ _=>False) I5 (L c0) a8 go) λr s6 ⟨u,hr,h6⟩=>?_;subst hr;refine thn h6 λ_ s7 ⟨x,H7,I7,r7,y7,a1,c5⟩=>?_;have c3:=I7.pinned (L c5) (T.obj _ _ a1);refine thn (hg ⟨F,s3,upd v a.heap.objs.size (.dK []),j,pins⟩ _ s7 U H7 x u _ c3 r7 (b5 x H7 y7)) λ_ s8 ⟨Y,H8,I8,q8⟩=>?_;refine thn (ha ⟨F,s3,upd v a.heap.objs.size (.dK []),j,pins⟩ _ _ s8 Y H8 _ I8 q8) λok s9 h9=>?_;have O:∀{P:Shared},(∃k,Inv (a9 X N scope F s3 (upd v a.heap.objs.size (.dK [])) j pins) ([]++pinsAt j s7.heap) Y k P/\∃m',m'<n/\W (i+1) m' Y k) ->
     ∃m,m<n/\∃i M k,Inv (a9 X N scope F s3 (upd v a.heap.objs.size (.dK [])) j pins) [] M k P/\tn i P.heap/\(∀b∈j,k b=none)/\W i m M k:=λ{P} ⟨k,I',m',hm,w'⟩=>by
    refine⟨m',hm,i+1,Y,k,I'.ez,T.keep _ _ _ a1 λb f o e=>(I'.pin (b,o) (aac _ (aac _ (bN f e)))).1,λb f=>?_,w'⟩;obtain⟨o,e,d⟩:=T.obj _ _ a1 b f;exact(I'.pin (b,o) (aac _ (aac _ (bN f e)))).2.1
   cases ok with
   |true=>rw[if_pos rfl]at h9 ⊢;exact thn h9 λy d5 c2=>thn c2 λz d2 d1=>thn d1 λ_ d4 c1=>O c1
   |false=>rw[if_neg aaf]at h9 ⊢;exact O h9
 exact codeAny_compStart_dict a0 (T.self X.A 0 s4 _ _ b7 a0)
def tN{k d:Pos}(Z:X.N.Nodup)(U:X.N[i]?=some y)(J:X.env.scope.names.lookup y=some .local)(Q:X.calm=true)(S:CompScope N nt fr X.N scope X.env.scope)(hi:PI X tg iter wi)
  (W:∀c:CC,PG (dn X N scope c) tg (g c)) (Y:∀(c:CC) D,tM (dn X N scope c) D ifs kx vx (tc c))
  (M:∀x,foldedSetIterable iter X.env x=pure x:=by intro _;rfl)
  (u:swapsWith (.DictComp kx vx [⟨tg,iter,ifs,0⟩] scope pos) (some (.Name y k)) d.line X.env=pure true:=by rfl):
  PS X (.Assign [.Name y k] (.DictComp kx vx [⟨tg,iter,ifs,0⟩] scope pos) d) (sM (tL wi nt fr g tc) (lL i)):=by
 intro j s σ H D I h;rw[exec_Assign_Name_used _ _ _ _ u];refine wpAny_bind (wpAny_standAt (wpAny_bind ?_));show wpAny _ X.A (do let _ <-comprehension (.DictComp kx vx [⟨tg,iter,ifs,0⟩] scope pos) scope X.env _ newDict false (eval iter X.env) (some (assign (.Name y k) X.env))) _ _ s;refine wpAny_bind (wpAny_mono (nN Q S hi W Y I h (λx hx hf=>S.cells x hx hf) (λB C L F f hC _ t T q=>?_) M) (λ_ s' O=>wpAny_pure (wpAny_pure O)) λ_ _ e=>e);obtain⟨m,t⟩:=t;have I5:Inv X j σ F L:=T L.heap ⟨rfl,λ_ _=>rfl⟩;show wpAny _ X.A (assign (.Name y k) X.env (.ref B)) _ _ _;refine wpAny_assign_Name (fZ I5 Z U (.inl J) (v:=.ref B) rfl (λs6 I6 r=>?_) (.inr J));obtain⟨a,n,l⟩:=r;have p:C≠a:=by
  rcases l with e|e
  ·rw[e];exact f.2.1
  ·exact λz=>f.2.2.2.2.1 _ _ e z.symm
 exact⟨m,t.sameBut n p,λh' w=>⟨_,F,I6.turned (λb o P e=>(w.2 b P).trans e) f.1 f.2.1 f.2.2.2.1 f.2.2.2.2.1 f.2.2.2.2.2,q⟩⟩
end
end
end L2
set_option genInjectivity false
namespace L2
open PySem PySem.Spec PyProof.Rows
section
structure Kp (S:Addr->Prop)(H H':Hp):Prop where
 k:∀b o,H b=some o->¬ S b->H' b=some o
 n:∀b,H' b=none->H b=none
section
variable{S T S':Addr->Prop}{H H1 H' H2:Hp}{p:Addr}{o:HO}
def Kp.refl(S:Addr->Prop)(H:Hp):Kp S H H:=⟨λ_ _ h _=>h,λ_ h=>h⟩
def Kp.trans(a:Kp S H H1)(b:Kp S H1 H2):Kp S H H2:=⟨λc o h n=>b.k c o (a.k c o h n) n,λc h=>a.n c (b.n c h)⟩
def Kp.weak(a:Kp S H H')(h:∀b,S b->T b\/H b=none):Kp T H H':=⟨λb o e n=>a.k b o e λz=>(h b z).elim n λq=>(by rw[q]at e;cases e),a.n⟩
def Kp.put(a:S p\/H p=none):Kp S H (upd H p o):=by
 refine⟨λb u h n=>?_,λb h=>?_⟩
 ·have c:b≠p:=λe=>by
   subst e;rcases a with a|a
   ·exact n a
   ·rw[a]at h;cases h
  rw[upd_ne c];exact h
 ·by_cases e:b=p
  ·subst e;rw[au]at h;cases h
  ·rw[upd_ne e]at h;exact h
def Kp.keep(a:Kp (λ_=>False) H H'):Keep [] H H':=λb o h _=>a.k b o h (λz=>z)
def Bx(S:Addr->Prop)(F:Hp->Prop)(H:Hp):Prop:=∀H',Kp S H H'->F H'
def Bx.now{F:Hp->Prop}(h:Bx S F H):F H:=h H (Kp.refl _ _)
def Bx.step{F:Hp->Prop}(h:Bx S F H)(k:Kp S H H')(n:∀b,S' b->S b\/H b=none):Bx S' F H':=λH2 c=>
 h H2 ⟨λb o e a=>c.k b o (k.k b o e a) λz=>(n b z).elim a λq=>(by rw[q]at e;cases e),λb e=>k.n b (c.n b e)⟩
end
mutual
inductive Fz (K:Waa)(S:Addr->Prop)(H:Hp):V->PyData->Prop
 |non:Fz K S H .non .none
 |bl (b:Bool):Fz K S H (.bl b) (.bool b)
 |int (i:Int):Fz K S H (.int i) (.int i)
 |str (x:Str):Fz K S H (.str x) (.str x)
 |lst {a xs ds}:Bx S (λH=>SqL K H a xs) H->FzA K S H xs ds->Fz K S H (.ref a) (.list ds)
 |tup {a xs ds}:Bx S (λH=>SqT K H a xs) H->FzA K S H xs ds->Fz K S H (.ref a) (.tuple ds)
inductive FzA (K:Waa)(S:Addr->Prop)(H:Hp):List V->List PyData->Prop
 |nil:FzA K S H [] []
 |cons {x d xs ds}:Fz K S H x d->FzA K S H xs ds->FzA K S H (x::xs) (d::ds)
end
section
variable{K:Waa}{S T S':Addr->Prop}{H H1 H' H2:Hp}
def Fz.ind{P:V->PyData->Prop}{Q:List V->List PyData->Prop}(g:P .non .none)(l:∀b,P (.bl b) (.bool b))(k:∀i,P (.int i) (.int i))(c:∀x,P (.str x) (.str x))
  (e:∀{a xs ds},Bx S (λH=>SqL K H a xs) H->Q xs ds->P (.ref a) (.list ds)) (f:∀{a xs ds},Bx S (λH=>SqT K H a xs) H->Q xs ds->P (.ref a) (.tuple ds)) (nil:Q [] []) (cons:∀{x d xs ds},P x d->Q xs ds->Q (x::xs) (d::ds)):
  (∀{v d},Fz K S H v d->P v d)/\∀{vs ds},FzA K S H vs ds->Q vs ds:=
 ⟨λh=>Fz.rec g l k c (λh _ i=>e h i) (λh _ i=>f h i) nil (λ_ _ i j=>cons i j) h,
  λh=>FzA.rec g l k c (λh _ i=>e h i) (λh _ i=>f h i) nil (λ_ _ i j=>cons i j) h⟩
def Fz.mn(k:Kp S H H')(n:∀b,S' b->S b\/H b=none):(∀{v:V}{d:PyData},Fz K S H v d->Fz K S' H' v d)/\∀{vs:List V}{ds:List PyData},FzA K S H vs ds->FzA K S' H' vs ds:=
 Fz.ind .non .bl .int .str (λh t=>.lst (h.step k n) t) (λh t=>.tup (h.step k n) t) .nil (λr t=>.cons r t)
def Fz.step(k:Kp S H H')(n:∀b,S' b->S b\/H b=none){v:V}{d:PyData}(h:Fz K S H v d):Fz K S' H' v d:=(Fz.mn k n).1 h
def FzA.step(k:Kp S H H')(n:∀b,S' b->S b\/H b=none){vs:List V}{ds:List PyData}(h:FzA K S H vs ds):FzA K S' H' vs ds:=(Fz.mn k n).2 h
def Fz.dt_:(∀{v:V}{d:PyData},Fz K S H v d->Dt K H v d)/\∀{vs:List V}{ds:List PyData},FzA K S H vs ds->DtAll K H vs ds:=
 Fz.ind .non .bl .int .str (λh t=>.lst h.now t) (λh t=>.tup h.now t) .nil (λr t=>.cons r t)
def Fz.dt(h:Fz K S H v d):Dt K H v d:=Fz.dt_.1 h
def Fz.of0(h:Dt K H v d):Fz K (λ_=>False) H v d:=
 Dt.rec .non .bl .int .str (λh _ t=>.lst (λH' k=>k.keep.same.seq h) t) (λh _ t=>.tup (λH' k=>k.keep.same.tupS h) t) .nil (λ_ _ r t=>.cons r t) h
def Fz.sub(h:∀b,S' b->S b)(f:Fz K S H v d):Fz K S' H v d:=f.step (Kp.refl _ _) λb z=>.inl (h b z)
def FzA.sub(h:∀b,S' b->S b)(f:FzA K S H v d):FzA K S' H v d:=f.step (Kp.refl _ _) λb z=>.inl (h b z)
def FzA.length(h:FzA K S H vs ds):vs.length=ds.length:=by
 induction vs generalizing ds with
 |nil=>cases h;rfl
 |cons v vs a=>cases h with|cons _ t=>rw[aaq,aaq,a t]
def FzA.ints:∀(ns:List Int),FzA K S H (ns.map V.int) (ns.map PyData.int)
 |[]=>.nil
 |n::ns=>.cons (.int n) (FzA.ints ns)
def Fz.ro(h:Fz K S H v (.list ds)):∃a xs,v=.ref a/\Bx S (λH=>SqL K H a xs) H/\FzA K S H xs ds:=by
 cases h with|lst h t=>exact⟨_,_,rfl,h,t⟩
def Fz.r8(h:Fz K S H v (.tuple ds)):∃a xs,v=.ref a/\Bx S (λH=>SqT K H a xs) H/\FzA K S H xs ds:=by
 cases h with|tup h t=>exact⟨_,_,rfl,h,t⟩
def AR(h:H a=some (.lst xs))(n:¬ S a):Bx S (λH=>SqL K H a xs) H:=λ_ k=>SqL.of (k.k _ _ h n)
def tP(h:H a=some (.tup xs))(n:¬ S a):Bx S (λH=>SqT K H a xs) H:=λ_ k=>SqT.of (k.k _ _ h n)
end
inductive OD where
 |fz (d:PyData)|lst (xs:List OD)|tup (xs:List OD)|dic (ks:List Key) (xs:List OD)|obj (c:Str) (ns:List Str) (xs:List OD)|pin (l:Bool) (xs:List V) (ds:List PyData)|hole (v:V)
mutual
def OD.dat:OD->Option PyData
 |.fz d=>some d
 |.lst xs=>match OD.dv xs with|some ds=>some (.list ds)|none=>none
 |.tup xs=>match OD.dv xs with|some ds=>some (.tuple ds)|none=>none
 |.dic _ _=>none
 |.obj _ _ _=>none
 |.pin l _ ds=>some (if l then .list ds else .tuple ds)
 |.hole _=>none
def OD.dv:List OD->Option (List PyData)
 |[]=>some []
 |x::xs=>match x.dat with
  |some d=>match OD.dv xs with|some ds=>some (d::ds)|none=>none
  |none=>none
end
def av(K:Waa)(c:Str):Addr:=match PySem.W.nsIn K mainGlobals c with|some (some (.ref C))=>C|_=>0
structure Bs where
 K:Waa
 H0:Hp
 S0:Addr->Prop
 C:Addr->Prop
mutual
inductive Ow (b:Bs)(S:Addr->Prop)(H:Hp):V->OD->List Addr->Prop
 |fz {v d}:Fz b.K S H v d->Ow b S H v (.fz d) []
 |lst {a vs xs A}:H a=some (.lst vs)->Ows b S H vs xs A->Ow b S H (.ref a) (.lst xs) (a::A)
 |tup {a vs xs A}:H a=some (.tup vs)->Ows b S H vs xs A->Ow b S H (.ref a) (.tup xs) A
 |dic {a ws ks vs xs A}:H a=some (.dK ws)->ws.map (·.1)=ks->ws.map (·.2)=vs->Ows b S H vs xs A->Ow b S H (.ref a) (.dic ks xs) (a::A)
 |obj {a dx c fs ns vs xs A}:H a=some (.ins (av b.K c) dx fs)->H dx=some (.own a)->fs.map (·.1)=ns->fs.map (·.2)=vs->Ows b S H vs xs A->Ow b S H (.ref a) (.obj c ns xs) (a::dx::A)
 |pinL {a xs ds}:Bx S (λH=>SqL b.K H a xs) H->FzA b.K S H xs ds->Ow b S H (.ref a) (.pin true xs ds) []
 |pinT {a xs ds}:Bx S (λH=>SqT b.K H a xs) H->FzA b.K S H xs ds->Ow b S H (.ref a) (.pin false xs ds) []
 |hole {v u}:v=u->Ow b S H v (.hole u) []
inductive Ows (b:Bs)(S:Addr->Prop)(H:Hp):List V->List OD->List Addr->Prop
 |nil:Ows b S H [] [] []
 |cons {v x A vs xs B}:Ow b S H v x A->Ows b S H vs xs B->Ows b S H (v::vs) (x::xs) (A++B)
end
abbrev OwL(b:Bs)(S:Addr->Prop)(H:Hp)(L:List (V×OD))(A:List Addr):Prop:=Ows b S H (L.map (·.1)) (L.map (·.2)) A
def MutO:HO->Prop
 |.lst _=>True|.dK _=>True|.ins _ _ _=>True|.own _=>True
 |_=>False
section
variable{b:Bs}{S T S':Addr->Prop}{H H1 H' H2:Hp}
def Ows.len(h:Ows b S H vs xs A):vs.length=xs.length:=by
 induction vs generalizing xs A with
 |nil=>cases h;rfl
 |cons v vs a=>cases h with|cons _ t=>rw[aaq,aaq,a t]
def Ow.ind{P:V->OD->List Addr->Prop}{Q:List V->List OD->List Addr->Prop}(s:∀{v d},Fz b.K S H v d->P v (.fz d) [])(o:∀{a vs xs A},H a=some (.lst vs)->Q vs xs A->P (.ref a) (.lst xs) (a::A))(p:∀{a vs xs A},H a=some (.tup vs)->Q vs xs A->P (.ref a) (.tup xs) A)
  (q:∀{a ws ks vs xs A},H a=some (.dK ws)->ws.map (·.1)=ks->ws.map (·.2)=vs->Q vs xs A->P (.ref a) (.dic ks xs) (a::A)) (n:∀{a dx c fs ns vs xs A},H a=some (.ins (av b.K c) dx fs)->H dx=some (.own a)->fs.map (·.1)=ns->fs.map (·.2)=vs->Q vs xs A->P (.ref a) (.obj c ns xs) (a::dx::A))
  (k:∀{a xs ds},Bx S (λH=>SqL b.K H a xs) H->FzA b.K S H xs ds->P (.ref a) (.pin true xs ds) []) (g:∀{a xs ds},Bx S (λH=>SqT b.K H a xs) H->FzA b.K S H xs ds->P (.ref a) (.pin false xs ds) []) (f:∀{v u},v=u->P v (.hole u) [])
  (nil:Q [] [] []) (cons:∀{v x A vs xs B},P v x A->Q vs xs B->Q (v::vs) (x::xs) (A++B)):(∀{v x A},Ow b S H v x A->P v x A)/\∀{vs xs A},Ows b S H vs xs A->Q vs xs A:=
 ⟨λh=>Ow.rec s (λe _ i=>o e i) (λe _ i=>p e i) (λe m l _ i=>q e m l i) (λe r m l _ i=>n e r m l i) k g f nil (λ_ _ i j=>cons i j) h,
  λh=>Ows.rec s (λe _ i=>o e i) (λe _ i=>p e i) (λe m l _ i=>q e m l i) (λe r m l _ i=>n e r m l i) k g f nil (λ_ _ i j=>cons i j) h⟩
def oT{P:Addr->Prop}(h:P a)(t:∀c∈A,P c):∀c∈a::A,P c:=λc d=>(aab.mp d).elim (λe=>e▸h) (t c)
def Ow.mu_:(∀{v:V}{x:OD}{A:List Addr},Ow b S H v x A->∀a∈A,∃o,H a=some o/\MutO o)/\∀{vs:List V}{xs:List OD}{A:List Addr},Ows b S H vs xs A->∀a∈A,∃o,H a=some o/\MutO o:=
 Ow.ind (λ_ _ h=>absurd h aaw) (λe i=>oT ⟨_,e,trivial⟩ i) (λ_ i=>i) (λe _ _ i=>oT ⟨_,e,trivial⟩ i) (λe c _ _ i=>oT ⟨_,e,trivial⟩ (oT ⟨_,c,trivial⟩ i)) (λ_ _ _ h=>absurd h aaw) (λ_ _ _ h=>absurd h aaw) (λ_ _ h=>absurd h aaw) (λ_ h=>absurd h aaw) (λi j a h=>(aak.mp h).elim (i a) (j a))
def Ow.mu(h:Ow b S H v x A):∀a∈A,∃o,H a=some o/\MutO o:=Ow.mu_.1 h
def Ows.mu(h:Ows b S H vs xs A):∀a∈A,∃o,H a=some o/\MutO o:=Ow.mu_.2 h
def Ows.ne(h:Ows b S H vs xs A):∀a∈A,H a≠none:=λa c e=>by obtain⟨o,q,_⟩:=h.mu a c;rw[q]at e;cases e
def Ows.tl(h:Ows b S H vs xs A):∀a∈A,∀ys,H a≠some (.tup ys):=λa c ys e=>by obtain⟨o,q,m⟩:=h.mu a c;rw[q]at e;cases e;exact m
def Ow.mn(c:b2.K=b.K)(k:Kp S H H')(n:∀b,S' b->S b\/H b=none)(l:∀a xs,H a=some (.tup xs)->¬ S a):(∀{v:V}{x:OD}{A:List Addr},Ow b S H v x A->(∀a∈A,H' a=H a)->Ow b2 S' H' v x A)/\∀{vs:List V}{xs:List OD}{A:List Addr},Ows b S H vs xs A->(∀a∈A,H' a=H a)->Ows b2 S' H' vs xs A:=
 Ow.ind (λf _=>.fz (c▸f.step k n)) (λe i s=>.lst ((s _ aai).trans e) (i λa h=>s a (aah _ h))) (λe i s=>.tup (k.k _ _ e (l _ _ e)) (i s)) (λe g d i s=>.dic ((s _ aai).trans e) g d (i λa h=>s a (aah _ h)))
  (λe m g d i s=>.obj (c▸(s _ aai).trans e) ((s _ (aah _ aai)).trans m) g d (i λa h=>s a (aah _ (aah _ h)))) (λh t _=>.pinL (c▸h.step k n) (c▸t.step k n)) (λh t _=>.pinT (c▸h.step k n) (c▸t.step k n)) (λe _=>.hole e) (λ_=>.nil) (λi j s=>.cons (i λa h=>s a (aae _ h)) (j λa h=>s a (aac _ h)))
def Ow.step(k:Kp S H H')(n:∀b,S' b->S b\/H b=none)(c:∀a xs,H a=some (.tup xs)->¬ S a){v:V}{x:OD}{A:List Addr}(s:∀a∈A,H' a=H a)(h:Ow b S H v x A):Ow b S' H' v x A:=(Ow.mn rfl k n c).1 h s
def Ows.step(k:Kp S H H')(n:∀b,S' b->S b\/H b=none)(c:∀a xs,H a=some (.tup xs)->¬ S a){vs:List V}{xs:List OD}{A:List Addr}(s:∀a∈A,H' a=H a)(h:Ows b S H vs xs A):Ows b S' H' vs xs A:=(Ow.mn rfl k n c).2 h s
def Ow.sub(d:∀a xs,H a=some (.tup xs)->¬ S a)(n:∀c,S' c->S c)(h:Ow b S H v x A):Ow b S' H v x A:=h.step (Kp.refl _ _) (λc z=>.inl (n c z)) d (λ_ _=>rfl)
def Ows.sub(d:∀a xs,H a=some (.tup xs)->¬ S a)(n:∀c,S' c->S c)(h:Ows b S H v x A):Ows b S' H v x A:=h.step (Kp.refl _ _) (λc z=>.inl (n c z)) d (λ_ _=>rfl)
def Ows.subB(d:b2.K=b.K)(e:∀a xs,H a=some (.tup xs)->¬ S a)(n:∀c,S' c->S c)(h:Ows b S H v x A):Ows b2 S' H v x A:=(Ow.mn d (Kp.refl _ _) (λc z=>.inl (n c z)) e).2 h λ_ _=>rfl
def xf(h:(OD.lst xs).dat=some d):∃ds,OD.dv xs=some ds/\d=.list ds:=by
 rw[OD.dat]at h;cases z:OD.dv xs with
 |none=>rw[z]at h;cases h
 |some ds=>rw[z]at h;cases h;exact⟨ds,rfl,rfl⟩
def xg(h:(OD.tup xs).dat=some d):∃ds,OD.dv xs=some ds/\d=.tuple ds:=by
 rw[OD.dat]at h;cases z:OD.dv xs with
 |none=>rw[z]at h;cases h
 |some ds=>rw[z]at h;cases h;exact⟨ds,rfl,rfl⟩
def rP(h:OD.dv (x::xs)=some es):∃d ds,x.dat=some d/\OD.dv xs=some ds/\es=d::ds:=by
 rw[OD.dv]at h;cases z:x.dat with
 |none=>rw[z]at h;cases h
 |some d=>
  cases a:OD.dv xs with
  |none=>rw[z,a]at h;cases h
  |some ds=>rw[z,a]at h;cases h;exact⟨d,ds,rfl,rfl,rfl⟩
def Ow.frz_(k:∀a,S' a->S a)(nt:∀a xs,H a=some (.tup xs)->¬ S a):(∀{v:V}{x:OD}{A:List Addr},Ow b S H v x A->∀d:PyData,(∀a∈A,¬ S' a)->x.dat=some d->Fz b.K S' H v d)/\∀{vs:List V}{xs:List OD}{A:List Addr},Ows b S H vs xs A->∀ds:List PyData,(∀a∈A,¬ S' a)->OD.dv xs=some ds->FzA b.K S' H vs ds:=by
 refine Ow.ind (P:=λv x A=>∀d:PyData,(∀a∈A,¬ S' a)->x.dat=some d->Fz b.K S' H v d) (Q:=λvs xs A=>∀ds:List PyData,(∀a∈A,¬ S' a)->OD.dv xs=some ds->FzA b.K S' H vs ds) ?_ ?_ ?_ (λ_ _ _ _ _ _ q=>?_) (λ_ _ _ _ _ _ _ q=>?_) ?_ ?_ (λ_ _ _ q=>?_) ?_ ?_
 ·intro v d f n _ q;cases q;exact f.sub k
 ·intro a vs xs A e i d g q;obtain⟨ds,z,rfl⟩:=xf q;exact .lst (AR e (g _ aai)) (i ds (λa h=>g a (aah _ h)) z)
 ·intro a vs xs A e i d g q;obtain⟨ds,z,rfl⟩:=xg q;exact .tup (tP e λy=>nt _ _ e (k _ y)) (i ds g z)
 ·cases q
 ·cases q
 ·intro a xs ds h t d _ q;cases q;exact .lst (h.step (Kp.refl _ _) λc z=>.inl (k c z)) (t.sub k)
 ·intro a xs ds h t d _ q;cases q;exact .tup (h.step (Kp.refl _ _) λc z=>.inl (k c z)) (t.sub k)
 ·cases q
 ·intro ds _ q;cases q;exact .nil
 ·intro v x A vs xs B i j o g q;obtain⟨d,ds,m,l,rfl⟩:=rP q;exact .cons (i d (λa h=>g a (aae _ h)) m) (j ds (λa h=>g a (aac _ h)) l)
def Ow.frz(c:∀a,S' a->S a)(nt:∀a xs,H a=some (.tup xs)->¬ S a)(e:∀a∈A,¬ S' a)(h:Ow b S H v x A)(q:x.dat=some d):Fz b.K S' H v d:=(Ow.frz_ c nt).1 h d e q
def Ows.append(h:Ows b S H vs xs A)(h':Ows b S H us ys B):Ows b S H (vs++us) (xs++ys) (A++B):=by
 induction vs generalizing xs A with
 |nil=>cases h;exact h'
 |cons v vs a=>cases h with|cons r t=>rw[aad];exact .cons r (a t)
def Ows.split(e:vs.length=xs.length)(h:Ows b S H (vs++us) (xs++ys) A):∃c a,A=c++a/\Ows b S H vs xs c/\Ows b S H us ys a:=by
 induction vs generalizing xs A with
 |nil=>
  cases xs with
  |nil=>exact⟨[],A,rfl,.nil,h⟩
  |cons _ _=>cases e
 |cons v vs f=>
  cases xs with
  |nil=>cases e
  |cons x xs=>
   cases h with
   |cons r t=>obtain⟨c,a,rfl,g,d⟩:=f (Nat.succ.inj e) t;exact⟨_,a,(aad ..).symm,.cons r g,d⟩
def OwL.h8(h:OwL b S H (L1++L2) A):∃a c,A=a++c/\OwL b S H L1 a/\OwL b S H L2 c:=by unfold OwL at h;rw[aax,aax]at h;exact Ows.split (by simp) h
def OwL.kv(c:OwL b S H L1 A1)(a:OwL b S H L2 A2):OwL b S H (L1++L2) (A1++A2):=by unfold OwL;rw[aax,aax];exact Ows.append c a
def OwL.perm(p:L.Perm L'):∀{A:List Addr},OwL b S H L A->∃e,OwL b S H L' e/\A.Perm e:=by
 induction p with
 |nil=>intro A h;exact⟨A,h,.refl _⟩
 |cons x _ k=>
  intro A h;cases h with
  |cons r t=>obtain⟨B,a,q⟩:=k t;exact⟨_,.cons r a,q.append_left _⟩
 |swap x y l=>
  intro A h;cases h with
  |cons r t=>
   cases t with
   |cons m f=>refine⟨_,.cons m (.cons r f),?_⟩;rw[<-aad,<-aad];exact aaY.append_right _
 |trans _ _ c d=>intro A h;obtain⟨B,j,g⟩:=c h;obtain⟨C,a,i⟩:=d j;exact⟨C,a,g.trans i⟩
def OwL.mem:∀{A:List Addr},OwL b S H L A->∀{x:V×OD},x∈L->∃B,Ow b S H x.1 x.2 B:=by
 induction L with
 |nil=>intro A h x a;cases a
 |cons y L c=>
  intro A h x a;cases h with
  |cons r t=>
   rcases aab.mp a with rfl|a
   ·exact⟨_,r⟩
   ·exact c t a
def Ows.zip(h:Ows b S H vs xs A)(e:xs[k]?=some x):∃v c B d,vs[k]?=some v/\A=c++(B++d)/\Ow b S H v x B /\
  ∀{S':Addr->Prop}{H':Hp}{u:V}{y:OD}{f:List Addr},Ow b S' H' u y f->(∀{v:V}{x:OD}{C:List Addr},(∀a∈C,a∈c\/a∈d)->Ow b S H v x C->Ow b S' H' v x C)->Ows b S' H' (vs.set k u) (xs.set k y) (c++(f++d)):=by
 induction vs generalizing xs A k with
 |nil=>cases h;cases k<;>cases e
 |cons v vs i=>
  cases h with
  |@cons _ x0 A _ xs B r t=>
   cases k with
   |zero=>
    cases e;refine⟨v,[],A,B,rfl,rfl,r,λ{S' H' u y f} h g=>Ows.cons (B:=B) h ?_⟩;have j:∀{vs:List V}{xs:List OD}{D:List Addr},(∀a∈D,a∈B)->Ows b S H vs xs D->Ows b S' H' vs xs D:=λ{vs xs D} s h=>by
     induction xs generalizing vs D with
     |nil=>cases h;exact .nil
     |cons x xs i=>cases h with|cons r t=>exact .cons (g (λa h=>.inr (s a (aae _ h))) r) (i (λa h=>s a (aac _ h)) t)
    exact j (λa h=>h) t
   |succ k=>obtain⟨p,c,m,d,q,n,l,o⟩:=i t e;subst n;refine⟨p,A++c,m,d,q,(aad ..).symm,l,λh g=>?_⟩;rw[aaF,aaF,aad];exact .cons (g (λa h=>.inl (aae _ h)) r) (o h λs h=>g (λa z=>(s a z).imp (aac _) id) h)
end
end
section
structure Wd (b:Bs)(H:Hp)(L:List (V×OD)):Prop where
 out:∃A,OwL b (λa=>a∈A\/b.S0 a) H L A/\A.Nodup/\∀a∈A,b.H0 a=none\/b.C a
 fr:Kp b.C b.H0 H
 s0:∀a,b.S0 a->b.H0 a≠none/\¬ b.C a
 nt:∀a xs,H a=some (.tup xs)->¬ b.S0 a
section
variable{b:Bs}{H H1 H':Hp}{L L':List (V×OD)}{v u:V}{x y:OD}{d:PyData}{ds:List PyData}{p a:Addr}
def Wd.rz(w:Wd b H L)(h:OwL b (λa=>a∈A\/b.S0 a) H L A):∀a xs,H a=some (.tup xs)->¬ (a∈A\/b.S0 a):=λa xs e z=>z.elim (λz=>Ows.tl h a z xs e) (w.nt a xs e)
def Wd.al(w:Wd b H L)(h:OwL b (λa=>a∈A\/b.S0 a) H L A)(e:H a=none):¬ (a∈A\/b.S0 a):=λz=>z.elim (λz=>Ows.ne h a z e) λz=>(w.s0 a z).1 (w.fr.n a e)
def Wd.dj(w:Wd b H L){A:List Addr}(c:∀a∈A,b.H0 a=none\/b.C a):∀a∈A,¬ b.S0 a:=λa e z=>(c a e).elim (w.s0 a z).1 (w.s0 a z).2
def Wd.perm(w:Wd b H L)(q:L.Perm L'):Wd b H L':=by obtain⟨A,h,i,f⟩:=w.out;obtain⟨j,k,e⟩:=OwL.perm q h;refine⟨⟨j,Ows.step (Kp.refl _ _) (λc z=>.inl (z.imp (e.mem_iff.mpr) id)) (w.rz h) (λ_ _=>rfl) k,e.nodup_iff.mp i,λa g=>f a (e.mem_iff.mpr g)⟩,w.fr,w.s0,w.nt⟩
def Wd.drop(w:Wd b H ((v,x)::L)):Wd b H L:=by
 obtain⟨A,h,g,e⟩:=w.out;have i:=w.rz h;cases h with
 |@cons _ _ A _ _ B r t=>exact⟨⟨B,Ows.step (Kp.refl _ _) (λc z=>.inl (z.imp (aac _) id)) i (λ_ _=>rfl) t,(aaA.mp g).2.1,λa f=>e a (aac _ f)⟩,w.fr,w.s0,w.nt⟩
def Wd.drops(w:Wd b H (L1++L2)):Wd b H L2:=by
 induction L1 with
 |nil=>exact w
 |cons z L1 c=>exact c (Wd.drop w)
def Wd.puts(w:Wd b H (L1++L))(h:∀(S:Addr->Prop) (A:List Addr),OwL b S H L1 A->A.Nodup->(∀a∈A,S a)->(∀a,H a=none->¬ S a)->(∀a xs,H a=some (.tup xs)->¬ S a) ->
  ∃f,OwL b (λa=>(S a/\a ∉ A)\/a∈f) H L2 f/\f.Nodup/\∀a∈f,a∈A):Wd b H (L2++L):=by
 obtain⟨M,n,D,g⟩:=w.out;have k:=w.rz n;have C:=λ{a}=>w.al n (a:=a);have ds:=w.dj g;obtain⟨A,B,rfl,r,t⟩:=OwL.h8 n;obtain⟨s,J,o⟩:=aaA.mp D;obtain⟨f,F,I,l⟩:=h _ A r s (λa z=>.inl (aae _ z)) (λa e=>C e) k;have i:∀c,(c∈f++B\/b.S0 c)->(c∈A++B\/b.S0 c):=λc z=>z.imp (λz=>(aak.mp z).elim (λz=>aae _ (l c z)) (aac _)) id;refine⟨⟨f++B,OwL.kv (Ows.step (Kp.refl _ _) (λc z=>.inl ?_) (λa xs e z=>?_) (λ_ _=>rfl) F) (Ows.step (Kp.refl _ _) (λc z=>.inl (i c z)) k (λ_ _=>rfl) t),aaA.mpr ⟨I,J,λa m c j=>o a (l a m) c j⟩,λa m=>?_⟩,w.fr,w.s0,w.nt⟩
 ·by_cases j:c∈f
  ·exact .inr j
  ·refine .inl ⟨i c z,λq=>?_⟩;rcases z with z|z
   ·rcases aak.mp z with z|z
    ·exact j z
    ·exact o c q c z rfl
   ·exact ds c (aae _ q) z
 ·rcases z with z|z
  ·exact k a xs e z.1
  ·exact k a xs e (.inl (aae _ (l a z)))
 ·rcases aak.mp m with z|z
  ·exact g a (aae _ (l a z))
  ·exact g a (aac _ z)
def OwL.one(h:OwL b S H [(v,x)] A):Ow b S H v x A:=by
 cases h with
 |cons r t=>cases t;rw[aam];exact r
def OwL.of1(h:Ow b S H v x A):OwL b S H [(v,x)] A:=by have:=Ows.cons h (Ows.nil );rw[aam]at this;exact this
def Wd.frz(w:Wd b H ((v,x)::L))(e:x.dat=some d):Wd b H ((v,.fz d)::L):=by
 refine Wd.puts (L1:=[(v,x)]) w λS A h i j g f=>⟨[],OwL.of1 (.fz ?_),abB,λa z=>by cases z⟩
 exact Ow.frz (λa z=>z.elim (·.1) (λz=>by cases z)) f (λa c z=>z.elim (λz=>z.2 c) (λz=>by cases z)) h.one e
def Wd.dt(w:Wd b H ((v,x)::L))(e:x.dat=some d):Dt b.K H v d:=by obtain⟨A,c,g,f⟩:=w.out;obtain⟨B,h⟩:=OwL.mem c (x:=(v,x)) (by simp);exact(Ow.frz (λa z=>z.elim) (w.rz c) (λa _ z=>z) h e).dt
def Wd.memDt(w:Wd b H L)(m:(v,x)∈L)(e:x.dat=some d):Dt b.K H v d:=by obtain⟨A,c,g,f⟩:=w.out;obtain⟨B,h⟩:=OwL.mem c m;exact(Ow.frz (λa z=>z.elim) (w.rz c) (λa _ z=>z) h e).dt
def FrzIn(b:Bs)(S:Addr->Prop)(H:Hp)(L:List (V×OD)):Prop:=∀u e,(u,OD.fz e)∈L->Fz b.K S H u e
def OwL.wj(h:OwL b S H L A):FrzIn b S H L:=λu e m=>by obtain⟨B,q⟩:=OwL.mem h m;cases q with|fz f=>exact f
def FrzIn.all(h:FrzIn b S H L):∀{vs:List V}{ds:List PyData},vs.length=ds.length->(∀z∈vs.zip (ds.map OD.fz),z∈L)->FzA b.K S H vs ds
 |[],[],_,_=>.nil
 |v::vs,d::ds,e,m=>.cons (h v d (m _ (by simp))) (FrzIn.all h (by simpa using e) λz c=>m z (by simp[c]))
def Wd.add(w:Wd b H L)(h:∀S:Addr->Prop,(∀(x:V×OD),x∈L->∃A,Ow b S H x.1 x.2 A)->(∀a,H a=none->¬ S a)->(∀a xs,H a=some (.tup xs)->¬ S a)->Fz b.K S H v d):Wd b H ((v,.fz d)::L):=by obtain⟨A,c,g,f⟩:=w.out;exact⟨⟨A,Ows.cons (.fz (h _ (λx i=>OwL.mem c i) (λa e=>w.al c e) (w.rz c))) c,g,f⟩,w.fr,w.s0,w.nt⟩
def Wd.adds(w:Wd b H L)(h:∀S:Addr->Prop,(∀(x:V×OD),x∈L->∃A,Ow b S H x.1 x.2 A)->FzA b.K S H vs ds):Wd b H (vs.zip (ds.map OD.fz)++L):=by
 obtain⟨A,e,f,c⟩:=w.out;have q:∀{vs:List V}{ds:List PyData},FzA b.K (λa=>a∈A\/b.S0 a) H vs ds->OwL b (λa=>a∈A\/b.S0 a) H (vs.zip (ds.map OD.fz)) []:=by
  intro vs;induction vs with
  |nil=>intro ds h;cases h;exact .nil
  |cons v vs g=>intro ds h;cases h with|cons r t=>exact Ows.cons (.fz r) (g t)
 exact⟨⟨A,OwL.kv (q (h _ λx i=>OwL.mem e i)) e,f,c⟩,w.fr,w.s0,w.nt⟩
def Wd.dup(w:Wd b H ((v,.fz d)::L)):Wd b H ((v,.fz d)::(v,.fz d)::L):=w.add λS h _ _=>by obtain⟨A,q⟩:=h (v,.fz d) (by simp);cases q with|fz f=>exact f
inductive Sc:V->PyData->Prop
 |non:Sc .non .none
 |bl (b:Bool):Sc (.bl b) (.bool b)
 |int (i:Int):Sc (.int i) (.int i)
 |str (x:Str):Sc (.str x) (.str x)
def Sc.fz{K:Waa}(h:Sc v d):Fz K S H v d:=by cases h<;>constructor
def Wd.sc(w:Wd b H L)(h:Sc v d):Wd b H ((v,.fz d)::L):=w.add λS _ _ _=>h.fz
def Wd.new(w:Wd b H L)(g:H p=none):Wd b (upd H p o) L:=by
 obtain⟨A,h,l,f⟩:=w.out;have i:=w.al h g;refine⟨⟨A,Ows.step (Kp.put (.inr g)) (λc z=>.inl z) (w.rz h) (λa k=>upd_ne λe=>i (.inl (e▸k))) h,l,f⟩,w.fr.trans (Kp.put (.inr g)),w.s0,λa j e z=>?_⟩;by_cases q:a=p
 ·subst q;exact i (.inr z)
 ·rw[upd_ne q]at e;exact w.nt a j e z
def Wd.wh(w:Wd b H L)(c:H p=none):b.H0 p=none:=w.fr.n p c
def ko:∀{vs:List V}{xs:List OD},vs.length=xs.length->(vs.zip xs).map (·.1)=vs
 |[],[],_=>rfl
 |_::_,_::_,e=>by rw[abC,aaj,ko (by simpa using e)]
 |[],_::_,e=>by simp at e
 |_::_,[],e=>by simp at e
def kr:∀{vs:List V}{xs:List OD},vs.length=xs.length->(vs.zip xs).map (·.2)=xs
 |[],[],_=>rfl
 |_::_,_::_,e=>by rw[abC,aaj,kr (by simpa using e)]
 |[],_::_,e=>by simp at e
 |_::_,[],e=>by simp at e
def OwL.y2(e:vs.length=xs.length)(h:OwL b S H (vs.zip xs) A):Ows b S H vs xs A:=by unfold OwL at h;rw[ko e,kr e]at h;exact h
def OwL.oe(h:Ows b S H vs xs A):OwL b S H (vs.zip xs) A:=by unfold OwL;rw[ko h.len,kr h.len];exact h
def Wd.i9(w:Wd b H L)(h:∀S,FrzIn b S H L->FzA b.K S H vs ds)(f:H p=none):Wd b (upd H p (.tup vs)) ((.ref p,.fz (.tuple ds))::L):=by obtain⟨A,g,m,i⟩:=w.out;have k:=w.al g f;have n:=h _ (OwL.wj g);have j:=w.new f (o:=.tup vs);refine⟨⟨A,Ows.cons (.fz (.tup (tP au k) (n.step (Kp.put (.inr f)) λc z=>.inl z))) (Ows.step (Kp.put (.inr f)) (λc z=>.inl z) (w.rz g) (λa l=>upd_ne λe=>k (.inl (e▸l))) g),m,i⟩,j.fr,j.s0,j.nt⟩
def Wd.newTupC(w:Wd b H (vs.zip xs++L))(e:vs.length=xs.length)(g:H p=none):Wd b (upd H p (.tup vs)) ((.ref p,.tup xs)::L):=by obtain⟨A,i,s,j⟩:=w.out;have m:=w.al i g;have k:=w.rz i;have h:=w.new g (o:=.tup vs);have l:∀a∈A,upd H p (.tup vs) a=H a:=λa f=>upd_ne λe=>m (.inl (e▸f));obtain⟨n,q,rfl,t,r⟩:=OwL.h8 i;refine⟨⟨n++q,Ows.cons (.tup au (Ows.step (Kp.put (.inr g)) (λc z=>.inl z) k (λa f=>l a (aae _ f)) (OwL.y2 e t))) (Ows.step (Kp.put (.inr g)) (λc z=>.inl z) k (λa f=>l a (aac _ f)) r),s,j⟩,h.fr,h.s0,h.nt⟩
def Wd.eu(w:Wd b H (vs.zip xs++L))(e:vs.length=xs.length)(g:H p=none):Wd b (upd H p (.lst vs)) ((.ref p,.lst xs)::L):=by
 obtain⟨A,k,t,l⟩:=w.out;have m:=w.al k g;have r:=w.rz k;have j:=w.new g (o:=.lst vs);have q:∀a∈A,upd H p (.lst vs) a=H a:=λa f=>upd_ne λe=>m (.inl (e▸f));obtain⟨h,i,rfl,B,s⟩:=OwL.h8 k;have n:∀c,(c∈p::(h++i)\/b.S0 c)->(c∈h++i\/b.S0 c)\/H c=none:=λc z=>by
  rcases z with z|z
  ·rcases aab.mp z with rfl|z
   ·exact .inr g
   ·exact .inl (.inl z)
  ·exact .inl (.inr z)
 refine⟨⟨p::(h++i),Ows.cons (.lst au (Ows.step (Kp.put (.inr g)) n r (λa f=>q a (aae _ f)) (OwL.y2 e B))) (Ows.step (Kp.put (.inr g)) n r (λa f=>q a (aac _ f)) s),aaB.mpr ⟨λz=>m (.inl z),t⟩,λa f=>?_⟩,j.fr,j.s0,j.nt⟩;rcases aab.mp f with rfl|f
 ·exact .inl (w.wh g)
 ·exact l a f
def Wd.z4(w:Wd b H L)(g:H p=none):Wd b (upd H p (.dK [])) ((.ref p,.dic [] [])::L):=by
 obtain⟨A,i,l,h⟩:=w.out;have k:=w.al i g;have m:=w.rz i;have j:=w.new g (o:=.dK []);have n:∀c,(c∈p::A\/b.S0 c)->(c∈A\/b.S0 c)\/H c=none:=λc z=>by
  rcases z with z|z
  ·rcases aab.mp z with rfl|z
   ·exact .inr g
   ·exact .inl (.inl z)
  ·exact .inl (.inr z)
 refine⟨⟨p::A,Ows.cons (A:=[p]) (.dic au rfl rfl .nil) (Ows.step (Kp.put (.inr g)) n m (λa f=>upd_ne λe=>k (.inl (e▸f))) i),aaB.mpr ⟨λz=>k (.inl z),l⟩,λa f=>?_⟩,j.fr,j.s0,j.nt⟩;rcases aab.mp f with rfl|f
 ·exact .inl (w.wh g)
 ·exact h a f
end
def OD.kids:OD->List OD
 |.lst xs=>xs|.tup xs=>xs|.dic _ xs=>xs|.obj _ _ xs=>xs
 |_=>[]
def OD.ej(k:Nat)(y:OD):OD->OD
 |.lst xs=>.lst (xs.set k y)|.tup xs=>.tup (xs.set k y)|.dic ks xs=>.dic ks (xs.set k y)|.obj c ns xs=>.obj c ns (xs.set k y)
 |x=>x
def OD.at:List Nat->OD->Option OD
 |[],x=>some x
 |k::ks,x=>match x.kids[k]? with|some z=>OD.at ks z|none=>none
def OD.put(y:OD):List Nat->OD->OD
 |[],_=>y
 |k::ks,x=>match x.kids[k]? with|some z=>OD.ej k (OD.put y ks z) x|none=>x
inductive Chd (b:Bs)(H:Hp):V->OD->Nat->V->OD->Prop
 |lst {a vs xs k w z}:H a=some (.lst vs)->vs.length=xs.length->vs[k]?=some w->xs[k]?=some z->Chd b H (.ref a) (.lst xs) k w z
 |tup {a vs xs k w z}:H a=some (.tup vs)->vs.length=xs.length->vs[k]?=some w->xs[k]?=some z->Chd b H (.ref a) (.tup xs) k w z
 |dic {a ws ks xs k w z}:H a=some (.dK ws)->ws.map (·.1)=ks->ws.length=xs.length->(ws[k]?).map (·.2)=some w->xs[k]?=some z->Chd b H (.ref a) (.dic ks xs) k w z
 |obj {a dx c fs ns xs k w z}:H a=some (.ins (av b.K c) dx fs)->fs.map (·.1)=ns->fs.length=xs.length->(fs[k]?).map (·.2)=some w->xs[k]?=some z->Chd b H (.ref a) (.obj c ns xs) k w z
inductive Chn (b:Bs)(H:Hp):V->OD->List Nat->V->OD->Prop
 |nil {v x}:Chn b H v x [] v x
 |cons {v x k w z ks u y}:Chd b H v x k w z->Chn b H w z ks u y->Chn b H v x (k::ks) u y
section
variable{b:Bs}{S S':Addr->Prop}{H H1 H':Hp}{L L':List (V×OD)}{v u:V}{x y:OD}{d:PyData}{ds:List PyData}{p a:Addr}
def b9{f:Type}(c B e:List f):(c++(B++e)).Perm (B++(c++e)):=by rw[<-aad,<-aad];exact aaY.append_right _
def bD{c:Type}:∀{l:List c}{i:Nat}{x:c},l[i]?=some x->l.set i x=l
 |[],_,_,e=>by simp at e
 |_::_,0,_,e=>by simp at e;subst e;rfl
 |y::l,i+1,x,e=>by rw[aaF,bD (by simpa using e)]
def Ow.kid(h:Ow b S H v x A)(e:x.kids[k]?=some z):∃w B D,Chd b H v x k w z/\Ow b S H w z B/\A.Perm (B++D) /\
  ∀{S':Addr->Prop}{H':Hp}{r:OD}{j:List Addr},Kp S H H'->(∀c,S' c->S c\/H c=none)->(∀a xs,H a=some (.tup xs)->¬ S a)->(∀a∈D,H' a=H a)->Ow b S' H' w r j->∃C,Ow b S' H' v (OD.ej k r x) C/\C.Perm (j++D):=by
 cases h with
 |fz _=>cases k<;>cases e
 |pinL _ _=>cases k<;>cases e
 |pinT _ _=>cases k<;>cases e
 |hole _=>cases k<;>cases e
 |@lst a vs xs A e1 t=>obtain⟨w,f,B,g,i,rfl,l,q⟩:=t.zip e;refine⟨w,B,a::(f++g),.lst e1 t.len i e,l,((b9 f B g).cons a).trans aas.symm,λ{S' H' r j} k n hs s h=>?_⟩;have:=q h λm h=>Ow.step k n hs (λa o=>s a (aah _ (aak.mpr (m a o)))) h;rw[bD i]at this;exact⟨_,.lst ((s a aai).trans e1) this,((b9 f j g).cons a).trans aas.symm⟩
 |@tup a vs xs A e1 t=>obtain⟨w,f,B,g,i,rfl,l,q⟩:=t.zip e;refine⟨w,B,f++g,.tup e1 t.len i e,l,b9 f B g,λ{S' H' r j} k n hs s h=>?_⟩;have:=q h λm h=>Ow.step k n hs (λa o=>s a (aak.mpr (m a o))) h;rw[bD i]at this;exact⟨_,.tup (k.k _ _ e1 (hs _ _ e1)) this,b9 f j g⟩
 |@dic a ws ks vs xs A e1 h5 h6 t=>obtain⟨w,f,B,g,i,rfl,l,q⟩:=t.zip e;refine⟨w,B,a::(f++g),.dic e1 h5 (by rw[<-t.len,<-h6,aaa]) (by rw[<-h6]at i;simpa using i) e,l,((b9 f B g).cons a).trans aas.symm,λ{S' H' r j} k n hs s h=>?_⟩;have:=q h λm h=>Ow.step k n hs (λa o=>s a (aah _ (aak.mpr (m a o)))) h;rw[bD i]at this;exact⟨_,.dic ((s a aai).trans e1) h5 h6 this,((b9 f j g).cons a).trans aas.symm⟩
 |@obj a dx c fs ns vs xs A e1 e2 h5 h6 t=>
  obtain⟨w,f,B,g,i,rfl,l,q⟩:=t.zip e;have F:∀B:List Addr,(a::dx::(f++(B++g))).Perm (B++(a::dx::(f++g))):=λB=>by refine(((b9 f B g).cons dx).cons a).trans ?_;exact((aas ).symm.cons a).trans aas.symm
  refine⟨w,B,a::dx::(f++g),.obj e1 h5 (by rw[<-t.len,<-h6,aaa]) (by rw[<-h6]at i;simpa using i) e,l,F B,λ{S' H' r j} k n hs s h=>?_⟩;have:=q h λm h=>Ow.step k n hs (λa o=>s a (aah _ (aah _ (aak.mpr (m a o))))) h;rw[bD i]at this;exact⟨_,.obj ((s a aai).trans e1) ((s dx (aah _ aai)).trans e2) h5 h6 this,F j⟩
def Ow.path:∀{ks:List Nat}{v:V}{x:OD}{A:List Addr}{y:OD},Ow b S H v x A->x.at ks=some y->∃u B i,Chn b H v x ks u y/\Ow b S H u y B/\A.Perm (B++i) /\
  ∀{S':Addr->Prop}{H':Hp}{l:OD}{g:List Addr},Kp S H H'->(∀c,S' c->S c\/H c=none)->(∀a xs,H a=some (.tup xs)->¬ S a)->(∀a∈i,H' a=H a)->Ow b S' H' u l g->∃f,Ow b S' H' v (OD.put l ks x) f/\f.Perm (g++i)
 |[],v,x,A,y,h,e=>by simp only[OD.at]at e;cases e;exact⟨v,A,[],.nil,h,by simp,λ{S' H' l g} _ _ _ _ h=>⟨g,h,by simp⟩⟩
 |k::ks,v,x,A,y,h,e=>by
  simp only[OD.at]at e;cases j:x.kids[k]? with
  |none=>rw[j]at e;cases e
  |some z=>rw[j]at e;simp only at e;obtain⟨w,B,i,M,N,C,O⟩:=h.kid j;obtain⟨u,r,q,F,D,J,P⟩:=Ow.path N e;refine⟨u,r,q++i,.cons M F,D,C.trans (by rw[<-aad];exact J.append_right _),λ{S' H' l g} k' n hs s h=>?_⟩;obtain⟨U,o,Q⟩:=P k' n hs (λa m=>s a (aae _ m)) h;obtain⟨T,I,t⟩:=O k' n hs (λa m=>s a (aac _ m)) o;refine⟨T,?_,t.trans (by rw[<-aad];exact Q.append_right _)⟩;simp only[OD.put,j];exact I
end
end
section
section
variable{b:Bs}{S S':Addr->Prop}{H H1 H':Hp}{L L':List (V×OD)}{v u:V}{x y:OD}{d:PyData}{ds:List PyData}{p a:Addr}{us:List V}{zs:List OD}{ks:List Nat}
def Wd.mutC(w:Wd b H (us.zip zs++((v,x)::L)))(el:us.length=zs.length)(e:x.at ks=some y):∃(S:Addr->Prop) (u:V) (B C:List Addr),Chn b H v x ks u y/\Ow b S H u y B/\Ows b S H us zs C/\(B++C).Nodup/\(∀c∈B,S c)/\(∀c,H c=none->¬ S c)/\(∀c xs,H c=some (.tup xs)->¬ S c)/\FrzIn b S H L /\
  ∀{H':Hp}{Z:OD}{D:List Addr},(∀c,c ∉ B->H' c=H c)->(∀c∈B,∃o,H' c=some o/\MutO o)->D.Nodup->(∀c∈D,c∈B\/c∈C)->(∀S':Addr->Prop,(∀c,S' c->S c)->(∀c∈B,S' c->c∈D)->Ow b S' H' u Z D)->Wd b H' ((v,OD.put Z ks x)::L):=by
 obtain⟨A0,X,nd,s⟩:=w.out;have O:=w.rz X;have al:=λ{a}=>w.al X (a:=a);obtain⟨C,A1,rfl,hz,h1⟩:=OwL.h8 X;cases h1 with
 |@cons _ _ A _ _ E r t=>
  obtain⟨u,B,M,ch,hy,pB,go⟩:=Ow.path r e;obtain⟨nC,Q,F⟩:=aaA.mp nd;obtain⟨nA,nE,l⟩:=aaA.mp Q;have W:=pB.nodup_iff.mp nA;obtain⟨nB,T,m⟩:=aaA.mp W;have f:∀c,c∈A ↔ c∈B\/c∈M:=λc=>by rw[pB.mem_iff,aak]
  refine⟨_,u,B,C,ch,hy,OwL.y2 el hz,aaA.mpr ⟨nB,nC,λc h J i e=>F J i c (aae _ ((f c).mpr (.inl h))) e.symm⟩,λc h=>.inl (aac _ (aae _ ((f c).mpr (.inl h)))),λc e=>al e,O,OwL.wj t,λ{H' Z D} hk hm nD sD hO=>?_⟩;have P:Kp (λc=>c∈C++(A++E)\/b.S0 c) H H':=⟨λc o e n=>by
    rw[hk c λz=>n (.inl (aac _ (aae _ ((f c).mpr (.inl z)))))];exact e,λc e=>by
    by_cases z:c∈B
    ·obtain⟨o,q,_⟩:=hm c z;rw[q]at e;cases e
    ·rw[hk c z]at e;exact e⟩
  have j:∀c,(c∈(D++M)++E\/b.S0 c)->(c∈C++(A++E)\/b.S0 c):=λc z=>z.imp (λz=>by
   rcases aak.mp z with z|z
   ·rcases aak.mp z with z|z
    ·rcases sD c z with z|z
     ·exact aac _ (aae _ ((f c).mpr (.inl z)))
     ·exact aae _ z
    ·exact aac _ (aae _ ((f c).mpr (.inr z)))
   ·exact aac _ (aac _ z)) id
  obtain⟨I,hx,pA⟩:=go P (λc z=>.inl (j c z)) O (λc h=>hk c λz=>m c z c h rfl) (hO _ j λc h z=>by
   rcases z with z|z
   ·rcases aak.mp z with z|z
    ·rcases aak.mp z with z|z
     ·exact z
     ·exact absurd rfl (m c h c z)
    ·exact absurd rfl (l c ((f c).mpr (.inl h)) c z)
   ·exact absurd z (w.dj s c (aac _ (aae _ ((f c).mpr (.inl h))))))
  have g:∀c,c∈I ↔ c∈D++M:=λc=>pA.mem_iff;have N:∀c xs,H' c=some (.tup xs)->¬ (c∈(D++M)++E\/b.S0 c):=λc xs e z=>by
   by_cases q:c∈B
   ·obtain⟨o,q1,q2⟩:=hm c q;rw[q1]at e;cases e;exact q2
   ·rw[hk c q]at e;exact O c xs e (j c z)
  have U:∀c∈D,∀J∈M,c≠J:=λc h J i e=>by
   subst e;rcases sD c h with z|z
   ·exact m c z c i rfl
   ·exact F c z c (aae _ ((f c).mpr (.inr i))) rfl
  refine⟨⟨I++E,Ows.cons (Ow.sub N (λc z=>z.imp (λz=>(aak.mp z).elim (λz=>aae _ ((g c).mp z)) (aac _)) id) hx) (Ows.step P (λc z=>.inl (j c (z.imp (λz=>(aak.mp z).elim (λz=>aae _ ((g c).mp z)) (aac _)) id))) O (λc h=>hk c λz=>l c ((f c).mpr (.inl z)) c h rfl) t),?_,λc h=>?_⟩,?_,w.s0,λc xs e z=>?_⟩
  ·refine aaA.mpr ⟨pA.nodup_iff.mpr (aaA.mpr ⟨nD,T,U⟩),nE,λc h J i e=>?_⟩;subst e;rcases aak.mp ((g c).mp h) with z|z
   ·rcases sD c z with z|z
    ·exact l c ((f c).mpr (.inl z)) c i rfl
    ·exact F c z c (aac _ i) rfl
   ·exact l c ((f c).mpr (.inr z)) c i rfl
  ·have:c∈C++(A++E)\/b.S0 c:=j c (.inl ((aak.mp h).elim (λz=>aae _ ((g c).mp z)) (aac _)));have Y:c∈C++(A++E):=by
    rcases aak.mp h with z|z
    ·rcases aak.mp ((g c).mp z) with z|z
     ·rcases sD c z with z|z
      ·exact aac _ (aae _ ((f c).mpr (.inl z)))
      ·exact aae _ z
     ·exact aac _ (aae _ ((f c).mpr (.inr z)))
    ·exact aac _ (aac _ z)
   exact s c Y
  ·refine⟨λc o e n=>?_,λc e=>w.fr.n c (P.n c e)⟩;rw[hk c λz=>?_]
   ·exact w.fr.k c o e n
   ·rcases s c (aac _ (aae _ ((f c).mpr (.inl z)))) with q|q
    ·rw[q]at e;cases e
    ·exact n q
  ·exact N c xs e (.inr z)
def Wd.uh(w:Wd b H (us.zip zs++((v,x)::L)))(W:us.length=zs.length)(e:x.at ks=some (.lst xs)):∃a vs,Chn b H v x ks (.ref a) (.lst xs)/\H a=some (.lst vs)/\vs.length=xs.length /\
  ∀f xs',(∀(S:Addr->Prop) (H:Hp) (A C:List Addr),(∀c xs,H c=some (.tup xs)->¬ S c)->Ows b S H vs xs A->Ows b S H us zs C->(A++C).Nodup->∃D,Ows b S H f xs' D/\D.Nodup/\∀c∈D,c∈A\/c∈C)->Wd b (upd H a (.lst f)) ((v,OD.put (.lst xs') ks x)::L):=by
 obtain⟨S,u,B,C,Q,N,M,T,O,Z,k,Y,J⟩:=w.mutC W e;cases N with
 |@lst a vs _ A e1 t=>
  refine⟨a,vs,Q,e1,t.len,λf xs' U=>?_⟩;obtain⟨i,s⟩:=aaB.mp (show (a::(A++C)).Nodup from T);have j:∀c,c≠a->upd H a (.lst f) c=H c:=λc n=>upd_ne n;have F:Kp S H (upd H a (.lst f)):=Kp.put (.inl (O a (by simp)));have l:∀S':Addr->Prop,(∀c,S' c->S c)->∃D,Ows b S' (upd H a (.lst f)) f xs' D/\D.Nodup/\∀c∈D,c∈A\/c∈C:=λS' h=>by
   refine U S' _ A C (λc xs e z=>?_) (Ows.step F (λc z=>.inl (h c z)) k (λc g=>j c λe=>i (e▸aae _ g)) t) (Ows.step F (λc z=>.inl (h c z)) k (λc g=>j c λe=>i (e▸aac _ g)) M) s;by_cases q:c=a
   ·subst q;rw[au]at e;cases e
   ·rw[upd_ne q]at e;exact k c xs e (h c z)
  obtain⟨D,X,P,I⟩:=l S λ_ z=>z;have r:∀c xs,upd H a (.lst f) c=some (.tup xs)->¬ S c:=λc xs e z=>by
   by_cases q:c=a
   ·subst q;rw[au]at e;cases e
   ·rw[upd_ne q]at e;exact k c xs e z
  refine J (λc n=>j c λe=>n (by simp[e])) (λc g=>?_) (aaB.mpr ⟨λz=>i (by rcases I a z with z|z<;>simp[z]),P⟩) (λc g=>?_) λS' h _=>.lst au (Ows.sub r h X)
  ·rcases aab.mp g with rfl|g
   ·exact⟨_,au,trivial⟩
   ·obtain⟨o,q,m⟩:=t.mu c g;exact⟨o,by rw[j c λe=>i (e▸aae _ g)];exact q,m⟩
  ·rcases aab.mp g with rfl|g
   ·exact .inl (by simp)
   ·exact(I c g).imp (aah _) id
def Wd.u3(w:Wd b H (us.zip zs++((v,x)::L)))(X:us.length=zs.length)(e:x.at ks=some (.dic kk xs)):∃a ws,Chn b H v x ks (.ref a) (.dic kk xs)/\H a=some (.dK ws)/\ws.map (·.1)=kk/\ws.length=xs.length /\
  ∀f h xs',f.map (·.1)=h->(∀(S:Addr->Prop) (H:Hp) (A C:List Addr),(∀c xs,H c=some (.tup xs)->¬ S c)->Ows b S H (ws.map (·.2)) xs A->Ows b S H us zs C->(A++C).Nodup->∃D,Ows b S H (f.map (·.2)) xs' D/\D.Nodup/\∀c∈D,c∈A\/c∈C)->Wd b (upd H a (.dK f)) ((v,OD.put (.dic h xs') ks x)::L):=by
 obtain⟨S,u,B,C,T,O,N,U,P,al,r,Z,M⟩:=w.mutC X e;cases O with
 |@dic a ws _ vs _ A e1 h5 h6 t=>
  subst h6;refine⟨a,ws,T,e1,h5,by have:=t.len;rwa [aaa]at this,λf h xs' l W=>?_⟩;obtain⟨j,F⟩:=aaB.mp (show (a::(A++C)).Nodup from U);have k:∀c,c≠a->upd H a (.dK f) c=H c:=λc n=>upd_ne n;have I:Kp S H (upd H a (.dK f)):=Kp.put (.inl (P a (by simp)));have i:∀c xs,upd H a (.dK f) c=some (.tup xs)->¬ S c:=λc xs e z=>by
   by_cases q:c=a
   ·subst q;rw[au]at e;cases e
   ·rw[upd_ne q]at e;exact r c xs e z
  obtain⟨D,Y,Q,J⟩:=W S _ A C i (Ows.step I (λc z=>.inl z) r (λc g=>k c λe=>j (e▸aae _ g)) t) (Ows.step I (λc z=>.inl z) r (λc g=>k c λe=>j (e▸aac _ g)) N) F;refine M (λc n=>k c λe=>n (by simp[e])) (λc g=>?_) (aaB.mpr ⟨λz=>j (by rcases J a z with z|z<;>simp[z]),Q⟩) (λc g=>?_) λS' s _=>.dic au l rfl (Ows.sub i s Y)
  ·rcases aab.mp g with rfl|g
   ·exact⟨_,au,trivial⟩
   ·obtain⟨o,q,m⟩:=t.mu c g;exact⟨o,by rw[k c λe=>j (e▸aae _ g)];exact q,m⟩
  ·rcases aab.mp g with rfl|g
   ·exact .inl (by simp)
   ·exact(J c g).imp (aah _) id
def Wd.mutO(w:Wd b H (us.zip zs++((v,x)::L)))(el:us.length=zs.length)(e:x.at ks=some (.obj c ns xs)):∃a dx fs,Chn b H v x ks (.ref a) (.obj c ns xs)/\H a=some (.ins (av b.K c) dx fs)/\fs.map (·.1)=ns/\fs.length=xs.length /\
  ∀g ns' xs',g.map (·.1)=ns'->(∀(S:Addr->Prop) (H:Hp) (A C:List Addr),(∀c xs,H c=some (.tup xs)->¬ S c)->Ows b S H (fs.map (·.2)) xs A->Ows b S H us zs C->(A++C).Nodup->∃D,Ows b S H (g.map (·.2)) xs' D/\D.Nodup/\∀c∈D,c∈A\/c∈C)->Wd b (upd H a (.ins (av b.K c) dx g)) ((v,OD.put (.obj c ns' xs') ks x)::L):=by
 obtain⟨S,u,B,C,W,Q,P,X,T,al,J,fi,O⟩:=w.mutC el e;cases Q with
 |@obj a dx _ fs _ vs _ A e1 e2 h5 h6 t=>
  subst h6;refine⟨a,dx,fs,W,e1,h5,by have:=t.len;rwa [aaa]at this,λg ns' xs' F Z=>?_⟩;obtain⟨l,i⟩:=aaB.mp (show (a::(dx::(A++C))).Nodup from X);obtain⟨Y,i⟩:=aaB.mp i;have k:∀z,z≠a->upd H a (.ins (av b.K c) dx g) z=H z:=λz n=>upd_ne n;have N:Kp S H (upd H a (.ins (av b.K c) dx g)):=Kp.put (.inl (T a (by simp)));have r:∀z xs,upd H a (.ins (av b.K c) dx g) z=some (.tup xs)->¬ S z:=λz xs e s=>by
   by_cases q:z=a
   ·subst q;rw[au]at e;cases e
   ·rw[upd_ne q]at e;exact J z xs e s
  obtain⟨D,hD,U,I⟩:=Z S _ A C r (Ows.step N (λc z=>.inl z) J (λc f=>k c λe=>l (e▸aah _ (aae _ f))) t) (Ows.step N (λc z=>.inl z) J (λc f=>k c λe=>l (e▸aah _ (aac _ f))) P) i;have j:dx≠a:=λe=>l (e▸aai);refine O (λz n=>k z λe=>n (by simp[e])) (λz f=>?_) (aaB.mpr ⟨λz=>?_,aaB.mpr ⟨λz=>?_,U⟩⟩) (λz f=>?_) λS' M _=>.obj au (by rw[k dx j];exact e2) F rfl (Ows.sub r M hD)
  ·rcases aab.mp f with rfl|f
   ·exact⟨_,au,trivial⟩
   ·rcases aab.mp f with rfl|f
    ·exact⟨.own a,by rw[k _ j];exact e2,trivial⟩
    ·obtain⟨o,q,m⟩:=t.mu z f;exact⟨o,by rw[k z λe=>l (e▸aah _ (aae _ f))];exact q,m⟩
  ·rcases aab.mp z with z|z
   ·exact j z.symm
   ·exact l (aah _ (aak.mpr (I a z)))
  ·exact Y (aak.mpr (I dx z))
  ·rcases aab.mp f with rfl|f
   ·exact .inl (by simp)
   ·rcases aab.mp f with rfl|f
    ·exact .inl (by simp)
    ·exact(I z f).imp (λh=>aah _ (aah _ h)) id
def Chd.det(h:Chd b H v x k w z)(h':Chd b H v x k w' z'):w=w'/\z=z':=by
 cases h with
 |lst g m j i=>cases h' with|lst c l f e=>rw[g]at c;cases c;rw[j]at f;cases f;rw[i]at e;cases e;exact⟨rfl,rfl⟩
 |tup g m j i=>cases h' with|tup c l f e=>rw[g]at c;cases c;rw[j]at f;cases f;rw[i]at e;cases e;exact⟨rfl,rfl⟩
 |dic g m o j i=>cases h' with|dic c l n f e=>rw[g]at c;cases c;rw[j]at f;cases f;rw[i]at e;cases e;exact⟨rfl,rfl⟩
 |obj g m o j i=>cases h' with|obj c l n f e=>rw[g]at c;cases c;rw[j]at f;cases f;rw[i]at e;cases e;exact⟨rfl,rfl⟩
def Chd.same(h:Chd b H v x k w z)(h':Chd b H v (OD.ej k y x) k w' y'):w=w':=by
 cases h with
 |lst f m g l=>cases h' with|lst c i e j=>rw[f]at c;cases c;rw[g]at e;cases e;rfl
 |tup f m g l=>cases h' with|tup c i e j=>rw[f]at c;cases c;rw[g]at e;cases e;rfl
 |dic f m o g l=>cases h' with|dic c i n e j=>rw[f]at c;cases c;rw[g]at e;cases e;rfl
 |obj f m o g l=>cases h' with|obj c i n e j=>rw[f]at c;cases c;rw[g]at e;cases e;rfl
def Chd.kid(h:Chd b H v x k w z):x.kids[k]?=some z:=by
 cases h with
 |lst _ _ _ e=>exact e
 |tup _ _ _ e=>exact e
 |dic _ _ _ _ e=>exact e
 |obj _ _ _ _ e=>exact e
def Chd.set(h:Chd b H v x k w z):(OD.ej k y x).kids[k]?=some y:=by
 cases h with
 |lst _ _ _ e=>exact aaR (aar.mp e).1
 |tup _ _ _ e=>exact aaR (aar.mp e).1
 |dic _ _ _ _ e=>exact aaR (aar.mp e).1
 |obj _ _ _ _ e=>exact aaR (aar.mp e).1
def Wd.u2(w:Wd b H ((v,x)::L))(e:x.at ks=some y)(Q:y.dat=some d):∃u,Chn b H v x ks u y/\Wd b H ((u,.fz d)::(v,OD.put (.fz d) ks x)::L):=by
 obtain⟨S,u,B,C,m,j,X,nd,Z,al,M,fi,n⟩:=Wd.mutC (us:=[]) (zs:=[]) w rfl e;have D:Wd b H ((v,OD.put (.fz d) ks x)::L):=n (λ_ _=>rfl) (λc g=>j.mu c g) abB (λc g=>by cases g) λS' i I=>.fz (Ow.frz i M (λa F z=>by cases I a F z) j Q);refine⟨u,m,D.add λl T U O=>?_⟩;obtain⟨Y,P⟩:=T (v,OD.put (.fz d) ks x) (by simp);have q:∀{ks:List Nat}{v u:V}{x:OD}{A:List Addr},Chn b H v x ks u y->Ow b l H v (OD.put (.fz d) ks x) A->Fz b.K l H u d:=λ{ks}=>by
  induction ks with
  |nil=>intro v u x A c o;cases c;simp only[OD.put]at o;cases o with|fz f=>exact f
  |cons k ks W=>
   intro v u x A c o;cases c with
   |cons h J=>have s:=h.kid;simp only[OD.put,s]at o;obtain⟨u',B',A',N,r,_⟩:=o.kid h.set;have t:=h.same N;subst t;exact W J r
 exact q m P
end
end
section
abbrev DSp:=List OD->(OD->List OD->Prop)->Prop
def HI(K:Waa)(S:Addr->Prop)(A:List Addr)(vs:List V)(H:Hp)(Q:VK)(x:OD)(ys:List OD):Prop:=∀v b B,Kp (λa=>a∈A) H b ->
 Ows ⟨K,H,S,λa=>a∈A⟩ (λa=>a∈B\/S a) b (v::vs) (x::ys) B->B.Nodup->(∀a∈B,H a=none\/a∈A)->Q v b
def toSp(K:Waa)(sp:DSp):Sp:=λc H Q _=>∃(S:Addr->Prop) (b:List OD) (A:List Addr),(∀a,S a->H a≠none/\a ∉ A)/\(∀a b,H a=some (.tup b)->¬ S a) /\
 Ows ⟨K,H,S,λa=>a∈A⟩ (λa=>a∈A\/S a) H c b A/\A.Nodup/\sp b (HI K S A c H Q)
def tQ(sp:DSp):Prop:=∀a (P R:OD->List OD->Prop),(∀x b,P x b->R x b)->sp a P->sp a R
section
variable{b:Bs}{H H':Hp}{L:List (V×OD)}{v:V}{x:OD}
def Wd.call(w:Wd b H (us.zip xs++L))(X:us.length=xs.length)(p:tQ sp)
  (h:sp xs λx ys=>us.length=ys.length->∀v H',Wd b H' ((v,x)::(us.zip ys++L))->Q v H'):toSp b.K sp us H Q E:=by
 obtain⟨A0,J,U,f⟩:=w.out;have t:=w.rz J;have u:=λ{a}=>w.al J (a:=a);obtain⟨A,i,rfl,W,P⟩:=OwL.h8 J;obtain⟨O,y,s⟩:=aaA.mp U;have l:=w.dj f;refine⟨λa=>a∈i\/b.S0 a,xs,A,λa z=>⟨λe=>u e (z.imp (aac _) id),λd=>?_⟩,λa xs e z=>t a xs e (z.imp (aac _) id),?_,O,p _ _ _ (λx ys T v H' B q I Z C=>?_) h⟩
 ·rcases z with z|z
  ·exact s a d a z rfl
  ·exact l a (aae _ d) z
 ·refine Ows.subB (b2:=⟨b.K,H,λa=>a∈i\/b.S0 a,λa=>a∈A⟩) (b:=b) rfl t (λc z=>?_) (OwL.y2 X W);rcases z with z|z|z
  ·exact .inl (aae _ z)
  ·exact .inl (aac _ z)
  ·exact .inr z
 have F:us.length=ys.length:=by have:=I.len;simpa using this
 have g:∀a,a ∉ A->H a≠none->H' a=H a:=λa d j=>by
  cases e:H a with
  |none=>exact absurd e j
  |some o=>exact q.k a o e d
 have D:Kp (λa=>a∈A++i\/b.S0 a) H H':=q.weak λc r=>.inl (.inl (aae _ r));have Y:∀c,(c∈B++i\/b.S0 c)->(c∈A++i\/b.S0 c)\/H c=none:=λc z=>by
  rcases z with z|z
  ·rcases aak.mp z with z|z
   ·exact(C c z).elim .inr λz=>.inl (.inl (aae _ z))
   ·exact .inl (.inl (aac _ z))
  ·exact .inl (.inr z)
 have m:∀a xs,H' a=some (.tup xs)->¬ (a∈B\/a∈i\/b.S0 a):=λa xs e z=>by
  rcases z with z|z
  ·exact I.tl a z xs e
  ·have d:a ∉ A:=λd=>by
    rcases z with z|z
    ·exact s a d a z rfl
    ·exact l a (aae _ d) z
   have S:H a≠none:=λe=>u e (z.imp (aac _) id);rw[g a d S]at e;exact t a xs e (z.imp (aac _) id)
 have N:((v,x)::(us.zip ys++L))=((v::us).zip (x::ys))++L:=rfl;refine T F v H' ?_;rw[N];refine⟨⟨B++i,OwL.kv (OwL.oe (Ows.subB (b2:=b) (b:=⟨b.K,H,λa=>a∈i\/b.S0 a,λa=>a∈A⟩) rfl m (λc z=>?_) I)) (Ows.step D Y t (λa j=>g a (λd=>s a d a j rfl) λe=>u e (.inl (aac _ j))) P),aaA.mpr ⟨Z,y,λa j c r e=>?_⟩,λa j=>?_⟩,?_,w.s0,λa xs e z=>m a xs e (.inr (.inr z))⟩
 ·rcases z with z|z
  ·exact(aak.mp z).imp id .inl
  ·exact .inr (.inr z)
 ·subst e;rcases C a j with z|z
  ·exact u z (.inl (aac _ r))
  ·exact s a z a r rfl
 ·rcases aak.mp j with z|z
  ·rcases C a z with z|z
   ·exact .inl (w.wh z)
   ·exact f a (aae _ z)
  ·exact f a (aac _ z)
 ·refine⟨λc o e M=>q.k c o (w.fr.k c o e M) λd=>?_,λc e=>w.fr.n c (q.n c e)⟩;rcases f c (aae _ d) with z|z
  ·rw[z]at e;cases e
  ·exact M z
def Wd.pin(w:Wd b H ((v,.fz d)::L))(e:d=if l then .list ds else .tuple ds):∃xs,Wd b H ((v,.pin l xs ds)::L):=by
 obtain⟨j,i,h,c⟩:=w.out;cases i with
 |cons r t=>
  cases r with
  |fz r=>
   cases l with
   |true=>subst e;obtain⟨a,xs,rfl,g,f⟩:=r.ro;exact⟨xs,⟨⟨_,Ows.cons (.pinL g f) t,h,c⟩,w.fr,w.s0,w.nt⟩⟩
   |false=>subst e;obtain⟨a,xs,rfl,g,f⟩:=r.r8;exact⟨xs,⟨⟨_,Ows.cons (.pinT g f) t,h,c⟩,w.fr,w.s0,w.nt⟩⟩
def Wd.pinned(w:Wd b H L)(m:(v,OD.pin l xs ds)∈L):∃a,v=.ref a/\xs.length=ds.length/\(if l then SqL b.K H a xs else SqT b.K H a xs)/\Wd b H (xs.zip (ds.map OD.fz)++L):=by
 obtain⟨A,g,i,e⟩:=w.out;obtain⟨B,h⟩:=OwL.mem g m;have q:Wd b H (xs.zip (ds.map OD.fz)++L):=w.adds λS f=>by
  obtain⟨B,h⟩:=f _ m;cases h with
  |pinL _ t=>exact t
  |pinT _ t=>exact t
 cases h with
 |pinL d c=>exact⟨_,rfl,c.length,d.now,q⟩
 |pinT d c=>exact⟨_,rfl,c.length,d.now,q⟩
end
end
section
abbrev DEnv:=List (Option OD)
def flat:St->DEnv->List (V×OD)
 |some v::σ,some x::ρ=>(v,x)::flat σ ρ
 |_::σ,_::ρ=>flat σ ρ
 |_,_=>[]
def Wf:St->DEnv->Prop
 |[],[]=>True
 |_::σ,none::ρ=>Wf σ ρ
 |some _::σ,some _::ρ=>Wf σ ρ
 |_,_=>False
section
variable{σ:St}{ρ:DEnv}{i:Nat}{x y:OD}{v u:V}
def bq:flat (o::σ) (none::ρ)=flat σ ρ:=by cases o<;>rfl
def Wf.get:∀{σ:St}{ρ:DEnv}{i:Nat},Wf σ ρ->ρ[i]?=some (some x)->∃v,σ[i]?=some (some v)
 |[],[],_,_,e=>by simp at e
 |[],_::_,_,h,_=>by simp[Wf]at h
 |_::_,[],_,_,e=>by simp at e
 |some v::_,some _::_,0,_,_=>⟨v,rfl⟩
 |none::_,some _::_,_,h,_=>by simp[Wf]at h
 |o::_,none::_,0,_,e=>by simp at e
 |o::σ,none::ρ,i+1,h,e=>by obtain⟨v,q⟩:=Wf.get (ρ:=ρ) h (by simpa using e);exact⟨v,by simpa using q⟩
 |some _::σ,some _::ρ,i+1,h,e=>by obtain⟨v,q⟩:=Wf.get (ρ:=ρ) h (by simpa using e);exact⟨v,by simpa using q⟩
def Wf.len:∀{σ:St}{ρ:DEnv},Wf σ ρ->σ.length=ρ.length
 |[],[],_=>rfl
 |[],_::_,h=>by simp[Wf]at h
 |_::_,[],h=>by simp[Wf]at h
 |o::σ,none::ρ,h=>by simp[Wf.len (σ:=σ) h]
 |some _::σ,some _::ρ,h=>by simp[Wf.len (ρ:=ρ) h]
 |none::_,some _::_,h=>by simp[Wf]at h
def Wf.off:∀{σ:St}{ρ:DEnv}{i:Nat},Wf σ ρ->Wf σ (ρ.set i none)
 |[],[],_,_=>trivial
 |[],_::_,_,h=>by simp[Wf]at h
 |_::_,[],_,h=>by simp[Wf]at h
 |o::σ,none::ρ,0,h=>h
 |some _::σ,some _::ρ,0,h=>h
 |none::_,some _::_,_,h=>by simp[Wf]at h
 |o::σ,none::ρ,i+1,h=>Wf.off (σ:=σ) h
 |some _::σ,some _::ρ,i+1,h=>Wf.off (i:=i) h
def Wf.put:∀{σ:St}{ρ:DEnv}{i:Nat},Wf σ ρ->Wf (σ.set i (some v)) (ρ.set i (some x))
 |[],[],_,_=>trivial
 |[],_::_,_,h=>by simp[Wf]at h
 |_::_,[],_,h=>by simp[Wf]at h
 |o::σ,none::ρ,0,h=>h
 |some _::σ,some _::ρ,0,h=>h
 |none::_,some _::_,_,h=>by simp[Wf]at h
 |o::σ,none::ρ,i+1,h=>Wf.put (σ:=σ) h
 |some _::σ,some _::ρ,i+1,h=>Wf.put (i:=i) h
def bA:∀{σ:St}{ρ:DEnv}{i:Nat},ρ[i]?=some (some x)->σ[i]?=some (some v)->(flat σ ρ).Perm ((v,x)::flat σ (ρ.set i none))
 |[],_,_,_,e=>by simp at e
 |_::_,[],_,e,_=>by simp at e
 |some u::σ,some y::ρ,0,e,e'=>by simp at e e';subst e e';exact .refl _
 |none::_,_::_,0,_,e=>by simp at e
 |some _::_,none::_,0,e,_=>by simp at e
 |o::σ,none::ρ,i+1,e,e'=>by rw[aaF,bq,bq];exact bA (by simpa using e) (by simpa using e')
 |some u::σ,some y::ρ,i+1,e,e'=>by rw[aaF];exact((bA (σ:=σ) (by simpa using e) (by simpa using e')).cons _).trans (List.Perm.swap _ _ _)
 |none::σ,some y::ρ,i+1,e,e'=>by rw[aaF];exact bA (by simpa using e) (by simpa using e')
def cS:∀{σ:St}{ρ:DEnv}{i:Nat},i<ρ.length->σ.length=ρ.length->(flat (σ.set i (some v)) (ρ.set i (some x))).Perm ((v,x)::flat σ (ρ.set i none))
 |_,[],_,h,_=>by simp at h
 |[],_::_,_,_,h=>by simp at h
 |o::σ,y::ρ,0,_,_=>by rw[abD,abD,abD,bq];exact .refl _
 |o::σ,none::ρ,i+1,h,h'=>by rw[aaF,aaF,aaF,bq,bq];exact cS (by simpa using h) (by simpa using h')
 |none::σ,some _::ρ,i+1,h,h'=>by rw[aaF,aaF,aaF];exact cS (σ:=σ) (by simpa using h) (by simpa using h')
 |some u::σ,some y::ρ,i+1,h,h'=>by rw[aaF,aaF,aaF];exact((cS (by simpa using h) (by simpa using h')).cons _).trans (List.Perm.swap _ _ _)
def set_self{a:Type}:∀{l:List a}{i:Nat}{x:a},l[i]?=some x->l.set i x=l
 |[],_,_,e=>by simp at e
 |_::_,0,_,e=>by simp at e;subst e;rfl
 |y::l,i+1,x,e=>by rw[aaF,set_self (by simpa using e)]
end
inductive OR where|val (x:OD)|rf (i:Nat)
def stk:List V->List OR->List (V×OD)
 |v::τ,.val x::θ=>(v,x)::stk τ θ
 |_::τ,.rf _::θ=>stk τ θ
 |_,_=>[]
def Al(σ:St):List V->List OR->Prop
 |[],[]=>True
 |_::τ,.val _::θ=>Al σ τ θ
 |v::τ,.rf i::θ=>σ[i]?=some (some v)/\Al σ τ θ
 |_,_=>False
structure Fr where
 σ:St
 ρ:DEnv
 τ:List V
 θ:List OR
def ff(F:List Fr):List (V×OD):=F.flatMap λf=>stk f.τ f.θ++flat f.σ f.ρ
structure Rel (b:Bs)(F:List Fr)(σ:St)(H:Hp)(ρ:DEnv)(τ:List V)(θ:List OR):Prop where
 wf:Wf σ ρ
 al:Al σ τ θ
 wff:∀f∈F,Wf f.σ f.ρ/\Al f.σ f.τ f.θ
 wd:Wd b H (stk τ θ++(flat σ ρ++ff F))
def aJ(ρ:DEnv):OR->Option PyData
 |.val x=>x.dat
 |.rf i=>(ρ[i]?.join).bind OD.dat
section
variable{b:Bs}{F:List Fr}{σ:St}{H H':Hp}{ρ ρ':DEnv}{τ vs:List V}{θ rs:List OR}{v u:V}{r:OR}{x y:OD}{d:PyData}{i:Nat}
def join_some{a:Type}{o:Option (Option a)}{x:a}(h:o.join=some x):o=some (some x):=by
 cases o with
 |none=>cases h
 |some o=>exact congrArg some h
def aE:∀{vs τ:List V}{rs θ:List OR},vs.length=rs.length->stk (vs++τ) (rs++θ)=stk vs rs++stk τ θ
 |[],_,[],_,_=>rfl
 |_::vs,τ,.val _::rs,θ,e=>by simp only[aaK,stk];rw[aE (by simpa using e)]
 |_::vs,τ,.rf _::rs,θ,e=>by simp only[aaK,stk];exact aE (by simpa using e)
 |[],_,_::_,_,e=>by simp at e
 |_::_,_,[],_,e=>by simp at e
def aQ:∀{vs τ:List V}{rs θ:List OR},vs.length=rs.length->(Al σ (vs++τ) (rs++θ) ↔ Al σ vs rs/\Al σ τ θ)
 |[],_,[],_,_=>by simp[Al]
 |_::vs,τ,.val _::rs,θ,e=>by simp only[aaK,Al];exact aQ (by simpa using e)
 |_::vs,τ,.rf _::rs,θ,e=>by simp only[aaK,Al];rw[aQ (by simpa using e),and_assoc]
 |[],_,_::_,_,e=>by simp at e
 |_::_,_,[],_,e=>by simp at e
def Rel.vv(R:Rel b F σ H ρ (vs++v::τ) (rs++r::θ))(e:vs.length=rs.length):Rel b F σ H ρ (v::vs++τ) (r::rs++θ):=by
 obtain⟨c,f⟩:=(aQ e).mp R.al;have a:Al σ [v] [r]/\Al σ τ θ:=(aQ rfl).mp f;refine⟨R.wf,(aQ (vs:=[v]) (rs:=[r]) rfl).mpr ⟨a.1,(aQ e).mpr ⟨c,a.2⟩⟩,R.wff,R.wd.perm ?_⟩;refine acr _ ?_;have g:stk (v::vs++τ) (r::rs++θ)=stk [v] [r]++(stk vs rs++stk τ θ):=by rw[<-aE e,<-aE rfl];rfl
 have h:stk (vs++v::τ) (rs++r::θ)=stk vs rs++(stk [v] [r]++stk τ θ):=by rw[aE e,<-aE (rs:=[r]) rfl];rfl
 rw[g,h,<-aad,<-aad];exact aaY.append_right _
def Rel.tor(R:Rel b F σ H ρ (v::vs++τ) (r::rs++θ))(e:vs.length=rs.length):Rel b F σ H ρ (vs++v::τ) (rs++r::θ):=by
 obtain⟨a,f⟩:=(aQ (vs:=[v]) (rs:=[r]) rfl).mp R.al;obtain⟨j,c⟩:=(aQ e).mp f;refine⟨R.wf,(aQ e).mpr ⟨j,(aQ rfl).mpr ⟨a,c⟩⟩,R.wff,R.wd.perm ?_⟩;refine acr _ ?_;have g:stk (v::vs++τ) (r::rs++θ)=stk [v] [r]++(stk vs rs++stk τ θ):=by rw[<-aE e,<-aE rfl];rfl
 have h:stk (vs++v::τ) (rs++r::θ)=stk vs rs++(stk [v] [r]++stk τ θ):=by rw[aE e,<-aE (rs:=[r]) rfl];rfl
 rw[g,h,<-aad,<-aad];exact aaY.append_right _
def Rel.drop(R:Rel b F σ H ρ (v::τ) (r::θ)):Rel b F σ H ρ τ θ:=by
 cases r with
 |val x=>exact⟨R.wf,R.al,R.wff,R.wd.drop⟩
 |rf i=>exact⟨R.wf,R.al.2,R.wff,R.wd⟩
def Rel.drops(R:Rel b F σ H ρ (vs++τ) (rs++θ))(e:vs.length=rs.length):Rel b F σ H ρ τ θ:=by
 induction vs generalizing rs with
 |nil=>cases rs with
  |nil=>exact R
  |cons _ _=>simp at e
 |cons v vs a=>cases rs with
  |nil=>simp at e
  |cons r rs=>exact a (Rel.drop R) (by simpa using e)
def Rel.sc(R:Rel b F σ H ρ τ θ)(h:Sc v d):Rel b F σ H ρ (v::τ) (.val (.fz d)::θ):=⟨R.wf,R.al,R.wff,R.wd.sc h⟩
def Rel.slot(R:Rel b F σ H ρ τ θ)(e:ρ[i]?=some (some x)):∃v,σ[i]?=some (some v)/\Wd b H ((v,x)::(stk τ θ++(flat σ (ρ.set i none)++ff F))):=by obtain⟨v,a⟩:=R.wf.get e;refine⟨v,a,R.wd.perm ?_⟩;refine((bA e a).append_right _ |>.append_left _).trans ?_;exact aas
def Rel.u4(c:Wf σ ρ)(e:Al (σ.set i (some v)) τ θ)(a:∀f∈F,Wf f.σ f.ρ/\Al f.σ f.τ f.θ)(g:i<ρ.length)(w:Wd b H ((v,x)::(stk τ θ++(flat σ (ρ.set i none)++ff F)))):Rel b F (σ.set i (some v)) H (ρ.set i (some x)) τ θ:=by refine⟨c.put,e,a,w.perm ?_⟩;refine(aas.symm).trans ?_;exact((cS g c.len).symm.append_right _).append_left _
def Rel.back(c:Wf σ ρ)(g:Al σ τ θ)(a:∀f∈F,Wf f.σ f.ρ/\Al f.σ f.τ f.θ)(ev:σ[i]?=some (some v))(w:Wd b H ((v,x)::(stk τ θ++(flat σ (ρ.set i none)++ff F)))):Rel b F σ H (ρ.set i (some x)) τ θ:=by
 have h:i<ρ.length:=by rw[<-c.len];exact(aar.mp ev).1
 have e:σ.set i (some v)=σ:=set_self ev;have:=Rel.u4 c (by rw[e];exact g) a h w;rw[e]at this;exact this
def Rel.dt(R:Rel b F σ H ρ (v::τ) (r::θ))(e:aJ ρ r=some d):Dt b.K H v d:=by
 cases r with
 |val x=>exact R.wd.memDt (by simp[stk]) e
 |rf i=>
  simp only[aJ,aaL]at e;obtain⟨x,c,f⟩:=e;obtain⟨u,a,w⟩:=R.drop.slot (join_some c);have:v=u:=by have:=R.al.1;rw[a]at this;cases this;rfl
  subst this;exact w.memDt (aai) f
def Rel.dt2(R:Rel b F σ H ρ (u::v::τ) (a::r::θ))(e:aJ ρ r=some d):Dt b.K H v d:=(R.drop).dt e
def Rel.frzS(R:Rel b F σ H ρ τ θ)(e:ρ[i]?=some (some x))(c:x.dat=some d):Rel b F σ H (ρ.set i (some (.fz d))) τ θ:=by obtain⟨v,a,w⟩:=R.slot e;exact Rel.back R.wf R.al R.wff a (w.frz c)
def Rel.dupS(R:Rel b F σ H ρ τ θ)(e:ρ[i]?=some (some (.fz d)))(ev:σ[i]?=some (some v)):Rel b F σ H ρ (v::τ) (.val (.fz d)::θ):=by obtain⟨u,a,w⟩:=R.slot e;rw[ev]at a;cases a;have f:=w.dup;have c:ρ.set i (some (.fz d))=ρ:=set_self e;have:=Rel.back (i:=i) (τ:=v::τ) (θ:=.val (.fz d)::θ) R.wf R.al R.wff ev (f.perm (List.Perm.swap _ _ _));rw[c]at this;exact this
def frz1(ρ:DEnv):OR->Option (PyData×DEnv)
 |.val x=>x.dat.map (·,ρ)
 |.rf i=>(ρ[i]?.join).bind λx=>x.dat.map λd=>(d,ρ.set i (some (.fz d)))
def Rel.frz1(R:Rel b F σ H ρ (v::τ) (r::θ))(e:frz1 ρ r=some (d,ρ')):Rel b F σ H ρ' (v::τ) (.val (.fz d)::θ):=by
 cases r with
 |val x=>simp only[L2.frz1,aaJ]at e;obtain⟨f,a,c⟩:=e;cases c;exact⟨R.wf,R.al,R.wff,R.wd.frz a⟩
 |rf i=>simp only[L2.frz1,aaL,aaJ]at e;obtain⟨x,a,f,c,g⟩:=e;cases g;have h:i<ρ.length:=(aar.mp (join_some a)).1;exact(R.drop.frzS (join_some a) c).dupS (by rw[aaR h]) R.al.1
def frzL(ρ:DEnv):List OR->Option (List PyData×DEnv)
 |[]=>some ([],ρ)
 |r::rs=>(L2.frz1 ρ r).bind λz=>(frzL z.2 rs).map λy=>(z.1::y.1,y.2)
def ku:∀{vs:List V}{rs:List OR}{ρ ρ':DEnv}{ds:List PyData}{τ:List V}{θ:List OR},Rel b F σ H ρ (vs++τ) (rs++θ)->vs.length=rs.length->L2.frzL ρ rs=some (ds,ρ')->Rel b F σ H ρ' (vs++τ) (ds.map (λd=>OR.val (.fz d))++θ)/\vs.length=ds.length
 |[],[],_,_,_,_,_,R,_,e=>by simp only[L2.frzL]at e;cases e;exact⟨R,rfl⟩
 |v::vs,r::rs,ρ,ρ',ds,τ,θ,R,e,h=>by
  simp only[L2.frzL,aaL,aaJ]at h;obtain⟨⟨d,ρ1⟩,k,⟨l,ρ2⟩,g,f⟩:=h;cases f;have j:Rel b F σ H ρ1 (v::(vs++τ)) (.val (.fz d)::(rs++θ)):=Rel.frz1 R k;have c:vs.length=rs.length:=by simpa using e
  obtain⟨m,a⟩:=ku (Rel.tor j c) c g;exact⟨Rel.vv m (by rw[a,aaa]),by simp[a]⟩
 |[],_::_,_,_,_,_,_,_,e,_=>by simp at e
 |_::_,[],_,_,_,_,_,_,e,_=>by simp at e
end
end
section
section
variable{X:Cx}
def DB(K:Waa):R2:=λx y H Q=>∃l b a c,x=.ref l/\y=.ref b/\SqL K H l a/\SqL K H b c/\a.length+c.length<=sizeLine/\∀p,H p=none->Q (.ref p) (upd H p (.lst (a++c)))
def xh:OpR X (binaryOp .Add) (DB X.K):=by
 intro o s Y H x y v u Q I w C h;obtain⟨l,b,S,P,rfl,rfl,B,z,N,q⟩:=h;cases w;cases C;obtain⟨d,r,⟨⟨c,L,U,J⟩,n,e,m,_,t⟩,_⟩:=I.list B;obtain⟨a,p,⟨⟨O,i,A,j⟩,D,k,g,_,f⟩,_⟩:=I.list z;have T:=r.length;have W:=p.length;simp only at m t g f;subst m t g f;refine concat_meets ⟨_,e,rfl⟩ ⟨_,k,rfl⟩ noFill_list_add seq_list_add PySem.F.slot_list_add PySem.F.entry_list_add (PySem.F.args_list_add_2 _ _) (list_addW l b d.toArray a.toArray n D L i J j (by rw[aau,aau];omega)) ⟨e,k,?_⟩;have M:d.toArray++a.toArray=(d++a).toArray:=by simp
 rw[M];exact⟨.ref _,_,I.lnew (r.append p) (by rw[aal];omega),rfl,q _ I.fresh⟩
end
abbrev DK:=OR->DEnv->Prop
abbrev DE:=DEnv->DK->Prop
abbrev DT:=DEnv->(Bool->DEnv->Prop)->Prop
abbrev DA:=DEnv->(List OR->DEnv->Prop)->Prop
abbrev DR2:=PyData->PyData->(PyData->Prop)->Prop
abbrev DR1:=PyData->(PyData->Prop)->Prop
abbrev DRn:=List PyData->(PyData->Prop)->Prop
def cI(K:Waa)(i:TE)(h:DE):Prop:=∀(b:Bs) (F:List Fr) (c:St) (H:Hp) (e:DEnv) (g:List V) (d:List OR) (Qd:DK) (Q:VK),b.K=K->Rel b F c H e g d->h e Qd->(∀v f r a,Rel b F c f a (v::g) (r::d)->Qd r a->Q v f)->i c H Q
def SndT(K:Waa)(i:TT)(h:DT):Prop:=∀(b:Bs) (F:List Fr) (c:St) (H:Hp) (e:DEnv) (g:List V) (d:List OR) (Qd:Bool->DEnv->Prop) (Q:Bool->Hp->Prop),b.K=K->Rel b F c H e g d->h e Qd->(∀k f a,Rel b F c f a g d->Qd k a->Q k f)->i c H Q
def tR(K:Waa)(k:TA)(j:DA):Prop:=∀(b:Bs) (F:List Fr) (e:St) (H:Hp) (g:DEnv) (i:List V) (f:List OR) (Qd:List OR->DEnv->Prop) (Q:List V->Hp->Prop),b.K=K->Rel b F e H g i f->j g Qd->(∀d h c a,d.length=c.length->Rel b F e h a (d++i) (c++f)->Qd c a->Q d h)->k e H Q
inductive PDe (X:Cx)(e:Expr)(de:DE):Prop|mk (te:TE) (h:PE X e te) (s:cI X.K te de)
inductive PDt (X:Cx)(e:Expr)(de:DT):Prop|mk (te:TT) (h:PT X e te) (s:SndT X.K te de)
inductive PDw (X:Cx)(e:Expr)(de:DT):Prop|mk (te:TT) (h:PW X e te) (s:SndT X.K te de)
inductive PDa (X:Cx)(es:List Expr)(de:DA):Prop|mk (te:TA) (h:PA X es te) (s:tR X.K te de)
section
variable{X:Cx}{K:Waa}{a b c e:Expr}{es:List Expr}{da db dc:DE}{pos:Pos}{x:Str}{i:Nat}
def dVar(i:Nat):DE:=λf Q=>match f[i]?.join with
 |some (.fz d)=>Q (.val (.fz d)) f
 |some _=>Q (.rf i) f
 |none=>False
def xi:cI K (tVar i) (dVar i):=by
 intro b F l H j o m n Q p R h q;unfold dVar at h;cases e:j[i]?.join with
 |none=>rw[e]at h;exact h.elim
 |some x=>
  rw[e]at h;have k:=join_some e;obtain⟨v,g⟩:=R.wf.get k;have f:n (.rf i) j->tVar i l H Q:=λh=>⟨v,g,q v H (.rf i) j ⟨R.wf,show Al l (v::o) (.rf i::m) from ⟨g,R.al⟩,R.wff,R.wd⟩ h⟩
  cases x with
  |fz d=>exact⟨v,g,q v H _ j (R.dupS k g) h⟩
  |_=>exact f h
def AS(g:X.N[i]?=some x) (h:Vis X.env.scope x) (f:(x==("__debug__":Str))=false:=by decide) (d:(x==("__classdict__":Str))=false:=by decide):PDe X (.Name x pos) (dVar i):=⟨_,aZ g h f d,xi⟩
def dC(d:PyData):DE:=λf Q=>Q (.val (.fz d)) f
def tS(h:Sc v d):cI K (tC v) (dC d):=λb F n H f m j l Q k R g q=>q v H _ f (R.sc h) g
def pd_int{i j pos}:PDe X (.Constant (.int i) j pos) (dC (.int i)):=⟨_,f6,tS (.int i)⟩
def pd_bl{k j pos}:PDe X (.Constant (.bool k) j pos) (dC (.bool k)):=⟨_,CZ,tS (.bl k)⟩
def pd_str{x j pos}:PDe X (.Constant (.str x) j pos) (dC (.str x)):=⟨_,z5,tS (.str x)⟩
def Rel.addK{b:Bs}(R:Rel b F σ H ρ τ θ)(h:∀S H,Fz b.K S H v d):Rel b F σ H ρ (v::τ) (.val (.fz d)::θ):=⟨R.wf,R.al,R.wff,R.wd.add λS _ _ _=>h S H⟩
def tT(j:Gl X x) (h:X.mg x=some u) (r:RelV v u) (s:∀S H,Fz X.K S H v d) (f:(x==("__debug__":Str))=false:=by decide):PDe X (.Name x pos) (dC d):=
 ⟨_,wH j h r f,λb F o H g n l m Q k R f q=>q v H _ g (R.addK (by rw[k];exact s)) f⟩
def SndR2(K:Waa)(h:R2)(r:DR2):Prop:=∀(H:Hp) (v u:V) (f g:PyData) (Qd:PyData->Prop) (Q:VK),Dt K H v f->Dt K H u g->r f g Qd->(∀w d,Sc w d->Qd d->Q w H)->h v u H Q
def xj(r:DR2)(a b:DE):DE:=λk Q=>a k λx g=>b g λy f=>∃h j,aJ f x=some h/\aJ f y=some j/\r h j λd=>Q (.val (.fz d)) f
def nO(o:SndR2 K r2 r)(B:cI K ta da)(t:cI K tb db):cI K (y6 r2 ta tb) (xj r da db):=by intro b F l H A O I S Q f R h q;refine B b F l H A O I _ _ f R h λv J x g D M=>t b F l J g _ _ _ _ f D M λu k y L j C=>?_;obtain⟨n,P,p,s,m⟩:=C;exact o k v u n P _ _ (f▸j.dt2 p) (f▸j.dt s) m λw d z N=>q w k _ _ (j.drop.drop.sc z) N
def DD(f:OpR X (binaryOp op) r2)(d:SndR2 X.K r2 r):PDe X a da->PDe X b db->PDe X (.BinOp a op b pos) (xj r da db)
 |⟨_,h1,s1⟩,⟨_,h2,s2⟩=>⟨_,y8 f h1 h2,nO d s1 s2⟩
def dI(C:Int->Int->Prop)(g:Int->Int->PyData):DR2:=λx y Q=>∃i j,x=.int i/\y=.int j/\C i j/\Q (g i j)
def HJ(g:Int->Int->PyData):DR2:=λx y Q=>∃i j,x=.int i/\y=.int j/\Q (g i j)
def xk(h:∀i j,Sc (g i j) (g' i j)):SndR2 K (rI C g) (dI C g'):=by rintro H v u l n m Q f k ⟨i,j,rfl,rfl,c,d⟩ q;cases f;cases k;exact⟨i,j,rfl,rfl,c,q _ _ (h i j) d⟩
def tU(h:∀i j,Sc (g i j) (g' i j)):SndR2 K (wC g) (HJ g'):=by rintro H v u l n m Q f k ⟨i,j,rfl,rfl,d⟩ q;cases f;cases k;exact⟨i,j,rfl,rfl,q _ _ (h i j) d⟩
def AU(g:OpR X (compareOp op) r2)(d:SndR2 X.K r2 r)(f:behindInMarks op b=false):PDe X a da->PDe X b db->PDe X (.Compare a [op] [b] pos) (xj r da db)
 |⟨_,h1,s1⟩,⟨_,h2,s2⟩=>⟨_,j8 g h1 h2 f,nO d s1 s2⟩
def xl{g:Int->Int->Bool}:SndR2 K (wC λi j=>.bl (g i j)) (HJ λi j=>.bool (g i j)):=tU λ_ _=>.bl _
def rQ:PyData->PyData->Option Bool
 |.int i,.int j=>some (decide (i=j))
 |.bool i,.bool j=>some (decide (i=j))
 |.str i,.str j=>some (decide (i=j))
 |.none,.none=>some true
 |.none,.int _=>some false|.int _,.none=>some false|.none,.str _=>some false|.str _,.none=>some false
 |.int _,.str _=>some false|.str _,.int _=>some false
 |_,_=>none
def oU(f:Dt K H v dx)(d:Dt K H u dy)(e:rQ dx dy=some k):Au v u=true/\decide (v=u)=k:=by cases f<;>cases d<;>cases e<;>refine⟨rfl,?_⟩<;>simp
def dEqS:DR2:=λx y Q=>∃k,rQ x y=some k/\Q (.bool k)
def dNeS:DR2:=λx y Q=>∃k,rQ x y=some k/\Q (.bool (!k))
def sr_eq:SndR2 K rEq dEqS:=by rintro H v u l n m Q g h ⟨k,e,f⟩ q;obtain⟨j,d⟩:=oU g h e;exact⟨j,by rw[d];exact q _ _ (.bl k) f⟩
def sr_ne:SndR2 K rNe dNeS:=by rintro H v u l n m Q g h ⟨k,e,f⟩ q;obtain⟨j,d⟩:=oU g h e;exact⟨j,by rw[d];exact q _ _ (.bl _) f⟩
def dEqD:DR2:=λx y Q=>SeqAt.shaped x=true/\SeqAt.shaped y=true/\Q (.bool (PyData.eqv x y))
def dNeD:DR2:=λx y Q=>SeqAt.shaped x=true/\SeqAt.shaped y=true/\Q (.bool (!PyData.eqv x y))
def AV:SndR2 K (Dr K) dEqD:=λH v u f h m Q j l ⟨k,d,g⟩ q=>⟨f,h,j,l,k,d,q _ _ (.bl _) g⟩
def AW:SndR2 K (Ds K) dNeD:=λH v u f h m Q j l ⟨k,d,g⟩ q=>⟨f,h,j,l,k,d,q _ _ (.bl _) g⟩
def DF:PyData->PyData->Option Bool
 |.int i,.int j=>some (decide (i=j))
 |.str i,.str j=>some (decide (i=j))
 |.none,.none=>some true
 |.int _,.str _=>some false|.str _,.int _=>some false|.none,.int _=>some false|.int _,.none=>some false|.none,.str _=>some false|.str _,.none=>some false
 |_,_=>none
def memD(x:PyData):List PyData->Option Bool
 |[]=>some false
 |y::ys=>(DF y x).bind λk=>(memD x ys).map (k||·)
def CO:PyData->Bool
 |.int _=>true
 |.str _=>true
 |.none=>true
 |_=>false
def Ir(neg:Bool):DR2:=λx y Q=>∃d k,(y=.list d\/y=.tuple d)/\CO x=true/\memD x d=some k/\Q (.bool (if neg then !k else k))
def xm{x y:PyData}(f:Dt K H v x)(d:Dt K H w y)(e:DF y x=some k):cL w=true/\eqV w v=k:=by cases f<;>cases d<;>cases e<;>exact⟨rfl,rfl⟩
def AX{x:PyData}(f:Dt K H v x)(d:CO x=true):cL v=true:=by cases f<;>first|rfl|cases d
def oV{x:PyData}(f:Dt K H v x)(p:CO x=true)(h:DtAll K H vs ds)(e:memD x ds=some k):cL v=true/\vs.all cL=true/\inV v vs=k:=by
 induction ds generalizing vs k with
 |nil=>cases h;cases e;exact⟨AX f p,rfl,rfl⟩
 |cons d ds o=>
  cases h with
  |@cons w _ vs _ r t=>
   obtain⟨y,n,e⟩:=aaL.mp e;obtain⟨u,q,rfl⟩:=aaJ.mp e;obtain⟨s,l,g⟩:=o t q;obtain⟨j,m⟩:=xm f r n;refine⟨s,?_,?_⟩
   ·show (cL w&&vs.all cL)=true;rw[j,l];rfl
   ·show (eqV w v||inV v vs)=_;rw[m,g]
def zj:SndR2 K (Gs K neg) (Ir neg):=by
 rintro H v u s y w Q o m ⟨r,k,p,l,n,j⟩ q;rcases p with rfl|rfl
 ·cases m with
  |lst h t=>obtain⟨g,f,d⟩:=oV o l t n;exact⟨_,_,rfl,.inl h,g,f,by rw[d];exact q _ _ (.bl _) j⟩
 ·cases m with
  |tup h t=>obtain⟨g,f,d⟩:=oV o l t n;exact⟨_,_,rfl,.inr h,g,f,by rw[d];exact q _ _ (.bl _) j⟩
def isNn:PyData->Bool|.none=>true|_=>false
def rR(neg:Bool)(a:DE):DE:=λg Q=>a g λx f=>∃d,aJ f x=some d/\Q (.val (.fz (.bool (if neg then !isNn d else isNn d)))) f
def ig(h:Dt K H v d):decide (v=.non)=isNn d:=by cases h<;>simp[isNn]
def AY{j pos'}:PDe X a da->PDe X (.Compare a [.Is] [.Constant .none j pos'] pos) (rR false da)
 |⟨_,f,s1⟩=>⟨_,j5 (sH f),λb F σ H ρ τ θ m Q l R h q=>s1 b F σ H ρ τ θ _ _ l R h λv k x ρ1 g ⟨d,e,f⟩=>by
  rw[ig (g.dt e)];exact q _ k _ _ (g.drop.sc (.bl _)) f⟩
def xn{j pos'}:PDe X a da->PDe X (.Compare a [.IsNot] [.Constant .none j pos'] pos) (rR true da)
 |⟨_,f,s1⟩=>⟨_,j5 (oG f),λb F σ H ρ τ θ m Q l R h q=>s1 b F σ H ρ τ θ _ _ l R h λv k x ρ1 g ⟨d,e,f⟩=>by
  rw[ig (g.dt e)];exact q _ k _ _ (g.drop.sc (.bl _)) f⟩
def Iu(r:DR1)(a:DE):DE:=λg Q=>a g λx f=>∃d,aJ f x=some d/\r d λz=>Q (.val (.fz z)) f
def Gz:DR1:=λx Q=>∃i,x=.int i/\Q (.int (-i))
def AZ:PDe X a da->PDe X (.UnaryOp .USub a pos) (Iu Gz da)
 |⟨_,f,s1⟩=>⟨_,y9 sS f,λb F σ H ρ τ θ m Q l R h q=>s1 b F σ H ρ τ θ _ _ l R h λv k x ρ1 g ⟨d,e,i,j,f⟩=>by
  subst j;cases g.dt e;exact⟨i,rfl,q _ k _ _ (g.drop.sc (.int _)) f⟩⟩
def DH(a b:DE):DE:=λf Q=>a f λx d=>∃k,aJ d x=some (.bool k)/\if k=true then b d Q else Q (.val (.fz (.bool false))) d
def GA(a b:DE):DE:=λf Q=>a f λx d=>∃k,aJ d x=some (.bool k)/\if k=true then Q (.val (.fz (.bool true))) d else b d Q
def DJ(a:DE):DE:=λf Q=>a f λx d=>∃k,aJ d x=some (.bool k)/\Q (.val (.fz (.bool (!k)))) d
def tV{d}:PDe X a da->PDe X (.BoolOp d [a] pos) da
 |⟨_,h1,s1⟩=>⟨_,z9 h1,s1⟩
def A6:PDe X a da->PDe X (.BoolOp .And (b::es) pos) db->PDe X (.BoolOp .And (a::b::es) pos) (DH da db)
 |⟨_,d,s1⟩,⟨_,h2,s2⟩=>⟨_,Aa d h2,λb F σ H ρ τ θ l Q j R h q=>s1 b F σ H ρ τ θ _ _ j R h λv g x ρ1 f ⟨k,e,d⟩=>by
  cases f.dt e;refine⟨k,rfl,?_⟩;cases k with
  |false=>rw[if_neg aaf]at d ⊢;exact q _ g _ _ (f.drop.sc (.bl _)) d
  |true=>rw[if_pos rfl]at d ⊢;exact s2 b F σ g ρ1 τ θ _ _ j f.drop d q⟩
def DL:PDe X a da->PDe X (.BoolOp .Or (b::es) pos) db->PDe X (.BoolOp .Or (a::b::es) pos) (GA da db)
 |⟨_,d,s1⟩,⟨_,h2,s2⟩=>⟨_,C5 d h2,λb F σ H ρ τ θ l Q j R h q=>s1 b F σ H ρ τ θ _ _ j R h λv g x ρ1 f ⟨k,e,d⟩=>by
  cases f.dt e;refine⟨k,rfl,?_⟩;cases k with
  |true=>rw[if_pos rfl]at d ⊢;exact q _ g _ _ (f.drop.sc (.bl _)) d
  |false=>rw[if_neg aaf]at d ⊢;exact s2 b F σ g ρ1 τ θ _ _ j f.drop d q⟩
def A7:PDe X a da->PDe X (.UnaryOp .Not a pos) (DJ da)
 |⟨_,d,s1⟩=>⟨_,Ab d,λb F σ H ρ τ θ l Q j R h q=>s1 b F σ H ρ τ θ _ _ j R h λv g x ρ1 f ⟨k,e,d⟩=>by
  cases f.dt e;exact⟨k,rfl,q _ g _ _ (f.drop.sc (.bl _)) d⟩⟩
def gM(a:DE):DT:=λf Q=>a f λx d=>∃k,aJ d x=some (.bool k)/\Q k d
def iJ(s1:cI K ta da):SndT K (zd ta) (gM da):=λb F p H f o g r Q m R h q=>s1 b F p H f o g _ _ m R h λv j x n d ⟨k,e,l⟩=>by cases d.dt e;exact⟨k,rfl,q _ j _ d.drop l⟩
def nP(s1:cI K ta da):SndT K (tB ta) (gM da):=λb F p H f o g r Q m R h q=>s1 b F p H f o g _ _ m R h λv j x n d ⟨k,e,l⟩=>by cases d.dt e;exact⟨k,rfl,q _ j _ d.drop l⟩
def xo(g:OpR X (compareOp op) r2)(d:SndR2 X.K r2 r)(f:behindInMarks op b=false):PDe X a da->PDe X b db->PDt X (.Compare a [op] [b] pos) (gM (xj r da db))
 |⟨_,h1,s1⟩,⟨_,h2,s2⟩=>⟨_,j9 g h1 h2 f,iJ (nO d s1 s2)⟩
def xp{j pos'}:PDe X a da->PDt X (.Compare a [.Is] [.Constant .none j pos'] pos) (gM (rR false da))
 |⟨_,f,s1⟩=>⟨_,j6 (sH f),nP (λb F σ H ρ τ θ m Q l R h q=>s1 b F σ H ρ τ θ _ _ l R h λv k x ρ1 g ⟨d,e,f⟩=>by
  rw[ig (g.dt e)];exact q _ k _ _ (g.drop.sc (.bl _)) f)⟩
def tW{j pos'}:PDe X a da->PDt X (.Compare a [.IsNot] [.Constant .none j pos'] pos) (gM (rR true da))
 |⟨_,f,s1⟩=>⟨_,j6 (oG f),nP (λb F σ H ρ τ θ m Q l R h q=>s1 b F σ H ρ τ θ _ _ l R h λv k x ρ1 g ⟨d,e,f⟩=>by
  rw[ig (g.dt e)];exact q _ k _ _ (g.drop.sc (.bl _)) f)⟩
def DM(t u:DT):DT:=λf Q=>t f λc d=>if c=true then u d Q else Q false d
def GB(t u:DT):DT:=λf Q=>t f λc d=>if c=true then Q true d else u d Q
def DN(t:DT):DT:=λf Q=>t f λc d=>Q (!c) d
variable{dt du:DT}
def PDw.pt:PDw X e dt->PDt X e dt
 |⟨_,h,s⟩=>⟨_,h.pt,s⟩
def tX:PDt X a dt->PDw X (.BoolOp .And [a] pos) dt
 |⟨_,h,s⟩=>⟨_,wJ h,s⟩
def xq:PDt X a dt->PDw X (.BoolOp .Or [a] pos) dt
 |⟨_,h,s⟩=>⟨_,z6 h,s⟩
def xu:PDt X a dt->PDw X (.BoolOp .And (b::es) pos) du->PDw X (.BoolOp .And (a::b::es) pos) (DM dt du)
 |⟨_,d,s1⟩,⟨_,h2,s2⟩=>⟨_,z7 d h2,λb F σ H ρ τ θ l Q j R h q=>s1 b F σ H ρ τ θ _ _ j R h λk g ρ1 f d=>by
  cases k with
  |false=>rw[if_neg aaf]at d ⊢;exact q _ g _ f d
  |true=>rw[if_pos rfl]at d ⊢;exact s2 b F σ g ρ1 τ θ _ _ j f d q⟩
def A8:PDt X a dt->PDw X (.BoolOp .Or (b::es) pos) du->PDw X (.BoolOp .Or (a::b::es) pos) (GB dt du)
 |⟨_,d,s1⟩,⟨_,h2,s2⟩=>⟨_,C1 d h2,λb F σ H ρ τ θ l Q j R h q=>s1 b F σ H ρ τ θ _ _ j R h λk g ρ1 f d=>by
  cases k with
  |true=>rw[if_pos rfl]at d ⊢;exact q _ g _ f d
  |false=>rw[if_neg aaf]at d ⊢;exact s2 b F σ g ρ1 τ θ _ _ j f d q⟩
def xw:PDt X a dt->PDt X (.UnaryOp .Not a pos) (DN dt)
 |⟨_,h,s⟩=>⟨_,z8 h,λb F σ H ρ τ θ l Q d R h q=>s b F σ H ρ τ θ _ _ d R h λk f ρ1 j g=>q _ f _ j g⟩
def Iw(t:DT)(a b:DE):DE:=λf Q=>t f λc d=>if c=true then a d Q else b d Q
def DP:PDt X c dt->PDe X a da->PDe X b db->PDe X (.IfExp c a b pos) (Iw dt da db)
 |⟨_,h,s⟩,⟨_,d,s1⟩,⟨_,h2,s2⟩=>⟨_,lI h d h2,λb F σ H ρ τ θ l Q f R h q=>s b F σ H ρ τ θ _ _ f R h λk g ρ1 j d=>by
  cases k with
  |true=>rw[if_pos rfl]at d ⊢;exact s1 b F σ g ρ1 τ θ _ _ f j d q
  |false=>rw[if_neg aaf]at d ⊢;exact s2 b F σ g ρ1 τ θ _ _ f j d q⟩
def DtAll.emp(h:DtAll K H xs ds):xs.isEmpty=ds.isEmpty:=by cases h<;>rfl
end
end
section
section
variable{X:Cx}{K:Waa}{a b c e:Expr}{es:List Expr}{da db dc:DE}{dt:DA}{pos:Pos}{x:Str}
def dNil:DA:=λd Q=>Q [] d
def DQ(a:DE)(t:DA):DA:=λh Q=>a h λx d=>t d λg f=>Q (x::g) f
def pda_nil:PDa X [] dNil:=⟨_,bo,λb F k H d j f i Q g R h q=>q [] H [] d rfl R h⟩
def tY(m:starEach (e::es) X.env=(false,eval e X.env)::starEach es X.env:=by rfl):PDe X e da->PDa X es dt->PDa X (e::es) (DQ da dt)
 |⟨_,g,s1⟩,⟨_,d,s2⟩=>⟨_,aO g d m,λb F l H p y t A Q k R h q=>s1 b F l H p y t _ _ k R h λv u r i s g=>s2 b F l u i _ _ _ _ k s g λn o w f j z d=>
  q (v::n) o (r::w) f (by simp[j]) (Rel.vv z j) d⟩
end
def own1(ρ:DEnv):OR->Option (OD×DEnv)
 |.val x=>some (x,ρ)
 |.rf i=>(frz1 ρ (.rf i)).map λz=>(.fz z.1,z.2)
def mv1(ρ:DEnv):OR->Option (OD×DEnv)
 |.val x=>some (x,ρ)
 |.rf i=>(ρ[i]?.join).map λx=>(x,ρ.set i none)
def mapR(f:DEnv->OR->Option (OD×DEnv))(ρ:DEnv):List OR->Option (List OD×DEnv)
 |[]=>some ([],ρ)
 |r::rs=>(f ρ r).bind λz=>(mapR f z.2 rs).map λy=>(z.1::y.1,y.2)
def tZ:List OD->Option (List PyData)
 |[]=>some []
 |.fz d::xs=>match tZ xs with|some ds=>some (d::ds)|none=>none
 |_::_=>none
def mkTup(xs:List OD):OD:=match tZ xs with
 |some a=>.fz (.tuple a)
 |none=>.tup xs
section
variable{b:Bs}{F:List Fr}{σ:St}{H H':Hp}{ρ ρ':DEnv}{τ vs:List V}{θ rs:List OR}{v u:V}{r:OR}{x y:OD}{d:PyData}{ds:List PyData}{i:Nat}{L:List (V×OD)}{p:Addr}
def Rel.own1(R:Rel b F σ H ρ (v::τ) (r::θ))(e:own1 ρ r=some (x,ρ')):Rel b F σ H ρ' (v::τ) (.val x::θ):=by
 cases r with
 |val x=>simp only[L2.own1]at e;cases e;exact R
 |rf i=>simp only[L2.own1,aaJ]at e;obtain⟨⟨d,c⟩,a,f⟩:=e;cases f;exact R.frz1 a
def Rel.mv1(R:Rel b F σ H ρ (v::τ) (r::θ))(e:mv1 ρ r=some (x,ρ')):Rel b F σ H ρ' (v::τ) (.val x::θ):=by
 cases r with
 |val x=>simp only[L2.mv1]at e;cases e;exact R
 |rf i=>
  simp only[L2.mv1,aaJ]at e;obtain⟨x,c,f⟩:=e;cases f;obtain⟨u,a,w⟩:=R.drop.slot (join_some c);have:v=u:=by have:=R.al.1;rw[a]at this;cases this;rfl
  subst this;exact⟨R.wf.off,R.drop.al,R.wff,w⟩
def fv{f:DEnv->OR->Option (OD×DEnv)}(c:∀{ρ ρ':DEnv}{τ:List V}{θ:List OR}{v:V}{r:OR}{x:OD},Rel b F σ H ρ (v::τ) (r::θ)->f ρ r=some (x,ρ')->Rel b F σ H ρ' (v::τ) (.val x::θ)):
  ∀{vs:List V}{rs:List OR}{ρ ρ':DEnv}{xs:List OD}{τ:List V}{θ:List OR},Rel b F σ H ρ (vs++τ) (rs++θ)->vs.length=rs.length->mapR f ρ rs=some (xs,ρ')->Rel b F σ H ρ' (vs++τ) (xs.map OR.val++θ)/\vs.length=xs.length
 |[],[],_,_,_,_,_,R,_,e=>by simp only[mapR]at e;cases e;exact⟨R,rfl⟩
 |v::vs,r::rs,ρ,ρ',ds,τ,θ,R,e,h=>by
  simp only[mapR,aaL,aaJ]at h;obtain⟨⟨d,ρ1⟩,m,⟨n,ρ2⟩,k,j⟩:=h;cases j;have l:Rel b F σ H ρ1 (v::(vs++τ)) (.val d::(rs++θ)):=c R m;have g:vs.length=rs.length:=by simpa using e
  obtain⟨o,a⟩:=fv c (Rel.tor (vs:=vs) (rs:=rs) l g) g k;exact⟨Rel.vv o (by rw[a,aaa]),by simp[a]⟩
 |[],_::_,_,_,_,_,_,_,e,_=>by simp at e
 |_::_,[],_,_,_,_,_,_,e,_=>by simp at e
def cB:∀{vs:List V}{xs:List OD},vs.length=xs.length->stk vs (xs.map OR.val)=vs.zip xs
 |[],[],_=>rfl
 |_::_,_::_,e=>by simp only[aaj,stk,abC];rw[cB (by simpa using e)]
 |[],_::_,e=>by simp at e
 |_::_,[],e=>by simp at e
def Rel.vals{xs:List OD}(R:Rel b F σ H ρ (vs++τ) (xs.map OR.val++θ))(e:vs.length=xs.length):Wd b H (vs.zip xs++(stk τ θ++(flat σ ρ++ff F))):=by have w:=R.wd;rw[aE (by rw[aaa];exact e),cB e,aad]at w;exact w
def Rel.push(R:Rel b F σ H ρ τ θ)(w:Wd b H' ((v,x)::(stk τ θ++(flat σ ρ++ff F)))):Rel b F σ H' ρ (v::τ) (.val x::θ):=⟨R.wf,R.al,R.wff,w⟩
def Wd.below{z:V×OD}{L1 L2:List (V×OD)}(w:Wd b H (z::(L1++L2))):Wd b H (z::L2):=Wd.drops (L1:=L1) (w.perm (aas.symm))
def fzL_map{xs:List OD}{ds:List PyData}(e:tZ xs=some ds):xs=ds.map OD.fz:=by
 induction xs generalizing ds with
 |nil=>cases e;rfl
 |cons x xs a=>
  cases x with
  |fz d=>
   rw[tZ]at e;cases h:tZ xs with
   |none=>rw[h]at e;cases e
   |some ds=>rw[h]at e;cases e;rw[a h];rfl
  |_=>cases e
def gh:∀(ds:List PyData),tZ (ds.map OD.fz)=some ds
 |[]=>rfl
 |d::ds=>by simp only[aaj,tZ,gh ds]
def dats_fz:∀(ds:List PyData),OD.dv (ds.map OD.fz)=some ds
 |[]=>rfl
 |d::ds=>by simp only[aaj,OD.dv,OD.dat,dats_fz ds]
def l7{xs:List OD}(w:Wd b H (vs.zip xs++L))(c:vs.length=xs.length)(a:H p=none):Wd b (upd H p (.tup vs)) ((.ref p,mkTup xs)::L):=by
 unfold mkTup;cases h:tZ xs with
 |some ds=>have g:=fzL_map h;subst g;refine Wd.below (L1:=vs.zip (ds.map OD.fz)) (w.i9 (λS e=>e.all (by simpa using c) λz f=>aae _ f) a)
 |none=>exact w.newTupC c a
end
section
variable{X:Cx}{K:Waa}{a b c e:Expr}{es:List Expr}{da db dc:DE}{dt:DA}{pos:Pos}{x:Str}
def GC(f:DEnv->OR->Option (OD×DEnv))(t:DA):DE:=λj Q=>t j λh g=>∃i d,mapR f g h=some (i,d)/\h.length<=1000000/\Q (.val (mkTup i)) d
def GD(f:DEnv->OR->Option (OD×DEnv))(t:DA):DE:=λj Q=>t j λh g=>∃i d,mapR f g h=some (i,d)/\h.length<=1000000/\Q (.val (.lst i)) d
structure Hand (f:DEnv->OR->Option (OD×DEnv)):Prop where
 ok:∀{b:Bs}{F:List Fr}{σ:St}{H:Hp}{ρ ρ':DEnv}{τ:List V}{θ:List OR}{v:V}{r:OR}{x:OD},Rel b F σ H ρ (v::τ) (r::θ)->f ρ r=some (x,ρ')->Rel b F σ H ρ' (v::τ) (.val x::θ)
def DR:Hand own1:=⟨Rel.own1⟩
variable{f:DEnv->OR->Option (OD×DEnv)}
def A9{o}(r:Hand f):PDa X es dt->PDe X (.Tuple es o pos) (GC f dt)
 |⟨_,g,s1⟩=>⟨_,iz g,λb F σ H ρ τ θ t Q s R h q=>s1 b F σ H ρ τ θ _ _ s R h λvs u rs ρ1 i n ⟨xs,ρ2,k,l,g⟩=>⟨nK (by rw[i];exact l),λp m=>by
  obtain⟨j,d⟩:=fv r.ok n i k;exact q _ _ _ _ ((j.drops (by rw[aaa];exact d)).push (l7 (j.vals d) d m)) g⟩⟩
def Ba(o:Hand f):PDa X es dt->PDe X (.List es pos) (GD f dt)
 |⟨_,g,s1⟩=>⟨_,kb g,λb F σ H ρ τ θ s Q r R h q=>s1 b F σ H ρ τ θ _ _ r R h λvs t rs ρ1 i n ⟨xs,ρ2,k,l,g⟩=>⟨nK (by rw[i];exact l),λp m=>by
  obtain⟨j,d⟩:=fv o.ok n i k;exact q _ _ _ _ ((j.drops (by rw[aaa];exact d)).push ((j.vals d).eu d m)) g⟩⟩
end
def dW(ρ:DEnv):OR->Option OD
 |.val x=>some x
 |.rf i=>ρ[i]?.join
def listOf:OD->Option (List PyData)
 |.fz (.list ds)=>some ds
 |.lst xs=>tZ xs
 |_=>none
def gP:OD->Option (List PyData)
 |.fz (.tuple ds)=>some ds
 |_=>none
def zk(ρ:DEnv)(r:OR):Option (List PyData):=(dW ρ r).bind listOf
def itemO:OD->Int->Option OD
 |.fz (.list ds),i=>match atI ds i with|some d=>some (.fz d)|none=>none
 |.fz (.tuple ds),i=>match atI ds i with|some d=>some (.fz d)|none=>none
 |.lst xs,i=>atI xs i
 |.tup xs,i=>atI xs i
 |_,_=>none
def itemS:OD->Int->Option (PyData×OD)
 |.lst xs,i=>match ixN xs.length i with
  |some k=>match xs[k]? with
   |some c=>match c.dat with|some d=>some (d,.lst (xs.set k (.fz d)))|none=>none
   |none=>none
  |none=>none
 |.tup xs,i=>match ixN xs.length i with
  |some k=>match xs[k]? with
   |some c=>match c.dat with|some d=>some (d,.tup (xs.set k (.fz d)))|none=>none
   |none=>none
  |none=>none
 |_,_=>none
def bu(ρ:DEnv)(r:OR)(i:Int):Option (OD×DEnv):=match r with
 |.val x=>match itemO x i with|some y=>some (y,ρ)|none=>none
 |.rf j=>match ρ[j]?.join with
  |some x=>match itemS x i with|some (d,y)=>some (.fz d,ρ.set j (some y))|none=>none
  |none=>none
section
variable{b:Bs}{F:List Fr}{σ:St}{H H':Hp}{ρ ρ':DEnv}{τ vs:List V}{θ rs:List OR}{v u:V}{r r':OR}{x y:OD}{d:PyData}{ds:List PyData}{i:Nat}{L:List (V×OD)}{p:Addr}
def iK{f a:Type}{xs:List f}{ys:List a}{i:Int}{y:a}(g:xs.length=ys.length)(h:atI ys i=some y):∃k x,ixN xs.length i=some k/\ys[k]?=some y/\xs[k]?=some x/\atI xs i=some x:=by unfold atI at h ⊢;rw[<-g]at h;simp only[aaL]at h;obtain⟨k,c,e⟩:=h;have j:k<ys.length:=(aar.mp e).1;refine⟨k,xs[k]'(by omega),c,e,aap _,?_⟩;rw[c];exact aap _
def cM{c a:Type}{xs:List c}{ys:List a}{k:Nat}{x:c}{y:a}(e:xs[k]?=some x)(f:ys[k]?=some y):(x,y)∈xs.zip ys:=by rw[List.mem_iff_getElem?];exact⟨k,by rw[List.getElem?_zip_eq_some];exact⟨e,f⟩⟩
def Wd.pick{z:V×OD}{Z:List (V×OD)}(w:Wd b H (Z++L))(m:z∈Z):Wd b H (z::L):=by obtain⟨a,c,rfl⟩:=List.append_of_mem m;refine Wd.below (L1:=a++c) (w.perm ?_);rw[aad,aad];exact aas
def t9{n k:Nat}{i:Int}(h:ixN n i=some k):k<n:=by
 unfold ixN at h;split at h
 ·split at h
  ·cases h;omega
  ·cases h
 ·split at h
  ·cases h;omega
  ·cases h
def Wd.ua{k:Nat}{z:OD}(w:Wd b H ((v,x)::L))(e:x.kids[k]?=some z):∃u,Chd b H v x k u z/\Wd b H ((u,z)::L):=by
 obtain⟨I,q,_,_⟩:=w.out;cases q with
 |cons r t=>obtain⟨u,B,C,c,_⟩:=r.kid e;refine⟨u,c,Wd.puts (L1:=[(v,x)]) (L2:=[(u,z)]) w λS A h o l J n=>?_⟩;obtain⟨D,B,C,m,j,f,_⟩:=(OwL.one h).kid e;have s:D=u:=(Chd.det m c).1;subst s;have a:∀c∈B,c∈A:=λc g=>f.mem_iff.mpr (aae _ g);exact⟨B,OwL.of1 (Ow.sub n (λc z=>z.elim (·.1) λz=>l c (a c z)) j),(aaA.mp (f.nodup_iff.mp o)).1,a⟩
def Wd.itemF{i:Int}{l:Bool}(w:Wd b H ((v,.fz (if l then .list ds else .tuple ds))::L))(e:atI ds i=some d):∃p vs u,v=.ref p/\(SqL b.K H p vs\/SqT b.K H p vs)/\atI vs i=some u/\Wd b H ((u,.fz d)::L):=by
 obtain⟨c,n⟩:=Wd.pin w rfl;obtain⟨a,rfl,g,h,o⟩:=n.pinned aai;obtain⟨k,u,_,j,m,f⟩:=iK g e;refine⟨a,c,u,rfl,?_,f,Wd.below (L1:=[(V.ref a,OD.pin l c ds)]) (o.pick (cM m (by rw[aav,j];rfl)))⟩;cases l with
 |true=>exact .inl h
 |false=>exact .inr h
def Wd.itemO{i:Int}(w:Wd b H ((v,x)::L))(e:itemO x i=some y):∃p vs u,v=.ref p/\(SqL b.K H p vs\/SqT b.K H p vs)/\atI vs i=some u/\Wd b H ((u,y)::L):=by
 cases x with
 |fz d=>
  cases d with
  |list ds=>
   simp only[L2.itemO]at e;cases h:atI ds i with
   |none=>rw[h]at e;cases e
   |some d=>rw[h]at e;cases e;exact Wd.itemF (l:=true) w h
  |tuple ds=>
   simp only[L2.itemO]at e;cases h:atI ds i with
   |none=>rw[h]at e;cases e
   |some d=>rw[h]at e;cases e;exact Wd.itemF (l:=false) w h
  |_=>simp[L2.itemO]at e
 |lst xs=>
  simp only[L2.itemO]at e;obtain⟨k,_,a,f,_⟩:=iK (xs:=xs) rfl e;obtain⟨u,c,g⟩:=w.ua (k:=k) (z:=y) f;cases c with
  |lst m n j o=>exact⟨_,_,u,rfl,.inl (SqL.of m),by unfold atI;rw[n,a];exact j,g⟩
 |tup xs=>
  simp only[L2.itemO]at e;obtain⟨k,_,a,f,_⟩:=iK (xs:=xs) rfl e;obtain⟨u,c,g⟩:=w.ua (k:=k) (z:=y) f;cases c with
  |tup m n j o=>exact⟨_,_,u,rfl,.inr (SqT.of m),by unfold atI;rw[n,a];exact j,g⟩
 |dic _ _=>simp[L2.itemO]at e
 |obj _ _ _=>simp[L2.itemO]at e
 |pin _ _ _=>simp[L2.itemO]at e
 |hole _=>simp[L2.itemO]at e
def Wd.itemS{i:Int}(w:Wd b H ((v,x)::L))(e:itemS x i=some (d,y)):∃p vs u,v=.ref p/\(SqL b.K H p vs\/SqT b.K H p vs)/\atI vs i=some u/\Wd b H ((u,.fz d)::(v,y)::L):=by
 cases x with
 |fz d=>simp[L2.itemS]at e
 |lst t=>
  simp only[L2.itemS]at e;split at e
  ·rename_i k g;split at e
   ·rename_i c a;split at e
    ·rename_i s j;cases e;obtain⟨u,l,f⟩:=w.u2 (ks:=[k]) (y:=c) (d:=d) (by simp[OD.at,OD.kids,a]) j;cases l with
     |cons m h=>
      cases h;cases m with
      |lst o q n z=>simp only[OD.put,OD.kids,a,OD.ej]at f;exact⟨_,_,u,rfl,.inl (SqL.of o),by unfold atI;rw[q,g];exact n,f⟩
    ·cases e
   ·cases e
  ·cases e
 |tup t=>
  simp only[L2.itemS]at e;split at e
  ·rename_i k g;split at e
   ·rename_i c a;split at e
    ·rename_i s j;cases e;obtain⟨u,l,f⟩:=w.u2 (ks:=[k]) (y:=c) (d:=d) (by simp[OD.at,OD.kids,a]) j;cases l with
     |cons m h=>
      cases h;cases m with
      |tup o q n z=>simp only[OD.put,OD.kids,a,OD.ej]at f;exact⟨_,_,u,rfl,.inr (SqT.of o),by unfold atI;rw[q,g];exact n,f⟩
    ·cases e
   ·cases e
  ·cases e
 |dic _ _=>simp[L2.itemS]at e
 |obj _ _ _=>simp[L2.itemS]at e
 |pin _ _ _=>simp[L2.itemS]at e
 |hole _=>simp[L2.itemS]at e
end
section
variable{X:Cx}{K:Waa}{a b c e:Expr}{es:List Expr}{da db dc:DE}{dt:DA}{pos:Pos}{x:Str}
def Iy(a b:DE):DE:=λh Q=>a h λx g=>b g λy d=>∃i z f,aJ d y=some (.int i)/\bu d x i=some (z,f)/\Q (.val z) f
def DU(f:PlainIx b):PDe X a da->PDe X b db->PDe X (.Subscript a b pos) (Iy da db)
 |⟨_,B,s1⟩,⟨_,r,s2⟩=>⟨_,th nz B r f,λb F σ H ρ τ θ U Q s R h q=>s1 b F σ H ρ τ θ _ _ s R h λv O x ρ1 N B=>s2 b F σ O ρ1 _ _ _ _ s N B λu t y ρ2 I ⟨i,z,ρ3,J,g,r⟩=>by
  have S:=I.dt J;cases S;have l:=I.drop;cases x with
  |val x=>
   simp only[bu]at g;cases k:itemO x i with
   |none=>rw[k]at g;cases g
   |some D=>rw[k]at g;cases g;obtain⟨p,m,u,rfl,f,o,w⟩:=Wd.itemO l.wd k;have n:=q u t _ _ (l.drop.push w) r;rw[s]at f;exact f.elim (λf=>.inl ⟨p,m,i,u,rfl,rfl,f,o,n⟩) λf=>.inr (.inl ⟨p,m,i,u,rfl,rfl,f,o,n⟩)
  |rf j=>
   simp only[bu]at g;cases k:ρ2[j]?.join with
   |none=>rw[k]at g;cases g
   |some x=>
    rw[k]at g;simp only at g;cases A:itemS x i with
    |none=>rw[A]at g;cases g
    |some D=>
     obtain⟨d,T⟩:=D;rw[A]at g;cases g;obtain⟨P,C,w⟩:=l.drop.slot (join_some k);have:v=P:=by have:=l.al.1;rw[C]at this;cases this;rfl
     subst this;obtain⟨p,m,u,rfl,f,o,L⟩:=Wd.itemS w A;have M:Rel b F σ t (ρ2.set j (some T)) (u::τ) (.val (.fz d)::θ):=Rel.back (τ:=u::τ) (θ:=.val (.fz d)::θ) l.wf l.drop.al l.wff C (L.perm (List.Perm.swap _ _ _));have n:=q u t _ _ M r;rw[s]at f;exact f.elim (λf=>.inl ⟨p,m,i,u,rfl,rfl,f,o,n⟩) λf=>.inr (.inl ⟨p,m,i,u,rfl,rfl,f,o,n⟩)⟩
variable{k:Nat}{f:Addr}{fd:FuncData}{ps:List Str}{sp:DSp}{p:Pos}
def iL(ρ:DEnv):List OR->Option (List PyData)
 |[]=>some []
 |r::rs=>(aJ ρ r).bind λd=>(iL ρ rs).map (d::·)
def Rel.dtL{b:Bs}{F:List Fr}{σ:St}{H:Hp}{ρ:DEnv}:∀{vs:List V}{rs:List OR}{τ:List V}{θ:List OR}{ds:List PyData},Rel b F σ H ρ (vs++τ) (rs++θ)->vs.length=rs.length->iL ρ rs=some ds->DtAll b.K H vs ds
 |[],[],_,_,_,_,_,e=>by simp only[iL]at e;cases e;exact .nil
 |v::vs,r::rs,τ,θ,ds,R,el,e=>by simp only[iL,aaL,aaJ]at e;obtain⟨d,h,g,i,rfl⟩:=e;exact .cons (Rel.dt R h) (Rel.dtL (Rel.drop R) (by simpa using el) i)
 |[],_::_,_,_,_,_,e,_=>by simp at e
 |_::_,[],_,_,_,_,e,_=>by simp at e
def SndCB(K:Waa)(h:List V->Hp->VK->Prop)(r:DRn):Prop:=∀(H:Hp) (vs:List V) (g:List PyData) (Qd:PyData->Prop) (Q:VK),DtAll K H vs g->r g Qd->(∀w d,Sc w d->Qd d->Q w H)->h vs H Q
def FQ(r:DRn)(t:DA):DE:=λj Q=>t j λi g=>∃h,iL g i=some h/\r h λd=>Q (.val (.fz d)) g
def uc{n:List V->Hp->VK->Prop}{r:DRn}{g:TA}(s:SndCB K n r)(s1:tR K g dt):cI K (Gr n g) (FQ r dt):=λb F I H y D z J Q m R h q=>s1 b F I H y D z _ _ m R h λt j L C l i ⟨o,u,A⟩=>
 s j t o _ _ (m▸i.dtL l u) A λw d v B=>q w j _ _ ((i.drops l).sc v) B
def dX{i:List V->Hp->VK->Prop}{r:DRn}{h:String} (s:bZ X (.builtin h) i) (n:SndCB X.K i r) (m:Gl X x) (l:X.mg x=none) (q:bootBuiltins x=some (.builtin h)) (j:x≠"__name__":=by decide) (d:(x==("__debug__":Str))=false:=by decide)
  (o:starEach (e::es) X.env=(false,eval e X.env)::starEach es X.env:=by rfl) (g:(backTo pos (starEach es X.env)).any (·.1)=false:=by rfl):PDa X (e::es) dt->PDe X (.Call (.Name x p) (e::es) [] pos) (FQ r dt)
 |⟨_,h1,s1⟩=>⟨_,cA s m l q h1 j d o g,uc n s1⟩
def ud{i:List V->Hp->VK->Prop}{r:DRn}{h:String} (s:bZ X (.type h) i) (n:SndCB X.K i r) (m:Gl X x) (l:X.mg x=none) (q:bootBuiltins x=some (.type h)) (j:x≠"__name__":=by decide) (d:(x==("__debug__":Str))=false:=by decide)
  (o:starEach (e::es) X.env=(false,eval e X.env)::starEach es X.env:=by rfl) (g:(backTo pos (starEach es X.env)).any (·.1)=false:=by rfl):PDa X (e::es) dt->PDe X (.Call (.Name x p) (e::es) [] pos) (FQ r dt)
 |⟨_,h1,s1⟩=>⟨_,gf s m l q h1 j d o g,uc n s1⟩
def iM:PyData->Option Nat
 |.list ds=>some ds.length
 |.tuple ds=>some ds.length
 |_=>none
def dLen:DRn:=λg Q=>∃d n,g=[d]/\iM d=some n/\Q (.int n)
def sc_len:SndCB K (λxs H Q=>∃x n,xs=[x]/\Dj K x H n/\Q (.int n) H) dLen:=by
 rintro H m j l Q g ⟨d,n,rfl,e,i⟩ q;cases g with
 |cons h t=>
  cases t;refine⟨_,n,rfl,?_,q _ _ (.int _) i⟩;cases h with
  |lst s t=>simp only[iM]at e;cases e;exact .inl ⟨_,s,t.length.symm⟩
  |tup s t=>simp only[iM]at e;cases e;exact .inr ⟨_,s,t.length.symm⟩
  |_=>simp[iM]at e
def dAbs:DRn:=λd Q=>∃i,d=[.int i]/\Q (.int (if i<0 then -i else i))
def sc_abs:SndCB K (λxs H Q=>∃i,xs=[.int i]/\Q (.int (if i<0 then -i else i)) H) dAbs:=by rintro H m j l Q g ⟨i,rfl,d⟩ q;cases g with|cons h t=>cases t;cases h;exact⟨i,rfl,q _ _ (.int _) d⟩
def dMax:DRn:=λd Q=>∃i j,d=[.int i,.int j]/\Q (.int (if j>i then j else i))
def sc_max:SndCB K (λxs H Q=>∃i j,xs=[.int i,.int j]/\Q (.int (if j>i then j else i)) H) dMax:=by rintro H o m n Q l ⟨i,j,rfl,d⟩ q;cases l with|cons h t=>cases t with|cons g t=>cases t;cases h;cases g;exact⟨i,j,rfl,q _ _ (.int _) d⟩
def dMin:DRn:=λd Q=>∃i j,d=[.int i,.int j]/\Q (.int (if j<i then j else i))
def sc_min:SndCB K (λxs H Q=>∃i j,xs=[.int i,.int j]/\Q (.int (if j<i then j else i)) H) dMin:=by rintro H o m n Q l ⟨i,j,rfl,d⟩ q;cases l with|cons h t=>cases t with|cons g t=>cases t;cases h;cases g;exact⟨i,j,rfl,q _ _ (.int _) d⟩
def toInt:PyData->Option Int
 |.int i=>some i
 |.bool k=>some (if k then 1 else 0)
 |_=>none
def dInt:DRn:=λg Q=>∃d i,g=[d]/\toInt d=some i/\Q (.int i)
def sc_int:SndCB K (λxs H Q=>(∃i,xs=[.int i]/\Q (.int i) H)\/∃k,xs=[.bl k]/\Q (.int (if k then 1 else 0)) H) dInt:=by
 rintro H o m n Q l ⟨d,i,rfl,e,g⟩ q;cases l with
 |cons h t=>
  cases t;cases h with
  |int j=>simp only[toInt]at e;cases e;exact .inl ⟨_,rfl,q _ _ (.int _) g⟩
  |bl k=>simp only[toInt]at e;cases e;exact .inr ⟨_,rfl,q _ _ (.int _) g⟩
  |_=>simp[toInt]at e
def allB:List PyData->Option (List Bool)
 |[]=>some []
 |.bool k::ds=>(allB ds).map (k::·)
 |_::_=>none
def l8:∀{ds:List PyData}{d:List Bool},allB ds=some d->ds=d.map PyData.bool
 |[],_,e=>by simp only[allB]at e;cases e;rfl
 |.bool k::ds,_,e=>by simp only[allB,aaJ]at e;obtain⟨d,g,rfl⟩:=e;rw[l8 g];rfl
 |.none::_,_,e=>by simp[allB]at e
 |.int _::_,_,e=>by simp[allB]at e
 |.str _::_,_,e=>by simp[allB]at e
 |.list _::_,_,e=>by simp[allB]at e
 |.tuple _::_,_,e=>by simp[allB]at e
 |.dict _::_,_,e=>by simp[allB]at e
def DtAll.bls{H:Hp}{vs:List V}{d:List Bool}(h:DtAll K H vs (d.map PyData.bool)):vs=d.map V.bl:=by
 induction d generalizing vs with
 |nil=>cases h;rfl
 |cons n i g=>cases h with|cons r t=>cases r;rw[aaj,g t]
def dAll:DRn:=λg Q=>∃es d,g=[.list es]/\allB es=some d/\Q (.bool (d.all id))
def sc_all:SndCB K (λxs H Q=>∃(p:Addr) (d:List Bool),xs=[.ref p]/\SqL K H p (d.map V.bl)/\Q (.bl (d.all id)) H) dAll:=by
 rintro H m j l Q i ⟨es,d,rfl,e,g⟩ q;have:=l8 e;subst this;cases i with
 |cons h t=>
  cases t;cases h with
  |lst s t=>rw[t.bls]at s;exact⟨_,d,rfl,s,q _ _ (.bl _) g⟩
end
end
section
def seqOf(x:OD):Option (List PyData):=match listOf x with
 |some a=>some a
 |none=>gP x
section
variable{b:Bs}{F:List Fr}{σ:St}{H H':Hp}{ρ ρ':DEnv}{τ vs:List V}{θ rs:List OR}{v u:V}{r r':OR}{x y:OD}{d:PyData}{ds:List PyData}{i:Nat}{L:List (V×OD)}{p:Addr}
def Rel.mem(R:Rel b F σ H ρ (v::τ) (r::θ))(e:dW ρ r=some x):(v,x)∈stk (v::τ) (r::θ)++(flat σ ρ++ff F):=by
 cases r with
 |val y=>simp only[dW]at e;cases e;simp[stk]
 |rf i=>simp only[dW]at e;refine aac _ (aae _ ?_);exact(bA (join_some e) R.al.1).mem_iff.mpr aai
def Rel.mem1(R:Rel b F σ H ρ (u::v::τ) (r'::r::θ))(e:dW ρ r=some x):(v,x)∈stk (u::v::τ) (r'::r::θ)++(flat σ ρ++ff F):=by
 have h:=R.drop.mem e;cases r' with
 |val y=>simp only[stk];exact aah _ h
 |rf i=>exact h
def Rel.ry(R:Rel b F σ H ρ (u::v::τ) (r'::r::θ)):Rel b F σ H ρ (u::τ) (r'::θ):=(Rel.vv (vs:=[u]) (rs:=[r']) R rfl).drop
def Ows.fzs(h:Ows b S H vs (ds.map OD.fz) A):FzA b.K S H vs ds:=by
 induction ds generalizing vs A with
 |nil=>cases h;exact .nil
 |cons d ds a=>cases h with|cons r t=>cases r with|fz f=>exact .cons f (a t)
def Wd.exp(w:Wd b H L)(g:OwL b (λa=>a∈A\/b.S0 a) H L A)(e:A.Nodup)(c:∀a∈A,b.H0 a=none\/b.C a)(h:FzA b.K (λa=>a∈A\/b.S0 a) H vs ds):Wd b H (vs.zip (ds.map OD.fz)++L):=by
 have q:∀{vs:List V}{ds:List PyData},FzA b.K (λa=>a∈A\/b.S0 a) H vs ds->OwL b (λa=>a∈A\/b.S0 a) H (vs.zip (ds.map OD.fz)) []:=by
  intro vs;induction vs with
  |nil=>intro ds h;cases h;exact .nil
  |cons v vs f=>intro ds h;cases h with|cons r t=>exact Ows.cons (.fz r) (f t)
 exact⟨⟨A,OwL.kv (q h) g,e,c⟩,w.fr,w.s0,w.nt⟩
def Wd.ay(w:Wd b H L)(m:(v,x)∈L)(e:listOf x=some ds):∃a vs,v=.ref a/\vs.length=ds.length/\SqL b.K H a vs/\Wd b H (vs.zip (ds.map OD.fz)++L):=by
 obtain⟨A,j,k,c⟩:=w.out;obtain⟨B,h⟩:=OwL.mem j m;cases h with
 |@fz _ d f=>
  cases d with
  |list o=>simp only[listOf]at e;cases e;obtain⟨a,vs,rfl,n,g⟩:=f.ro;exact⟨a,vs,rfl,g.length,n.now,w.exp j k c g⟩
  |_=>simp[listOf]at e
 |@lst a vs xs A' e1 t=>simp only[listOf]at e;have l:=fzL_map e;subst l;have g:=Ows.fzs t;exact⟨a,vs,rfl,g.length,SqL.of e1,w.exp j k c g⟩
 |_=>simp[listOf]at e
def Wd.i8(w:Wd b H L)(m:(v,x)∈L)(e:gP x=some ds):∃a vs,v=.ref a/\vs.length=ds.length/\SqT b.K H a vs/\Wd b H (vs.zip (ds.map OD.fz)++L):=by
 obtain⟨A,j,k,c⟩:=w.out;obtain⟨B,h⟩:=OwL.mem j m;cases h with
 |@fz _ d f=>
  cases d with
  |tuple n=>simp only[gP]at e;cases e;obtain⟨a,vs,rfl,l,g⟩:=f.r8;exact⟨a,vs,rfl,g.length,l.now,w.exp j k c g⟩
  |_=>simp[gP]at e
 |_=>simp[gP]at e
def Wd.r4(w:Wd b H L)(m:(v,x)∈L)(e:seqOf x=some ds):∃a vs,v=.ref a/\vs.length=ds.length/\(SqL b.K H a vs\/SqT b.K H a vs)/\Wd b H (vs.zip (ds.map OD.fz)++L):=by
 unfold seqOf at e;cases h:listOf x with
 |some z=>rw[h]at e;cases e;obtain⟨a,vs,j,g,f,c⟩:=w.ay m h;exact⟨a,vs,j,g,.inl f,c⟩
 |none=>rw[h]at e;obtain⟨a,vs,j,g,f,c⟩:=w.i8 m e;exact⟨a,vs,j,g,.inr f,c⟩
def Rel.eu(R:Rel b F σ H ρ τ θ){Z:List (V×OD)}(w:Wd b H (Z++(stk τ θ++(flat σ ρ++ff F))))(c:vs.length=ds.length)(m:∀z∈vs.zip (ds.map OD.fz),z∈Z++(stk τ θ++(flat σ ρ++ff F)))(g:H p=none):
  Rel b F σ (upd H p (.lst vs)) ρ (.ref p::τ) (.val (.lst (ds.map OD.fz))::θ):=by
 obtain⟨A,e,f,a⟩:=w.out;have h:=Wd.exp w e f a ((OwL.wj e).all c m);exact R.push (Wd.below (Wd.eu h (by simpa using c) g))
def Rel.i9(R:Rel b F σ H ρ τ θ){Z:List (V×OD)}(w:Wd b H (Z++(stk τ θ++(flat σ ρ++ff F))))(e:vs.length=ds.length)(m:∀z∈vs.zip (ds.map OD.fz),z∈Z++(stk τ θ++(flat σ ρ++ff F)))(c:H p=none):
  Rel b F σ (upd H p (.tup vs)) ρ (.ref p::τ) (.val (.fz (.tuple ds))::θ):=R.push (Wd.below (w.i9 (λS a=>a.all e m) c))
end
section
variable{X:Cx}{K:Waa}{a b c e:Expr}{es:List Expr}{da db dc:DE}{dt:DA}{pos p:Pos}{x:Str}
def xx(t:DA):DE:=λh Q=>t h λg d=>∃r f,g=[r]/\(dW d r).bind seqOf=some f/\Q (.val (.lst (f.map OD.fz))) d
def rS(A:Gl X x) (M:X.mg x=none) (P:bootBuiltins x=some (.type "list")) (D:x≠"__name__":=by decide) (f:(x==("__debug__":Str))=false:=by decide)
  (J:starEach (e::es) X.env=(false,eval e X.env)::starEach es X.env:=by rfl) (g:(backTo pos (starEach es X.env)).any (·.1)=false:=by rfl):PDa X (e::es) dt->PDe X (.Call (.Name x p) (e::es) [] pos) (xx dt)
 |⟨_,i,s1⟩=>⟨_,gf kh A M P i D f J g,λb F S H y O I U Q m R h q=>s1 b F S H y O I _ _ m R h λn W Y N j d ⟨r,T,o,t,i⟩=>by
  subst o;obtain⟨z,C,B⟩:=aaL.mp t
  match n,j with
  |[v],_=>
   obtain⟨a,u,rfl,j,k,w⟩:=d.wd.r4 (d.mem C) B;rw[m]at k;exact⟨a,u,rfl,k,λl L=>q _ _ _ _ (Rel.ry (d.eu w j (λz s=>aae _ s) L)) i⟩⟩
def Bb(t:DA):DE:=λh Q=>t h λg d=>∃r f,g=[r]/\(dW d r).bind listOf=some f/\Q (.val (.fz (.tuple f))) d
def ue(A:Gl X x) (M:X.mg x=none) (P:bootBuiltins x=some (.type "tuple")) (D:x≠"__name__":=by decide) (f:(x==("__debug__":Str))=false:=by decide)
  (J:starEach (e::es) X.env=(false,eval e X.env)::starEach es X.env:=by rfl) (g:(backTo pos (starEach es X.env)).any (·.1)=false:=by rfl):PDa X (e::es) dt->PDe X (.Call (.Name x p) (e::es) [] pos) (Bb dt)
 |⟨_,i,s1⟩=>⟨_,gf jt A M P i D f J g,λb F S H y O I U Q m R h q=>s1 b F S H y O I _ _ m R h λn W Y N j d ⟨r,T,o,t,i⟩=>by
  subst o;obtain⟨z,C,B⟩:=aaL.mp t
  match n,j with
  |[v],_=>
   obtain⟨a,u,rfl,j,k,w⟩:=d.wd.ay (d.mem C) B;rw[m]at k;exact⟨a,u,rfl,.inl ⟨k,λl L=>q _ _ _ _ (Rel.ry (d.i9 w j (λz s=>aae _ s) L)) i⟩⟩⟩
def GE(a b:DE):DE:=λh Q=>a h λx g=>b g λy d=>∃f es,zk d x=some f/\zk d y=some es/\f.length+es.length<=1000000/\Q (.val (.lst ((f++es).map OD.fz))) d
def xy{g f:Type}{xs xs':List g}{ys d:List f}(h:xs.length=ys.length):(xs++xs').zip (ys++d)=xs.zip ys++xs'.zip d:=List.zip_append h
def Bc:PDe X a da->PDe X b db->PDe X (.BinOp a .Add b pos) (GE da db)
 |⟨_,k,s1⟩,⟨_,j,s2⟩=>⟨_,y8 xh k j,λb F σ H ρ τ θ P Q m R h q=>s1 b F σ H ρ τ θ _ _ m R h λv L x ρ1 I k=>s2 b F σ L ρ1 _ _ _ _ m I k λu O y ρ2 g ⟨ds,es,t,A,d,j⟩=>by
  obtain⟨S,D,C⟩:=aaL.mp t;obtain⟨T,N,s⟩:=aaL.mp A;obtain⟨a,B,rfl,r,n,w⟩:=g.wd.ay (g.mem1 D) C;obtain⟨c,J,rfl,i,f,o⟩:=w.ay (aac _ (g.mem N)) s;rw[<-aad]at o;rw[m]at n f;refine⟨a,c,B,J,rfl,rfl,n,f,nK (by omega),λl M=>q _ _ _ _ (Rel.ry (Rel.ry (g.eu o (by simp[r,i]) (λz d=>?_) M))) j⟩;rw[aax,xy (by simpa using r)]at d;refine aae _ ?_;rcases aak.mp d with d|d
  ·exact aac _ d
  ·exact aae _ d⟩
variable{lo hi:Option Expr}{dl dh:DO}{p2:Pos}
end
end
section
structure DEnds where
 nx:DEnv->Prop
 rt:OD->DEnv->Prop
 bk:DEnv->Prop:=λ_=>False
 ct:DEnv->Prop:=λ_=>False
abbrev DS:=DEnds->DEnv->Prop
def NoRf(W:Nat->Prop)(θ:List OR):Prop:=∀r∈θ,(∃x,r=.val x)\/∃j,W j/\r=.rf j
abbrev Ff:Nat->Prop:=λ_=>False
structure EndsOk (b:Bs)(F:List Fr)(τ:List V)(θ:List OR)(Dd:DEnds)(D:Ends):Prop where
 nx:∀σ H ρ,Rel b F σ H ρ τ θ->Dd.nx ρ->D.nx σ H
 bk:∀σ H ρ,Rel b F σ H ρ τ θ->Dd.bk ρ->D.bk σ H
 ct:∀σ H ρ,Rel b F σ H ρ τ θ->Dd.ct ρ->D.ct σ H
 rt:∀σ H ρ v x,Rel b F σ H ρ (v::τ) (.val x::θ)->Dd.rt x ρ->D.rt v H
def DV(K:Waa)(W:Nat->Prop)(ts:TS)(ds:DS):Prop:=∀(b:Bs) (F:List Fr) (f:St) (H:Hp) (c:DEnv) (e:List V) (a:List OR) (d:DEnds) (D:Ends),b.K=K->NoRf W a->Rel b F f H c e a->ds d c->EndsOk b F e a d D->ts D f H
inductive PDs (X:Cx)(W:Nat->Prop)(e:Stmt)(de:DS):Prop|mk (te:TS) (h:PS X e te) (s:DV X.K W te de)
inductive PDss (X:Cx)(W:Nat->Prop)(e:List Stmt)(de:DS):Prop|mk (te:TS) (h:PSs X e te) (s:DV X.K W te de)
section
variable{b:Bs}{F:List Fr}{σ σ':St}{H H':Hp}{ρ ρ':DEnv}{τ vs:List V}{θ rs:List OR}{v u:V}{r r':OR}{x y:OD}{d:PyData}{ds:List PyData}{i:Nat}{L:List (V×OD)}
variable{W:Nat->Prop}
def NoRf.al{o:Option V}(n:NoRf W θ)(f:¬ W i):∀{τ:List V},Al σ τ θ->Al (σ.set i o) τ θ:=by
 induction θ with
 |nil=>intro τ h;cases τ with
  |nil=>trivial
  |cons _ _=>exact h
 |cons r θ c=>
  intro τ h;cases τ with
  |nil=>cases r<;>exact h
  |cons v τ=>
   rcases n r aai with ⟨x,rfl⟩|⟨j,g,rfl⟩
   ·exact c (λr a=>n r (aah _ a)) (τ:=τ) h
   ·refine⟨?_,c (λr a=>n r (aah _ a)) (τ:=τ) h.2⟩;have k:i≠j:=λe=>f (by rw[e];exact g);rw[aaS k];exact h.1
def NoRf.al0(n:NoRf Ff θ):∀{τ:List V},Al σ τ θ->Al σ' τ θ:=by
 induction θ with
 |nil=>intro τ h;cases τ with
  |nil=>trivial
  |cons _ _=>exact h
 |cons r θ e=>
  intro τ h;rcases n r aai with ⟨x,rfl⟩|⟨j,c,rfl⟩
  ·cases τ with
   |nil=>exact h
   |cons v τ=>exact e (λr a=>n r (aah _ a)) (τ:=τ) h
  ·exact c.elim
def NoRf.weak(n:NoRf Ff θ):NoRf W θ:=λr a=>(n r a).imp id λ⟨j,c,_⟩=>c.elim
def NoRf.app(c:NoRf W rs)(n:NoRf W θ):NoRf W (rs++θ):=λr a=>(aak.mp a).elim (c r) (n r)
def Wd.nc{L1 L2:List (V×OD)}(w:Wd b H (L1++(flat σ ρ++L2)))(c:Wf σ ρ)(i:Nat):Wd b H (L1++(flat σ (ρ.set i none)++L2)):=by
 cases e:ρ[i]?.join with
 |none=>
  have:ρ.set i none=ρ:=by
   cases h:ρ[i]? with
   |none=>exact List.set_eq_of_length_le (by simpa using h)
   |some o=>rw[h]at e;have:o=none:=e;subst this;exact set_self h
  rw[this];exact w
 |some x=>have a:=join_some e;obtain⟨v,f⟩:=c.get a;exact Wd.drop (w.perm ((((bA a f).append_right _).append_left _).trans aas))
def Rel.store(R:Rel b F σ H ρ (v::τ) (.val x::θ))(n:NoRf W θ)(c:i<ρ.length)(a:¬ W i):Rel b F (σ.set i (some v)) H (ρ.set i (some x)) τ θ:=by refine Rel.u4 R.wf (n.al a (Rel.drop R).al) R.wff c ?_;exact Wd.nc (L1:=(v,x)::stk τ θ) (ρ:=ρ) R.wd R.wf i
end
section
variable{X:Cx}{W:Nat->Prop}{K:Waa}{a b c e:Expr}{es:List Expr}{sts:List Stmt}{st:Stmt}{da db dc:DE}{dt:DA}{d1 d2:DS}{dT:DT}{pos p:Pos}{x:Str}
def dNext:DS:=λD d=>D.nx d
def GF(t u:DS):DS:=λD f=>∃M:DEnv->Prop,(∀d,M d->u D d)/\t { D with nx:=M } f
def pdss_nil:PDss X W [] dNext:=⟨_,wK,λb F f H d k g j D i n R h E=>E.nx f H d R h⟩
def rT:PDs X W st d1->PDss X W sts d2->PDss X W (st::sts) (GF d1 d2)
 |⟨_,f,s1⟩,⟨_,h2,s2⟩=>⟨_,ip f h2,λb F σ H ρ τ θ i D g n R ⟨M,l,h⟩ E=>s1 b F σ H ρ τ θ _ _ g n R h
  ⟨λd k ρ1 j f=>s2 b F d k ρ1 τ θ i D g n j (l ρ1 f) E,E.bk,E.ct,E.rt⟩⟩
def dCont:DS:=λD d=>D.ct d
def pds_cont:PDs X W (.Continue pos) dCont:=⟨_,lJ,λb F f H d k g j D i n R h E=>E.ct f H d R h⟩
def dBrk:DS:=λD d=>D.bk d
def pds_brk:PDs X W (.Break pos) dBrk:=⟨_,sI,λb F f H d k g j D i n R h E=>E.bk f H d R h⟩
def DW(a:DE):DS:=λD f=>a f λ_ d=>D.nx d
def uf(g:swapsWith e none pos.line X.env=pure false:=by rfl):PDe X e da->PDs X W (.Expr e pos) (DW da)
 |⟨_,h,s⟩=>⟨_,ie h g,λb F f H i q k t D o n R h E=>s b F f H i q k _ _ o R h λv l r d j m=>E.nx f l d j.drop m⟩
def GG(a:DE):DS:=λD g=>a g λr f=>∃x d,mv1 f r=some (x,d)/\D.rt x d
def xA:PDe X e da->PDs X W (.Return (some e) pos) (GG da)
 |⟨_,h,s⟩=>⟨_,Ac h,λb F σ H ρ τ θ j D i n R h E=>s b F σ H ρ τ θ _ _ i R h λv f r ρ1 d ⟨x,ρ2,e,g⟩=>E.rt σ f ρ2 v x (d.mv1 e) g⟩
def GH(c:DT)(t u:DS):DS:=λD f=>c f λk d=>if k=true then t D d else u D d
def Be{s1 f:List Stmt}:PDt X c dT->PDss X W s1 d1->PDss X W f d2->PDs X W (.If c s1 f pos) (GH dT d1 d2)
 |⟨_,h,s⟩,⟨_,d,s1⟩,⟨_,h2,f⟩=>⟨_,C7 h d h2,λb F σ H ρ τ θ l D g n R h E=>s b F σ H ρ τ θ _ _ g R h λk j ρ1 i d=>by
  cases k with
  |true=>rw[if_pos rfl]at d ⊢;exact s1 b F σ j ρ1 τ θ _ _ g n i d E
  |false=>rw[if_neg aaf]at d ⊢;exact f b F σ j ρ1 τ θ _ _ g n i d E⟩
def GI(i:Nat)(a:DE):DS:=λD g=>a g λr f=>∃x d,own1 f r=some (x,d)/\i<d.length/\D.nx (d.set i (some x))
def xB{i:Nat}{pos':Pos}(y:¬ W i)(j:X.N.Nodup)(d:X.N[i]?=some x)(o:Loc X.env.scope x)(f:swapsWith e (some (.Name x pos')) pos.line X.env=pure false:=by rfl)(u:X.fn x=true\/X.env.scope.names.lookup x=some .local:=by first|exact .inl rfl|exact .inr rfl|assumption):
  PDe X e da->PDs X W (.Assign [.Name x pos'] e pos) (GI i da)
 |⟨_,h,s⟩=>⟨_,Ae j d o h f u,λb F B H g A l C D w n R h E=>s b F B H g A l _ _ w R h λv m r z k ⟨x,q,e,d,t⟩=>E.nx _ m _ ((k.own1 e).store n d y) t⟩
def dY:List Nat->List OD->DEnv->DEnv
 |i::is,x::xs,ρ=>dY is xs (ρ.set i (some x))
 |_,_,ρ=>ρ
def Bf(is:List Nat)(t:DA):DS:=λD j=>t j λh g=>∃f d,mapR own1 g h=some (f,d)/\f.length=is.length/\(∀i∈is,i<d.length)/\D.nx (dY is f d)
def ky:List Nat->List V->St->St
 |i::is,v::vs,σ=>ky is vs (σ.set i (some v))
 |_,_,σ=>σ
def Rel.storeAll{W:Nat->Prop}{b:Bs}{F:List Fr}{H:Hp}{τ:List V}{θ:List OR}:∀{is:List Nat}{vs:List V}{xs:List OD}{σ:St}{ρ:DEnv},Rel b F σ H ρ (vs++τ) (xs.map OR.val++θ)->NoRf W θ->vs.length=xs.length->xs.length=is.length->(∀i∈is,i<ρ.length)->(∀i∈is,¬ W i)->Rel b F (ky is vs σ) H (dY is xs ρ) τ θ
 |[],[],[],_,_,R,_,_,_,_,_=>R
 |i::is,v::vs,x::xs,σ,ρ,R,n,e1,e2,h,hw=>by have g:NoRf W (xs.map OR.val++θ):=NoRf.app (λr f=>by obtain⟨x,_,rfl⟩:=aay.mp f;exact .inl ⟨x,rfl⟩) n;show Rel b F (ky is vs (σ.set i (some v))) H (dY is xs (ρ.set i (some x))) τ θ;exact Rel.storeAll (Rel.store (τ:=vs++τ) (θ:=xs.map OR.val++θ) R g (h i aai) (hw i aai)) n (by simpa using e1) (by simpa using e2) (λj d=>by rw[aaN];exact h j (aah _ d)) λj d=>hw j (aah _ d)
 |[],_::_,[],_,_,_,_,e,_,_,_=>by simp at e
 |[],_,_::_,_,_,_,_,_,e,_,_=>by simp at e
 |_::_,[],_::_,_,_,_,_,e,_,_,_=>by simp at e
 |_::_,_,[],_,_,_,_,_,e,_,_=>by simp at e
def len2{d:Type}{l:List d}(h:l.length=2):∃a b,l=[a,b]:=by
 match l,h with
 |[a,b],_=>exact⟨a,b,rfl⟩
def GJ{d:Type}{l:List d}(h:l.length=3):∃a b c,l=[a,b,c]:=by
 match l,h with
 |[a,b,c],_=>exact⟨a,b,c,rfl⟩
def xC{i j:Nat}(Y:∀k∈[i,j],¬ W k){x y:Str}{t l g:Pos}{o m d}(B:X.calm=true)(J:X.N.Nodup)(r:X.N[i]?=some x)(M:X.N[j]?=some y)(q:i≠j)
  (Q:X.env.scope.names.lookup x=some .local) (C:X.env.scope.names.lookup y=some .local)
  (hw:swappedStores [.Tuple [.Name x t,.Name y l] o g] (.Tuple [a,b] m d) X.env=pure (some [x,y]))
  (z:swapsWithSole [.Tuple [.Name x t,.Name y l] o g] (.Tuple [a,b] m d) pos.line X.env=pure false:=by rfl):PDa X [a,b] dt->PDs X W (.Assign [.Tuple [.Name x t,.Name y l] o g] (.Tuple [a,b] m d) pos) (Bf [i,j] dt)
 |⟨_,h,s⟩=>⟨_,Af B J r M q Q C h hw z,λb F A H I τ O Dd D Z n R h E=>s b F A H I τ O _ _ Z R h λvs P rs a0 U L ⟨xs,S,e,f,r,T⟩=>by
  obtain⟨R2,u⟩:=fv Rel.own1 L U e;obtain⟨v,w,rfl⟩:=len2 (u.trans f);exact⟨v,w,rfl,E.nx _ P _ (Rel.storeAll (is:=[i,j]) R2 n u f r Y) T⟩⟩
def ug{i j k:Nat}(hW:∀z∈[i,j,k],¬ W z){x y z:Str}{C l B g:Pos}{o m d}(O:X.calm=true)(S:X.N.Nodup)(A:X.N[i]?=some x)(U:X.N[j]?=some y)(hk:X.N[k]?=some z)(q:i≠j)(t:i≠k)(r:j≠k)
  (hx:X.env.scope.names.lookup x=some .local) (P:X.env.scope.names.lookup y=some .local) (L:X.env.scope.names.lookup z=some .local)
  (hw:swappedStores [.Tuple [.Name x C,.Name y l,.Name z B] o g] (.Tuple [a,b,c] m d) X.env=pure (some [x,y,z]))
  (J:swapsWithSole [.Tuple [.Name x C,.Name y l,.Name z B] o g] (.Tuple [a,b,c] m d) pos.line X.env=pure false:=by rfl):PDa X [a,b,c] dt->PDs X W (.Assign [.Tuple [.Name x C,.Name y l,.Name z B] o g] (.Tuple [a,b,c] m d) pos) (Bf [i,j,k] dt)
 |⟨_,h,s⟩=>⟨_,wY O S A U hk q t r hx P L h hw J,λb F M H Q τ Y Dd D hK n R h E=>s b F M H Q τ Y _ _ hK R h λvs Z rs a1 el T ⟨xs,a0,e,f,A,h1⟩=>by
  obtain⟨R2,I⟩:=fv Rel.own1 T el e;obtain⟨v,w,u,rfl⟩:=GJ (I.trans f);exact⟨v,w,u,rfl,E.nx _ Z _ (Rel.storeAll (is:=[i,j,k]) R2 n I f A hW) h1⟩⟩
abbrev DG:=OD->DEnv->(DEnv->Prop)->Prop
abbrev DGs:=List OD->DEnv->(DEnv->Prop)->Prop
def rV(K:Waa)(W:Nat->Prop)(m:Nat)(g:TG)(o:DG):Prop:=∀(b:Bs) (F:List Fr) (k:St) (H:Hp) (i:DEnv) (n:List V) (h:List OR) (v:V) (x:OD) (Qd:DEnv->Prop) (Q:St->Hp->Prop),b.K=K->NoRf W h->Rel b F k H i (v::n) (.val x::h)->o x i Qd->(∀d l f,Rel b F d l f n h->(∀j,m<=j->d[j]?=k[j]?/\f[j]?=i[j]?)->Qd f->Q d l)->g v k H Q
def DX(K:Waa)(W:Nat->Prop)(m:Nat)(g:TGs)(q:DGs):Prop:=∀(b:Bs) (F:List Fr) (l:St) (H:Hp) (k:DEnv) (o:List V) (i:List OR) (vs:List V) (h:List OD) (Qd:DEnv->Prop) (Q:St->Hp->Prop),b.K=K->NoRf W i->vs.length=h.length->Rel b F l H k (vs++o) (h.map OR.val++i)->q h k Qd->(∀d n f,Rel b F d n f o i->(∀j,m<=j->d[j]?=l[j]?/\f[j]?=k[j]?)->Qd f->Q d n)->g vs l H Q
inductive PDg (X:Cx)(W:Nat->Prop)(m:Nat)(e:Expr)(dg:DG):Prop|mk (te:TG) (h:PG X e te) (s:rV X.K W m te dg)
inductive PDgs (X:Cx)(W:Nat->Prop)(m:Nat)(e:List Expr)(dg:DGs):Prop|mk (te:TGs) (h:CN X e te) (s:DX X.K W m te dg)
def Bg(i:Nat):DG:=λx d Q=>i<d.length/\Q (d.set i (some x))
def dgNil:DGs:=λd f Q=>d=[]/\Q f
def ui(t:DG)(u:DGs):DGs:=λf g Q=>∃x r,f=x::r/\t x g λd=>u r d Q
def unpT:OD->Option (List OD)
 |.fz (.tuple ds)=>some (ds.map OD.fz)
 |.tup xs=>some xs
 |_=>none
def unpL:OD->Option (List OD)
 |.fz (.list ds)=>some (ds.map OD.fz)
 |.lst xs=>some xs
 |_=>none
def DY(n:Nat)(t:DGs):DG:=λx f Q=>∃d,unpT x=some d/\d.length=n/\t d f Q
def DZ(n:Nat)(t:DGs):DG:=λx f Q=>∃d,unpL x=some d/\d.length=n/\t d f Q
variable{m:Nat}{dg:DG}{dgs:DGs}
def l9{i:Nat}(o:¬ W i)(f:X.N.Nodup)(d:X.N[i]?=some x)(k:Loc X.env.scope x)(g:i<m)(l:X.fn x=true\/X.env.scope.names.lookup x=some .local:=by first|exact .inl rfl|exact .inr rfl|assumption):PDg X W m (.Name x pos) (Bg i):=
 ⟨_,j7 f d k l,λb F z H r y t v x u Q w n R ⟨d,h⟩ q=>q _ _ _ (R.store n d o) (λj s=>⟨aaS (by omega),aaS (by omega)⟩) h⟩
def pdgs_nil:PDgs X W m [] dgNil:=⟨_,oH,λb F t H g s l d k o Q r n f R ⟨e,h⟩ q=>by
 subst e;cases d with
 |nil=>exact⟨rfl,q _ _ _ R (λj i=>⟨rfl,rfl⟩) h⟩
 |cons _ _=>simp at f⟩
def gi(z:(assignEach (e::es) X.env).map (·.2)=assign e X.env::(assignEach es X.env).map (·.2):=by rfl):PDg X W m e dg->PDgs X W m es dgs->PDgs X W m (e::es) (ui dg dgs)
 |⟨_,l,s1⟩,⟨_,g,s2⟩=>⟨_,iq l g z,λb F M H B y i d P S Q w n u R ⟨x,r,e,h⟩ q=>by
  subst e;cases d with
  |nil=>simp at u
  |cons v d=>
   have J:NoRf W (r.map OR.val++i):=NoRf.app (λr A=>by obtain⟨x,_,rfl⟩:=aay.mp A;exact .inl ⟨x,rfl⟩) n;exact⟨v,d,rfl,s1 b F M H B (d++y) (r.map OR.val++i) v x _ _ w J R h λk D o C t l=>s2 b F k D o y i d r _ _ w n (by simpa using u) C l λL O I N s g=>
    q _ _ _ N (λj f=>⟨(s j f).1.trans (t j f).1,(s j f).2.trans (t j f).2⟩) g⟩⟩
def Wd.unpT{b:Bs}{H:Hp}{L:List (V×OD)}{v:V}{x:OD}{xs:List OD}(w:Wd b H ((v,x)::L))(e:unpT x=some xs):∃a vs,v=.ref a/\SqT b.K H a vs/\vs.length=xs.length/\Wd b H (vs.zip xs++L):=by
 cases x with
 |fz d=>cases d<;>simp only[L2.unpT]at e<;>cases e;obtain⟨a,vs,rfl,k,g,h⟩:=w.i8 aai (rfl:gP (.fz (.tuple _))=some _);exact⟨a,vs,rfl,g,by simpa using k,Wd.drop (h.perm aas)⟩
 |tup n=>
  simp only[L2.unpT]at e;cases e;obtain⟨l,j,i,f⟩:=w.out;cases j with
  |cons r t=>
   cases r with
   |@tup a vs _ A h1 h2=>exact⟨a,vs,rfl,SqT.of h1,h2.len,⟨⟨_,OwL.kv (OwL.oe h2) t,i,f⟩,w.fr,w.s0,w.nt⟩⟩
 |_=>simp[L2.unpT]at e
def Wd.unpL{b:Bs}{H:Hp}{L:List (V×OD)}{v:V}{x:OD}{xs:List OD}(w:Wd b H ((v,x)::L))(e:unpL x=some xs):∃a vs,v=.ref a/\SqL b.K H a vs/\vs.length=xs.length/\Wd b H (vs.zip xs++L):=by
 have h:∀{f:List PyData},listOf x=some f->xs=f.map OD.fz->∃a vs,v=.ref a/\SqL b.K H a vs/\vs.length=xs.length/\Wd b H (vs.zip xs++L):=λ{f} h1 h2=>by subst h2;obtain⟨a,vs,rfl,s,k,l⟩:=w.ay aai h1;exact⟨a,vs,rfl,k,by simpa using s,Wd.drop (l.perm aas)⟩
 cases x with
 |fz d=>cases d<;>simp only[L2.unpL]at e<;>cases e;exact h rfl rfl
 |lst y=>
  simp only[L2.unpL]at e;cases e;obtain⟨u,j,q,i⟩:=w.out;have o:=w.rz j;cases j with
  |@cons _ _ A _ _ B0 r t=>
   cases r with
   |@lst a vs _ B h1 h2=>have g:∀c,(c∈B++B0\/b.S0 c)->(c∈a::B++B0\/b.S0 c):=λc z=>z.imp (λz=>by simp at z ⊢;exact .inr z) id;exact⟨a,vs,rfl,SqL.of h1,h2.len,⟨⟨_,Ows.step (Kp.refl _ _) (λc z=>.inl (g c z)) o (λ_ _=>rfl) (OwL.kv (OwL.oe h2) t),(aaB.mp q).2,λc n=>i c (aah _ n)⟩,w.fr,w.s0,w.nt⟩⟩
 |_=>simp[L2.unpL]at e
def fA{σ:St}:∀{vs:List V}{xs:List OD},vs.length=xs.length->Al σ vs (xs.map OR.val)
 |[],[],_=>trivial
 |_::vs,_::xs,e=>fA (vs:=vs) (xs:=xs) (by simpa using e)
 |[],_::_,e=>by simp at e
 |_::_,[],e=>by simp at e
def Rel.spread{b:Bs}{F:List Fr}{σ:St}{H:Hp}{ρ:DEnv}{τ vs:List V}{θ:List OR}{xs:List OD}(R:Rel b F σ H ρ τ θ)(d:vs.length=xs.length)(w:Wd b H (vs.zip xs++(stk τ θ++(flat σ ρ++ff F)))):Rel b F σ H ρ (vs++τ) (xs.map OR.val++θ):=
 ⟨R.wf,(aQ (by simpa using d)).mpr ⟨fA d,R.al⟩,R.wff,by rw[aE (by simpa using d),cB d,aad];exact w⟩
def oW{k:Nat}{n:Nat}(l:X.calm=true)(r:(assignEach es X.env).length=n:=by rfl)(d:(assignEach es X.env).findIdx? (·.1)=none:=by rfl):PDgs X W m es dgs->PDg X W m (.Tuple es k pos) (DY n dgs)
 |⟨_,h,s⟩=>⟨_,sJ l h r d,λb F B H o A u v x C Q j z R ⟨t,e,y,h⟩ q=>by
  obtain⟨a,i,rfl,g,f,w⟩:=Wd.unpT R.wd e;rw[j]at g;exact⟨a,i,rfl,g,f.trans y,s b F B H o A u i t _ _ j z f (R.drop.spread f w) h q⟩⟩
def oX{k:Nat}{n:Nat}(l:X.calm=true)(r:(assignEach es X.env).length=n:=by rfl)(d:(assignEach es X.env).findIdx? (·.1)=none:=by rfl):PDgs X W m es dgs->PDg X W m (.Tuple es k pos) (DZ n dgs)
 |⟨_,h,s⟩=>⟨_,AN l h r d,λb F B H o A u v x C Q j z R ⟨t,e,y,h⟩ q=>by
  obtain⟨a,i,rfl,g,f,w⟩:=Wd.unpL R.wd e;rw[j]at g;exact⟨a,i,rfl,g,f.trans y,s b F B H o A u i t _ _ j z f (R.drop.spread f w) h q⟩⟩
def GK(a:DE)(g:DG):DS:=λD h=>a h λr f=>∃x d,own1 f r=some (x,d)/\g x d D.nx
def xD{d:Expr}(s:swapsWithSole [d] e pos.line X.env=pure false:=by rfl)(B:swappedStores [d] e X.env=pure none:=by rfl)(A:(assignEach [d] X.env).map (·.2)=[assign d X.env]:=by rfl):PDe X e da->PDg X W m d dg->PDs X W (.Assign [d] e pos) (GK da dg)
 |⟨_,j,s1⟩,⟨_,h2,s2⟩=>⟨_,nh j h2 s B A,λb F q H t o k J D l n R h E=>s1 b F q H t o k _ _ l R h λv w r I u ⟨x,i,e,j⟩=>
  s2 b F q w i o k v x _ _ l n (u.own1 e) j λf C g z _ y=>E.nx f C g z y⟩
def Bh(c:DT)(t:DS):DS:=λD g=>∃W:Nat->DEnv->Prop,(∃m,W m g)/\∀m g,W m g->c g λk f=>if k=true then ∃N:DEnv->Prop,(∀d,N d->∃h,h<m/\W h d)/\t { D with nx:=N,ct:=N,bk:=D.nx } f else D.nx f
def rW(z:PassesOwn (model X.prog X.w) X.A X.env X.xe):PDt X c dT->PDss X W sts d1->PDs X W (.While c sts [] pos) (Bh dT d1)
 |⟨_,h1,s1⟩,⟨_,i,s2⟩=>⟨_,sN z h1 i,λb F σ H ρ τ θ P D q n R ⟨W,⟨u,J⟩,step⟩ E=>by
  refine⟨λm σ H=>∃ρ,Rel b F σ H ρ τ θ/\W m ρ,⟨u,ρ,R,J⟩,?_⟩;rintro m g C ⟨ρ1,B,t⟩;refine s1 b F g C ρ1 τ θ _ _ q B (step m ρ1 t) λk o ρ2 r i=>?_;cases k with
  |false=>rw[if_neg aaf]at i ⊢;exact E.nx g o ρ2 r i
  |true=>
   rw[if_pos rfl]at i ⊢;obtain⟨N,y,s⟩:=i;refine⟨λf j=>∃d,Rel b F f j d τ θ/\N d,λf j M=>?_,s2 b F g o ρ2 τ θ _ _ q n r s ⟨λf j d h l=>⟨d,h,l⟩,λf j d h l=>E.nx f j d h l,λf j d h l=>⟨d,h,l⟩,E.rt⟩⟩;obtain⟨d,h,O⟩:=M;obtain⟨v,L,I⟩:=y d O;exact⟨v,L,d,h,I⟩⟩
abbrev DI:=DEnv->(List PyData->DEnv->Prop)->Prop
def kz(b:Bs)(J:It)(vs:List V)(rs:List OR)(ds:List PyData):Prop:=∀(F:List Fr) (j:St) (H:Hp) (g:DEnv) (h:List V) (f:List OR),Rel b F j H g (vs++h) (rs++f)->∀k,
 (k<ds.length->J.go k H/\∀x i d,J.yld k H x i->ds[k]?=some d->Rel b F j i g (x::(vs++h)) (.val (.fz d)::(rs++f)))/\(k=ds.length->J.stop k H)
def D0(K:Waa)(q:TI)(o:DI):Prop:=∀(b:Bs) (F:List Fr) (h:St) (H:Hp) (j:DEnv) (n:List V) (k:List OR) (Qd:List PyData->DEnv->Prop) (Q:It->Hp->Prop),b.K=K->Rel b F h H j n k->o j Qd ->
 (∀J l i d g f,g.length=f.length->NoRf Ff f->Rel b F h l d (g++n) (f++k)->kz b J g f i->Qd i d->Q J l)->q h H Q
inductive PDi (X:Cx)(tg e:Expr)(di:DI):Prop|mk (te:TI) (h:PI X tg e te) (s:D0 X.K te di)
def cC(lo:Int)(n:Nat):List PyData:=(List.range n).map λ(i:Nat)=>PyData.int (lo+(i:Int))
def fB(lo:Int)(n:Nat):(cC lo n).length=n:=by simp[cC]
def uj{f:Int}{n k:Nat}{d:PyData}(h:(cC f n)[k]?=some d):k<n/\d=.int (f+k):=by unfold cC at h;rw[aav]at h;obtain⟨j,l,rfl⟩:=aaJ.mp h;obtain⟨i,g⟩:=aar.mp l;simp at i g;subst g;exact⟨i,rfl⟩
def uk(b:Bs)(lo:Int)(n:Nat):kz b (FO lo n) [] [] (cC lo n):=λF r H l o j R k=>by rw[fB];refine⟨λh=>⟨h,λx q d ⟨f,i⟩ g=>?_⟩,λe=>by subst e;exact aag _⟩;subst f i;rw[(uj g).2];exact Rel.sc R (.int _)
def D1(t:DA):DI:=λg Q=>t g λf d=>∃j,iL d f=some [.int j]/\-(2^62)<=j/\j<2^62/\Q (cC 0 j.toNat) d
def nQ{k:Expr} (o:Gl X "range") (A:X.mg "range"=none) (i:starEach [a] X.env=[(false,eval a X.env)]:=by rfl):PDa X [a] dt->PDi X k (.Call (.Name "range" p) [a] [] pos) (D1 dt)
 |⟨_,h,s⟩=>⟨_,rg o A h i,λb F I H n D v L Q z R h q=>s b F I H n D v _ _ z R h λJ w M d g f ⟨j,e,B,u,y⟩=>by
  have C:=f.dtL g e;cases C with
  |cons r t=>cases t;cases r;exact⟨j,rfl,B,u,q _ w _ d [] [] rfl (λr l=>by cases l) (f.drops g) (uk b 0 _) y⟩⟩
def Rel.itemAt{b:Bs}{F:List Fr}{σ:St}{H:Hp}{ρ:DEnv}{τ:List V}{θ:List OR}{v:V}{x:OD}{ds:List PyData}{d:PyData}{k:Nat}(R:Rel b F σ H ρ τ θ)(m:(v,x)∈stk τ θ++(flat σ ρ++ff F))(e:seqOf x=some ds)(h:ds[k]?=some d):
  ∃a vs u,v=.ref a/\(SqL b.K H a vs\/SqT b.K H a vs)/\vs.length=ds.length/\vs[k]?=some u/\Rel b F σ H ρ (u::τ) (.val (.fz d)::θ):=by
 obtain⟨a,vs,rfl,g,i,w⟩:=R.wd.r4 m e;have f:k<vs.length:=by rw[g];exact(aar.mp h).1
 refine⟨a,vs,vs[k],rfl,i,g,aap f,R.push (w.pick (cM (aap f) ?_))⟩;rw[aav,h];rfl
def cT{v:V}{x:OD}{τ:List V}{θ:List OR}{L:List (V×OD)}:(v,x)∈stk ([v]++τ) ([OR.val x]++θ)++L:=by simp[stk]
def rX(b:Bs)(a:Addr)(ds:List PyData):kz b (FN b.K a) [.ref a] [.val (.fz (.list ds))] ds:=λF N H B M D R k=>by
 obtain⟨I,i,e,L,n,_⟩:=R.wd.ay cT (rfl:listOf (.fz (.list ds))=some ds);cases e;refine⟨λh=>⟨⟨i,i[k]'(by omega),n,aap _⟩,λx A d ⟨q,s⟩ j=>?_⟩,λe=>⟨i,n,by omega⟩⟩;subst q;obtain⟨o,z,u,y,r,_,J,O⟩:=R.itemAt cT (rfl:seqOf (.fz (.list ds))=some ds) j;cases y;obtain⟨_,f,w,g,l,v⟩:=R.wd.ay cT (rfl:listOf (.fz (.list ds))=some ds);cases w;have C:k<f.length:=by rw[g];exact(aar.mp j).1
 have t:=s f l;refine Rel.push R (v.pick (cM t ?_));rw[aav,j];rfl
def um(b:Bs)(a:Addr)(ds:List PyData):kz b (Gf b.K a) [.ref a] [.val (.fz (.tuple ds))] ds:=λF u H o t q R k=>by obtain⟨r,f,e,s,g,w⟩:=R.wd.i8 cT (rfl:gP (.fz (.tuple ds))=some ds);cases e;refine⟨λh=>⟨⟨f,f[k]'(by omega),g,aap _⟩,λx n d ⟨i,j⟩ l=>?_⟩,λe=>⟨f,g,by omega⟩⟩;subst i;refine Rel.push R (w.pick (cM (j f g) ?_));rw[aav,l];rfl
def GL(a:DE):DI:=λh Q=>a h λr f=>∃g d,frz1 f r=some (.list g,d)/\Q g d
def uo{i:Expr}:PDe X e da->PDi X i e (GL da)
 |⟨_,h,s⟩=>⟨_,oI h,λb F σ H ρ τ θ t Q d R h q=>s b F σ H ρ τ θ _ _ d R h λv n r ρ1 l ⟨ds,ρ2,e,o⟩=>by
  have f:=l.frz1 e;obtain⟨a,k,rfl,u,g,_⟩:=f.wd.ay (f.mem rfl) (rfl:listOf (.fz (.list ds))=some ds);rw[d]at g;exact⟨a,rfl,⟨k,g⟩,d▸q _ n ds ρ2 [.ref a] [.val (.fz (.list ds))] rfl (λr j=>.inl ⟨_,aaz.mp j⟩) f (rX b a ds) o⟩⟩
def GM(a:DE):DI:=λh Q=>a h λr f=>∃g d,frz1 f r=some (.tuple g,d)/\Q g d
def xE{i:Expr}:PDe X e da->PDi X i e (GM da)
 |⟨_,h,s⟩=>⟨_,Ak h,λb F σ H ρ τ θ t Q d R h q=>s b F σ H ρ τ θ _ _ d R h λv n r ρ1 l ⟨ds,ρ2,e,o⟩=>by
  have f:=l.frz1 e;obtain⟨a,k,rfl,u,g,_⟩:=f.wd.i8 (f.mem rfl) (rfl:gP (.fz (.tuple ds))=some ds);rw[d]at g;exact⟨a,rfl,⟨k,g⟩,d▸q _ n ds ρ2 [.ref a] [.val (.fz (.tuple ds))] rfl (λr j=>.inl ⟨_,aaz.mp j⟩) f (um b a ds) o⟩⟩
end
end
section
section
variable{X:Cx}{K:Waa}{a b c e:Expr}{es:List Expr}{sts:List Stmt}{st:Stmt}{da db dc:DE}{dt:DA}{d1 d2:DS}{dT:DT}{pos p:Pos}{x:Str}
def eU(ds:List PyData):List PyData:=(List.range ds.length).map λ(i:Nat)=>PyData.tuple [.int (i:Int),ds.getD i .none]
def gj(ds:List PyData):(eU ds).length=ds.length:=by simp[eU]
def rY{k:Nat}(h:(eU ds)[k]?=some d):∃e,ds[k]?=some e/\d=.tuple [.int k,e]:=by unfold eU at h;rw[aav]at h;obtain⟨j,i,rfl⟩:=aaJ.mp h;obtain⟨f,g⟩:=aar.mp i;simp at f g;subst g;exact⟨ds[k],aap f,by rw[ab0,aap f];rfl⟩
def Rel.sk{b:Bs}{d e:PyData}{p:Addr}(R:Rel b F σ H ρ τ θ)(w:Wd b H (Z++(stk τ θ++(flat σ ρ++ff F))))(i:(v,OD.fz d)∈Z)(g:(u,OD.fz e)∈Z)(h:H p=none):
  Rel b F σ (upd H p (.tup [v,u])) ρ (.ref p::τ) (.val (.fz (.tuple [d,e]))::θ):=R.i9 w rfl (λz f=>by
   simp at f;rcases f with rfl|rfl
   ·exact aae _ i
   ·exact aae _ g) h
def rZ(b:Bs)(a:Addr)(ds:List PyData):kz b (Gx b.K a) [.ref a] [.val (.fz (.list ds))] (eU ds):=λF A H r z t R k=>by obtain⟨u,f,e,v,g,w⟩:=R.wd.ay cT (rfl:listOf (.fz (.list ds))=some ds);cases e;rw[gj];refine⟨λh=>⟨⟨f,f[k]'(by omega),g,aap _⟩,λx q d ⟨T,y,j,n,l,m⟩ o=>?_⟩,λe=>⟨f,g,by omega⟩⟩;subst l m;obtain⟨s,i,rfl⟩:=rY o;refine Rel.sk (Z:=(V.int k,OD.fz (.int k))::f.zip (ds.map OD.fz)) R (w.sc (.int _)) aai (aah _ (cM (j f g) ?_)) n;rw[aav,i];rfl
def D2(t:DA):DI:=λi Q=>t i λh f=>∃g d,frzL f h=some ([.list g],d)/\Q (eU g) d
def uq{D}{f:Pos} (B:Gl X "enumerate") (J:X.mg "enumerate"=none) (i:starEach [a] X.env=[(false,eval a X.env)]:=by rfl):PDa X [a] dt->PDi X (.Tuple es D f) (.Call (.Name "enumerate" p) [a] [] pos) (D2 dt)
 |⟨_,h,s⟩=>⟨_,xc B J h i,λb F t H A o l N Q k R h q=>s b F t H A o l _ _ k R h λw m O L n C ⟨d,g,e,I⟩=>by
  obtain⟨M,y⟩:=ku C n e
  match w,y with
  |[v],_=>
   have j:Rel b F t m g (v::o) (.val (.fz (.list d))::l):=M;obtain⟨a,z,rfl,n,i,_⟩:=j.wd.ay (j.mem rfl) (rfl:listOf (.fz (.list d))=some d);rw[k]at i;exact⟨a,z,rfl,i,k▸q _ m _ g [.ref a] [.val (.fz (.list d))] rfl (λr u=>.inl ⟨_,aaz.mp u⟩) j (rZ b a d) I⟩⟩
def gk(ds es:List PyData):List PyData:=List.zipWith (λd e=>PyData.tuple [d,e]) ds es
def ur{ds es:List PyData}{k:Nat}(h:(gk ds es)[k]?=some d):∃x y,ds[k]?=some x/\es[k]?=some y/\d=.tuple [x,y]:=by
 unfold gk at h;rw[List.getElem?_zipWith]at h;cases f:ds[k]? with
 |none=>rw[f]at h;simp at h
 |some x=>
  cases g:es[k]? with
  |none=>rw[f,g]at h;simp at h
  |some y=>rw[f,g]at h;exact⟨x,y,rfl,rfl,(aaD h).symm⟩
def D3:PyData->Option (Bool×List PyData)
 |.list ds=>some (true,ds)
 |.tuple ds=>some (false,ds)
 |_=>none
def nR(l:Bool)(a:Addr)(xs:List V):ZS:=if l then .lst a xs else .tup a xs
def eK{a:Addr}(h:if l then SqL K H a xs else SqT K H a xs):(nR l a xs).ok K H:=by cases l<;>exact h
def mf(l:Bool)(a:Addr)(xs:List V):(nR l a xs).val=.ref a:=by cases l<;>rfl
def cD(l:Bool)(a:Addr)(xs:List V):(nR l a xs).items=xs:=by cases l<;>rfl
def uv(h:D3 d=some (l,ds)):d=if l then .list ds else .tuple ds:=by cases d<;>simp only[D3]at h<;>cases h<;>rfl
def uw(b:Bs)(a c:Addr)(l g:Bool)(xs ys:List V)(ds es:List PyData):kz b (Gu b.K (nR l a xs) (nR g c ys)) [.ref a,.ref c] [.val (.pin l xs ds),.val (.pin g ys es)] (gk ds es):=λF O H D N J R k=>by
 obtain⟨L,e,M,i,w⟩:=R.wd.pinned (v:=.ref a) (l:=l) (xs:=xs) (ds:=ds) (by simp[stk]);cases e;obtain⟨I,e,o,f,n⟩:=w.pinned (v:=.ref c) (l:=g) (xs:=ys) (ds:=es) (by simp[stk]);cases e;have q:(gk ds es).length=min ds.length es.length:=by simp[gk]
 rw[q];refine⟨λh=>⟨⟨eK i,eK f,by rw[cD];omega,by rw[cD];omega⟩,λx C d ⟨T,y,z,j,m,A,t,s⟩ B=>?_⟩,λe=>⟨eK i,eK f,by rw[cD,cD];omega⟩⟩;subst t s;rw[cD]at j m;obtain⟨d1,d2,u,r,rfl⟩:=ur B;rw[<-aad]at n;refine Rel.sk R n (aac _ (cM j ?_)) (aae _ (cM m ?_)) A
 ·rw[aav,u];rfl
 ·rw[aav,r];rfl
def GN(t:DA):DI:=λi Q=>t i λh f=>∃x y l k g es d,frzL f h=some ([x,y],d)/\D3 x=some (l,g)/\D3 y=some (k,es)/\Q (gk g es) d
def xF{T}{f:Pos} (P:Gl X "zip") (Z:X.mg "zip"=none) (i:starEach [a,b] X.env=[(false,eval a X.env),(false,eval b X.env)]:=by rfl) (m:starEach [b] X.env=[(false,eval b X.env)]:=by rfl):PDa X [a,b] dt->PDi X (.Tuple es T f) (.Call (.Name "zip" p) [a,b] [] pos) (GN dt)
 |⟨_,h,s⟩=>⟨_,AF P Z h i m,λb F C H O B o Qd Q A R h q=>s b F C H O B o _ _ A R h λvs z rs a0 Y S ⟨x,y,l,k,ds,es,d,e,L,U,W⟩=>by
  obtain⟨I,M⟩:=ku S Y e;obtain⟨v,u,rfl⟩:=len2 M;have w:Wd b z ((v,.fz x)::(u,.fz y)::(stk B o++(flat C d++ff F))):=I.wd;have t:Rel b F C z d B o:=Rel.drops I rfl;obtain⟨xs,J⟩:=w.pin (uv L);obtain⟨j,N⟩:=(J.perm (List.Perm.swap _ _ _)).pin (uv U);have n:=N.perm (List.Perm.swap _ _ _);obtain⟨a,rfl,_,i,_⟩:=n.pinned (v:=v) (l:=l) (xs:=xs) (ds:=ds) (by simp);obtain⟨c,rfl,_,g,_⟩:=n.pinned (v:=u) (l:=k) (xs:=j) (ds:=es) (by simp);rw[A]at i g;refine⟨nR l a xs,nR k c j,by rw[mf,mf],eK i,eK g,A▸q _ z _ d [.ref a,.ref c] [.val (.pin l xs ds),.val (.pin k j es)] rfl (λr D=>by simp at D;rcases D with rfl|rfl<;>exact .inl ⟨_,rfl⟩) ?_ (uw b a c l k xs j ds es) W⟩;exact⟨t.wf,t.al,t.wff,n⟩⟩
end
end
section
def cJ:DEnv->List Nat->Option (DEnv×DEnv)
 |ρ,[]=>some ([],ρ)
 |ρ,j::js=>match ρ[j]?.join with
  |some (.fz d)=>match cJ ρ js with|some z=>some (some (.fz d)::z.1,z.2)|none=>none
  |some x=>match cJ (ρ.set j none) js with|some z=>some (some x::z.1,z.2)|none=>none
  |none=>none
def eR:DEnv->List Nat->DEnv->DEnv
 |ρ,j::js,some x::os=>eR (ρ.set j (some x)) js os
 |ρ,_::js,none::os=>eR ρ js os
 |ρ,_,_=>ρ
def capV(σ:St)(js:List Nat):St:=js.map λj=>(σ[j]?).join
section
variable{b:Bs}{F:List Fr}{σ σ':St}{H H':Hp}{τ vs:List V}{θ rs:List OR}{v u:V}{x y:OD}{d:PyData}{ds:List PyData}{i:Nat}{L:List (V×OD)}
def xG(h:o=some (some v)):o.join=some v:=by rw[h];rfl
def oY:∀{js:List Nat}{ρ a ρ2:DEnv}{L1 L2:List (V×OD)},Wd b H (L1++(flat σ ρ++L2))->Wf σ ρ->cJ ρ js=some (a,ρ2)->Wd b H (flat (capV σ js) a++(L1++(flat σ ρ2++L2)))/\Wf σ ρ2/\Wf (capV σ js) a
 |[],ρ,a,ρ2,L1,L2,w,wf,e=>by simp only[cJ]at e;cases e;exact⟨w,wf,trivial⟩
 |j::js,ρ,a,ρ2,L1,L2,w,wf,e=>by
  cases h:ρ[j]?.join with
  |none=>simp[cJ,h]at e
  |some x=>
   have m:=join_some h;obtain⟨v,p⟩:=wf.get m;have s:Wd b H ((v,x)::(L1++(flat σ (ρ.set j none)++L2))):=w.perm ((((bA m p).append_right _).append_left _).trans aas);have k:∀{y:OD}{c:DEnv}{z:DEnv×DEnv},Wd b H ((v,y)::(L1++(flat σ c++L2)))->Wf σ c->cJ c js=some z->(some y::z.1,z.2)=(a,ρ2)->Wd b H (flat (capV σ (j::js)) a++(L1++(flat σ ρ2++L2)))/\Wf σ ρ2/\Wf (capV σ (j::js)) a:=λ{y c z} r wf1 f g=>by
    cases g;obtain⟨J,n,o⟩:=oY (L1:=(v,y)::L1) r wf1 (show cJ c js=some (z.1,z.2) from f);have I:capV σ (j::js)=some v::capV σ js:=by unfold capV;rw[aaj,xG p]
    rw[I];exact⟨J.perm aas,n,o⟩
   have D:∀{z:DEnv×DEnv},cJ (ρ.set j none) js=some z->(some x::z.1,z.2)=(a,ρ2)->Wd b H (flat (capV σ (j::js)) a++(L1++(flat σ ρ2++L2)))/\Wf σ ρ2/\Wf (capV σ (j::js)) a:=λ{z} f g=>k s wf.off f g;have l:∀{c:DEnv}{y:OD},(match cJ c js with|some z=>some (some y::z.1,z.2)|none=>none)=some (a,ρ2)->∃z,cJ c js=some z/\(some y::z.1,z.2)=(a,ρ2):=λ{c y} q=>by
    cases t:cJ c js with
    |none=>rw[t]at q;cases q
    |some z=>rw[t]at q;exact⟨z,rfl,aaD q⟩
   cases x with
   |fz d=>simp only[cJ,h]at e;obtain⟨z,f,g⟩:=l e;have r:=s.dup;have B:j<ρ.length:=(aar.mp m).1;have C:σ.set j (some v)=σ:=set_self p;have A:=cS (v:=v) (x:=.fz d) B wf.len;rw[C,set_self m]at A;exact k (r.perm (List.Perm.cons _ (aas.symm.trans ((A.symm.append_right _).append_left _)))) wf f g
   |_=>simp only[cJ,h]at e;obtain⟨z,f,g⟩:=l e;exact D f g
def kA:∀{js:List Nat}{ρ a:DEnv}{L1 L2:List (V×OD)},Wd b H (L1++(flat (capV σ js) a++(flat σ ρ++L2)))->Wf σ ρ->Wf (capV σ js) a->Wd b H (L1++(flat σ (eR ρ js a)++L2))/\Wf σ (eR ρ js a)
 |[],ρ,a,L1,L2,w,wf,wf2=>by
  cases a with
  |nil=>exact⟨w,wf⟩
  |cons _ _=>simp[capV,Wf]at wf2
 |j::js,ρ,[],L1,L2,w,wf,wf2=>by simp[capV,Wf]at wf2
 |j::js,ρ,o::a,L1,L2,w,wf,wf2=>by
  have k:capV σ (j::js)=(σ[j]?).join::capV σ js:=rfl;rw[k]at w wf2;cases o with
  |none=>rw[bq]at w;exact kA (js:=js) w wf (by cases h:(σ[j]?).join<;>(rw[h]at wf2;exact wf2))
  |some x=>
   cases h:(σ[j]?).join with
   |none=>rw[h]at wf2;simp[Wf]at wf2
   |some v=>
    rw[h]at w wf2;have m:Wd b H ((v,x)::(L1++(flat (capV σ js) a++(flat σ ρ++L2)))):=w.perm (aas )
    ·have f:=join_some h;have l:j<ρ.length:=by rw[<-wf.len];exact(aar.mp f).1
     have e:σ.set j (some v)=σ:=set_self f;have g:=cS (v:=v) (x:=x) l wf.len;rw[e]at g;have c:Wf σ (ρ.set j (some x)):=by have:=wf.put (i:=j) (v:=v) (x:=x);rw[e]at this;exact this
     refine kA (ρ:=ρ.set j (some x)) ?_ c wf2;have n:Wd b H (((v,x)::L1++flat (capV σ js) a)++(flat σ (ρ.set j none)++L2)):=Wd.nc (by simpa using m) wf j;refine n.perm ?_;rw[<-aad L1];refine List.Perm.trans ?_ ((g.symm.append_right _).append_left _);simp only[aaK];exact aas.symm
def Wf.drop:∀{n:Nat}{σ:St}{ρ:DEnv},Wf σ ρ->Wf (σ.drop n) (ρ.drop n)
 |0,_,_,h=>h
 |_+1,[],[],_=>trivial
 |_+1,[],_::_,h=>by simp[Wf]at h
 |_+1,_::_,[],h=>by simp[Wf]at h
 |n+1,o::σ,none::ρ,h=>Wf.drop (n:=n) h
 |n+1,some _::σ,some _::ρ,h=>Wf.drop (ρ:=ρ) h
 |_+1,none::_,some _::_,h=>by simp[Wf]at h
def gm:∀{n:Nat}{σ:St}{ρ:DEnv},Wf σ ρ->∃L,flat σ ρ=L++flat (σ.drop n) (ρ.drop n)
 |0,σ,ρ,_=>⟨[],rfl⟩
 |_+1,[],[],_=>⟨[],rfl⟩
 |_+1,[],_::_,h=>by simp[Wf]at h
 |_+1,_::_,[],h=>by simp[Wf]at h
 |n+1,o::σ,none::ρ,h=>by obtain⟨L,e⟩:=gm (ρ:=ρ) h;exact⟨L,by rw[bq];exact e⟩
 |n+1,some v::σ,some x::ρ,h=>by obtain⟨L,e⟩:=gm (ρ:=ρ) h;exact⟨(v,x)::L,by simp only[flat,aaK,List.drop_succ_cons];rw[e]⟩
 |_+1,none::_,some _::_,h=>by simp[Wf]at h
def ux:flat (List.replicate n none++σ) (List.replicate n none++ρ)=flat σ ρ:=by
 induction n with
 |zero=>rfl
 |succ n a=>rw[abf,abf,aaK,aaK,bq,a]
def Bi(h:Wf σ ρ):Wf (List.replicate n none++σ) (List.replicate n none++ρ):=by
 induction n with
 |zero=>exact h
 |succ n a=>rw[abf,abf];exact a
def Rel.grow(R:Rel b F σ H ρ (v::(vs++[.ref D])) (.val (.fz d)::(rs++[.val (.lst (out.map OD.fz))])))(e:vs.length=rs.length):
  ∃ys,H D=some (.lst ys)/\ys.length=out.length/\Rel b F σ (upd H D (.lst (ys++[v]))) ρ (vs++[.ref D]) (rs++[.val (.lst ((out++[d]).map OD.fz))]):=by
 have f:=R.drop;have h:stk (vs++[.ref D]) (rs++[.val (.lst (out.map OD.fz))])=stk vs rs++[(.ref D,.lst (out.map OD.fz))]:=by rw[aE e];rfl
 have w:Wd b H ((v,.fz d)::((stk vs rs++[(.ref D,.lst (out.map OD.fz))])++(flat σ ρ++ff F))):=by have:=R.wd;simp only[stk]at this;rw[h]at this;exact this
 have k:Wd b H ([v].zip [OD.fz d]++((.ref D,.lst (out.map OD.fz))::(stk vs rs++(flat σ ρ++ff F)))):=w.perm (by
  refine List.Perm.cons _ ?_;rw[aad];exact aas)
 obtain⟨a,ys,o,s,q,g⟩:=k.uh (ks:=[]) rfl rfl;cases o;refine⟨ys,s,by simpa using q,f.wf,?_,f.wff,?_⟩
 ·obtain⟨n,_⟩:=(aQ e).mp f.al;exact(aQ e).mpr ⟨n,trivial⟩
 ·have t:=g (ys++[v]) ((out++[d]).map OD.fz) λS H A C z r m p=>⟨A++C,by rw[aax];exact Ows.append r m,p,λc l=>aak.mp l⟩
  have j:stk (vs++[.ref D]) (rs++[.val (.lst ((out++[d]).map OD.fz))])=stk vs rs++[(.ref D,.lst ((out++[d]).map OD.fz))]:=by rw[aE e];rfl
  rw[j];refine t.perm ?_;rw[aad];exact aas.symm
end
def Bj{a:Type}(A B C T F:List a):(A++(B++(C++(T++F)))).Perm (B++(A++((T++C)++F))):=by refine(ab1 A B _).trans (aaZ _ (aaZ _ ?_));rw[<-aad];exact aaY.append_right _
abbrev DC:=DEnv->(List PyData->DEnv->Prop)->Prop
def r6(K:Waa)(i:TC)(h:DC):Prop:=∀(b:Bs) (F:List Fr) (e:St) (H:Hp) (f:DEnv) (vs:List V) (d:List OR) (D:Addr) (a:List PyData) (Qd:List PyData->DEnv->Prop) (Q:Hp->Prop),b.K=K->vs.length=d.length->a.length<1000000->Rel b F e H f (vs++[.ref D]) (d++[.val (.lst (a.map OD.fz))])->h f Qd ->
 (∀g c o,Rel b F e g c (vs++[.ref D]) (d++[.val (.lst ((a++o).map OD.fz))])->o.length<=1->Qd o c->Q g)->i D e H Q
inductive PDc (Y:Cx)(ifs:List Expr)(elt:Expr)(dc:DC):Prop|mk (tc:TC) (h:∀D,lX Y D ifs elt tc) (s:r6 Y.K tc dc)
section
variable{X Y:Cx}{K:Waa}{a b c e elt iter tg:Expr}{es ifs:List Expr}{da db:DE}{dT:DT}{pos p:Pos}{x:Str}
def uy(a:DE):DC:=λh Q=>a h λr g=>∃d f,frz1 g r=some (d,f)/\Q [d] f
def mh(s:cI K ta da):r6 K (oO ta) (uy da):=λb F w H i y I D f A Q o n z R h q=>s b F w H i _ _ _ _ o R h λv B r u j ⟨d,l,e,m⟩=>by obtain⟨g,t,C,k⟩:=(j.frz1 e).grow n;exact⟨g,t,aat (by omega) (by decide:1000001<=sizeLine),q _ _ _ k (aag _) m⟩
def r9:PDe Y elt da->PDc Y [] elt (uy da)
 |⟨_,h,s⟩=>⟨_,λD=>rE h,mh s⟩
def xH(t:DT)(a:DE):DC:=λf Q=>t f λk d=>if k=true then uy a d Q else Q [] d
def uz:PDt Y c dT->PDe Y elt da->PDc Y [c] elt (xH dT da)
 |⟨_,d,s1⟩,⟨_,h2,s2⟩=>⟨_,λD=>tx d h2,λb F σ H ρ vs rs D out m Q i l j R h q=>s1 b F σ H ρ _ _ _ _ i R h λk g ρ1 f d=>by
  cases k with
  |true=>rw[if_pos rfl]at d ⊢;exact mh s2 b F σ g ρ1 vs rs D out _ _ i l j f d q
  |false=>rw[if_neg aaf]at d ⊢;exact q g ρ1 [] (by rw[aam];exact f) (aaH _) d⟩
def oZ(t:DI)(nt:Nat)(fr:List Nat)(g:DG)(s:DC):DE:=λi Q=>t i λn r=>n.length<1000000/\∃f l,cJ r fr=some (f,l)/\∃m:Nat->List PyData->DEnv->Prop,m 0 [] (List.replicate nt none++f) /\
 (∀k d h i,n[k]?=some d->m k h i->g (.fz d) i λq=>s q λo j=>m (k+1) (h++o) j)/\∀h i,m n.length h i->Q (.val (.lst (h.map OD.fz))) (eR l fr (i.drop nt))
def Bk{d:Type}(x:d)(S L P T C F:List d):(x::(S++((L++P)++((T++C)++F)))).Perm (L++((x::(S++T))++(P++(C++F)))):=by
 have e:x::(S++((L++P)++((T++C)++F)))=x::(S++(L++(P++(T++(C++F))))):=by simp only[aad]
 rw[e];refine List.Perm.trans ?_ aas.symm;refine List.Perm.cons _ ((ab1 S L _).trans (aaZ _ ?_));show (S++(P++(T++(C++F)))).Perm ((S++T)++(P++(C++F)));rw[aad];exact aaZ _ (ab1 P T _)
def D4{f:Type}(h:f->OD)(j:f->Nat)(K:Waa)(n:TC)(da:f->DEnv->(f->DEnv->Prop)->Prop):Prop:=∀(b:Bs) (F:List Fr) (k:St) (H:Hp) (l:DEnv) (vs:List V) (i:List OR) (D:Addr) (d:f) (Qd:f->DEnv->Prop) (Q:Hp->Prop),b.K=K->vs.length=i.length->j d<1000000->Rel b F k H l (vs++[.ref D]) (i++[.val (h d)])->da d l Qd ->
 (∀m g o,Rel b F k m g (vs++[.ref D]) (i++[.val (h o)])->j o<=j d+1->Qd o g->Q m)->n D k H Q
def tCG(o0:HO)(J:It)(nt:Nat)(fr:List Nat)(g:CC->TG)(o:CC->TC)(σ:St)(l:Hp)(Q:VK):Prop:=∀(c:CC) D,l D=none->∃W:Nat->Nat->St->Hp->Prop,(∃m,W 0 m (bC nt fr σ) (upd l D o0)) /\
 ∀i m f h,W i m f h->(J.stop i h/\Q (.ref D) h)\/(J.go i h/\∀x j,J.yld i h x j->g c x f j λd q=>o c D d q λn=>∃k,k<m/\W (i+1) k d n)
def mj{v:Type}{l:v->OD}{M:v->Nat}{a0:v}{da:v->DEnv->(v->DEnv->Prop)->Prop}(U:∀{b:Bs}{H:Hp}{L:List (V×OD)}{D:Addr},Wd b H L->H D=none->Wd b (upd H D o0) ((.ref D,l a0)::L))(l0:M a0=0)(s2:∀c,rV K Ff nt (g c) dg)(s3:∀c,D4 l M K (tc c) da){b:Bs}{Iv:Nat->v->DEnv->Prop}(hK:b.K=K)(u:vs.length=rs.length)(nr:NoRf Ff rs)
  (w:Rel b F σ H1 ρ1 (vs++τ) (rs++θ)) (it:kz b J vs rs ds) (a2:ds.length<1000000) (hc:cJ ρ1 fr=some (inner,ρ2)) (i0:Iv 0 a0 (List.replicate nt none++inner)) (step:∀k d out ρ,ds[k]?=some d->Iv k out ρ->dg (.fz d) ρ λh=>da out h λo B=>Iv (k+1) o B)
  (q:∀s D out h,Rel b F σ s (eR ρ2 fr (h.drop nt)) (.ref D::(vs++τ)) (.val (l out)::(rs++θ))->Iv ds.length out h->Q (.ref D) s):tCG o0 J nt fr g tc σ H1 Q:=by
 intro cc D hD;have w1:Wd b H1 (stk vs rs++(flat σ ρ1++(stk τ θ++ff F))):=w.wd.perm (by
  rw[aE u,aad];refine aaZ _ ?_;rw[<-aad,<-aad];exact aaY.append_right _)
 obtain⟨w2,y,T⟩:=oY w1 w.wf hc;have al:=(aQ u).mp w.al;have w3:=U w2 hD;have R2:Rel b (⟨σ,ρ2,τ,θ⟩::F) (bC nt fr σ) (upd H1 D o0) (List.replicate nt none++inner) (vs++[.ref D]) (rs++[.val (l a0)]):=by
  refine⟨Bi T,(aQ u).mpr ⟨nr.al0 al.1,trivial⟩,λf P=>?_,?_⟩
  ·rcases aab.mp P with rfl|P
   ·exact⟨y,al.2⟩
   ·exact w.wff f P
  ·have ec:flat (bC nt fr σ) (List.replicate nt none++inner)=flat (capV σ fr) inner:=ux;rw[ec,aE u];refine w3.perm ?_;have ef:ff (⟨σ,ρ2,τ,θ⟩::F)=(stk τ θ++flat σ ρ2)++ff F:=rfl;rw[ef];have N:stk [V.ref D] [OR.val (l a0)]=[(V.ref D,l a0)]:=rfl;rw[N];refine List.Perm.trans (List.Perm.cons _ (Bj (flat (capV σ fr) inner) (stk vs rs) (flat σ ρ2) (stk τ θ) (ff F))) ?_;rw[aad (stk vs rs)];exact aas.symm
 refine⟨λi m n s=>m=ds.length-i/\i<=ds.length/\(∀j,nt<=j->n[j]?=(bC nt fr σ)[j]?)/\∃out h,M out<=i/\Rel b (⟨σ,ρ2,τ,θ⟩::F) n s h (vs++[.ref D]) (rs++[.val (l out)])/\Iv i out h,⟨_,rfl,aaH _,λ_ _=>rfl,a0,_,abT l0,R2,i0⟩,?_⟩;rintro i m n s ⟨rfl,hi,C,out,h,ho,I,iv⟩;obtain⟨go,z⟩:=it _ n s h [.ref D] [.val (l out)] I i;by_cases t:i<ds.length
 ·obtain⟨g1,g2⟩:=go t;refine .inr ⟨g1,λx H2 hy=>?_⟩;have A:ds[i]?=some ds[i]:=aap t;have nn:NoRf Ff (rs++[.val (l out)]):=NoRf.app nr λr hr=>.inl ⟨_,aaz.mp hr⟩;refine s2 cc b _ n H2 h _ _ x _ _ _ hK nn (g2 x H2 _ hy A) (step i _ out h A iv) λW H3 Z R3 k3 h3=>?_;exact s3 cc b _ W H3 Z vs rs D out _ _ hK u (by omega) R3 h3 λH4 O o R4 lo h4=>⟨_,by omega,rfl,t,λj hj=>(k3 j hj).1.trans (C j hj),o,O,by omega,R4,h4⟩
 ·have e:i=ds.length:=by omega
  subst e;refine .inl ⟨z rfl,q s D out h ?_ iv⟩;have A:n.drop nt=capV σ fr:=by apply List.ext_getElem?;intro j;rw[ab2,C _ (by omega)];unfold bC capV;rw[abx (by simp),aby,aco]
  have w4:Wd b s ((.ref D,l out)::(stk vs rs++(flat n h++((stk τ θ++flat σ ρ2)++ff F)))):=I.wd.perm (by
   rw[aE u];have N:stk [V.ref D] [OR.val (l out)]=[(V.ref D,l out)]:=rfl;rw[N,aad];exact aas)
  obtain⟨L0,eL⟩:=gm I.wf;rw[eL,A]at w4;have w5:Wd b s (((.ref D,l out)::stk (vs++τ) (rs++θ))++(flat (capV σ fr) (h.drop nt)++(flat σ ρ2++ff F))):=by refine Wd.drops (L1:=L0) (w4.perm ?_);rw[aE u];exact Bk (.ref D,l out) (stk vs rs) L0 (flat (capV σ fr) (h.drop nt)) (stk τ θ) (flat σ ρ2) (ff F)
  have a1:Wf (capV σ fr) (h.drop nt):=A▸I.wf.drop;obtain⟨w6,S⟩:=kA w5 y a1;exact⟨S,w.al,w.wff,w6⟩
def jD{l:DC}(s:∀c,rV K Ff nt (g c) dg)(t:∀c,r6 K (tc c) l){b:Bs}{F:List Fr}{Iv:Nat->List PyData->DEnv->Prop}(r:b.K=K)(n:vs.length=rs.length)(I:NoRf Ff rs)
  (A:Rel b F σ H1 ρ1 (vs++τ) (rs++θ)) (it:kz b J vs rs ds) (m:ds.length<1000000) (y:cJ ρ1 fr=some (inner,ρ2)) (z:Iv 0 [] (List.replicate nt none++inner)) (step:∀k d out ρ,ds[k]?=some d->Iv k out ρ->dg (.fz d) ρ λf=>l f λo i=>Iv (k+1) (out++o) i)
  (q:∀j D out f,Rel b F σ j (eR ρ2 fr (f.drop nt)) (.ref D::(vs++τ)) (.val (.lst (out.map OD.fz))::(rs++θ))->Iv ds.length out f->Q (.ref D) j):lR (λ_ _ k=>k J H1) nt fr g tc σ H1 Q:=
 mj (da:=λout ρ Q=>l ρ λo f=>Q (out++o) f) (λw h=>Wd.eu w rfl h) rfl s (λc b F σ H ρ vs rs D out B Q r n v R h q=>t c b F σ H ρ vs rs D out (λo f=>B (out++o) f) Q r n v R h λj f o C L u=>q j f (out++o) C (by rw[aal];omega) u) r n I A it m y z step q
def ml(s1:D0 K wi di)(o:∀c,rV K Ff nt (g c) dg)(r:∀c,r6 K (tc c) dc):cI K (lR wi nt fr g tc) (oZ di nt fr dg dc):=by intro b F O H v N z U Q n R h q;refine s1 b F O H v N z _ _ n R h λJ W P M S Z m C y u I=>?_;obtain⟨l,j,A,s,T,w,d,i⟩:=I;exact jD o r n m C y u l s w d λL D f k B t=>q _ L _ _ (Rel.drops (Rel.tor B m) m) (i f k t)
end
end
section
section
variable{X:Cx}{K:Waa}{a b c e elt iter tg:Expr}{es ifs:List Expr}{da db dc':DE}{dt:DA}{dT:DT}{pos p:Pos}{x:Str}{N:List Str}{nt:Nat}{fr:List Nat}{scope:Scope}{di:DI}{dg:DG}{dc:DC}
def PDg.ex{Y:CC->Cx}(d:∀c,(Y c).K=K)(h:∀c,PDg (Y c) Ff m tg dg):∃g:CC->TG,∀c,PG (Y c) tg (g c)/\rV K Ff m (g c) dg:=
 ab3 (r:=λc g=>PG (Y c) tg g/\rV K Ff m g dg) λc=>(by obtain⟨j,i,f⟩:=h c;exact⟨j,i,d c▸f⟩)
def PDc.ex{Y:CC->Cx}(d:∀c,(Y c).K=K)(h:∀c,PDc (Y c) ifs elt dc):∃g:CC->TC,∀c,(∀D,lX (Y c) D ifs elt (g c))/\r6 K (g c) dc:=
 ab3 (r:=λc g=>(∀D,lX (Y c) D ifs elt g)/\r6 K g dc) λc=>(by obtain⟨j,i,f⟩:=h c;exact⟨j,i,d c▸f⟩)
def xI(n:X.calm=true)(S:CompScope N nt fr X.N scope X.env.scope)(h:∀x,foldedSetIterable iter X.env x=pure x:=by intro _;rfl)(k:PDi X tg iter di)(i:∀c:CC,PDg (dn X N scope c) Ff nt tg dg)(j:∀c:CC,PDc (dn X N scope c) ifs elt dc):
  PDe X (.ListComp elt [⟨tg,iter,ifs,0⟩] scope pos) (oZ di nt fr dg dc):=by
 obtain⟨o,m,l⟩:=k;obtain⟨g,f⟩:=PDg.ex (K:=X.K) (Y:=λc=>dn X N scope c) (λ_=>rfl) i;obtain⟨q,d⟩:=PDc.ex (Y:=λc=>dn X N scope c) (λ_=>rfl) j;exact⟨_,oQ n S m (λc=>(f c).1) (λc D=>(d c).1 D) h,ml l (λc=>(f c).2) λc=>(d c).2⟩
end
def ba:List Bool->DEnv->List OR->Option (List OD×DEnv)
 |[],ρ,[]=>some ([],ρ)
 |true::ios,ρ,r::rs=>match mv1 ρ r with
  |some (x,ρ1)=>match ba ios ρ1 rs with|some (xs,ρ2)=>some (x::xs,ρ2)|none=>none
  |none=>none
 |false::ios,ρ,r::rs=>match frz1 ρ r with
  |some (d,ρ1)=>match ba ios ρ1 rs with|some (xs,ρ2)=>some (.fz d::xs,ρ2)|none=>none
  |none=>none
 |_,_,_=>none
def dZ:List Bool->List OR->List OD->DEnv->DEnv
 |true::ios,.rf j::rs,y::ys,ρ=>dZ ios rs ys (ρ.set j (some y))
 |_::ios,_::rs,_::ys,ρ=>dZ ios rs ys ρ
 |_,_,_,ρ=>ρ
section
variable{b:Bs}{F:List Fr}{σ:St}{H H':Hp}{ρ ρ':DEnv}{τ vs:List V}{θ rs:List OR}{v u:V}{r:OR}{x y:OD}{d:PyData}{i j:Nat}
def argsR_ok:∀{ios:List Bool}{vs:List V}{rs:List OR}{ρ ρ':DEnv}{xs:List OD}{τ:List V}{θ:List OR},Rel b F σ H ρ (vs++τ) (rs++θ)->vs.length=rs.length->ba ios ρ rs=some (xs,ρ')->Rel b F σ H ρ' (vs++τ) (xs.map OR.val++θ)/\vs.length=xs.length
 |[],[],[],_,_,_,_,_,R,_,e=>by simp only[ba]at e;cases e;exact⟨R,rfl⟩
 |true::ios,v::vs,r::rs,ρ,ρ',ds,τ,θ,R,e,h=>by
  simp only[ba]at h;split at h
  ·rename_i x ρ1 g;split at h
   ·rename_i xs ρ2 f;cases h;have k:Rel b F σ H ρ1 (v::(vs++τ)) (.val x::(rs++θ)):=Rel.mv1 R g;have a:vs.length=rs.length:=by simpa using e
    obtain⟨l,c⟩:=argsR_ok (Rel.tor k a) a f;exact⟨Rel.vv l (by rw[c,aaa]),by simp[c]⟩
   ·cases h
  ·cases h
 |false::ios,v::vs,r::rs,ρ,ρ',ds,τ,θ,R,e,h=>by
  simp only[ba]at h;split at h
  ·rename_i x ρ1 g;split at h
   ·rename_i xs ρ2 f;cases h;have k:Rel b F σ H ρ1 (v::(vs++τ)) (.val (.fz x)::(rs++θ)):=Rel.frz1 R g;have a:vs.length=rs.length:=by simpa using e
    obtain⟨l,c⟩:=argsR_ok (Rel.tor k a) a f;exact⟨Rel.vv l (by rw[c,aaa]),by simp[c]⟩
   ·cases h
  ·cases h
 |_,[],_::_,_,_,_,_,_,_,e,_=>by simp at e
 |_,_::_,[],_,_,_,_,_,_,e,_=>by simp at e
 |[],_::_,_::_,_,_,_,_,_,_,_,h=>by simp[ba]at h
 |true::_,[],[],_,_,_,_,_,_,_,h=>by simp[ba]at h
 |false::_,[],[],_,_,_,_,_,_,_,h=>by simp[ba]at h
def Rel.give(R:Rel b F σ H ρ (v::τ) (.val y::θ))(ev:σ[j]?=some (some v)):Rel b F σ H (ρ.set j (some y)) τ θ:=
 Rel.back R.wf (Rel.drop R).al R.wff ev (Wd.nc R.wd R.wf j)
def cb:∀{ios:List Bool}{vs:List V}{rs:List OR}{ys:List OD}{ρ:DEnv},Al σ vs rs->vs.length=ys.length->Rel b F σ H ρ (vs++τ) (ys.map OR.val++θ)->Rel b F σ H (dZ ios rs ys ρ) τ θ
 |ios,[],[],[],ρ,_,_,R=>by cases ios with|nil=>exact R|cons i ios=>cases i<;>exact R
 |[],v::vs,r::rs,y::ys,ρ,al,e,R=>by
  have a:Al σ vs rs:=by cases r with|val _=>exact al|rf _=>exact al.2
  have:=cb (ios:=[]) a (by simpa using e) (Rel.drop R);cases vs<;>cases rs<;>cases ys<;>exact this
 |true::ios,v::vs,.rf j::rs,y::ys,ρ,al,e,R=>cb (ys:=ys) al.2 (by simpa using e) (Rel.give R al.1)
 |true::ios,v::vs,.val x::rs,y::ys,ρ,al,e,R=>cb (ys:=ys) al (by simpa using e) (Rel.drop R)
 |false::ios,v::vs,.rf j::rs,y::ys,ρ,al,e,R=>cb (ys:=ys) al.2 (by simpa using e) (Rel.drop R)
 |false::ios,v::vs,.val x::rs,y::ys,ρ,al,e,R=>cb (ys:=ys) al (by simpa using e) (Rel.drop R)
 |_,[],_::_,_,_,al,_,_=>by simp[Al]at al
 |_,_::_,[],_,_,al,_,_=>by simp[Al]at al
 |_,[],_,_::_,_,_,e,_=>by simp at e
 |_,_::_,_,[],_,_,e,_=>by simp at e
end
structure FnD (P:Program)(w:World)(K:Waa)(mg:Str->Option Value)(base:Heap)(k:Nat)(f:Addr)(fd:FuncData)(ps:List Str)(sp:DSp):Prop where
 ok:FnOk P w K mg base CX0 k f fd ps (toSp K sp)
 mono:tQ sp
section
variable{X:Cx}{K:Waa}{a b c e:Expr}{es:List Expr}{da db dc:DE}{dt:DA}{pos p:Pos}{x:Str}{k:Nat}{f:Addr}{fd:FuncData}{ps:List Str}{sp:DSp}
def zl(sp:DSp)(ios:List Bool)(t:DA):DE:=λj Q=>t j λh g=>∃i d,ba ios g h=some (i,d)/\sp i λx l=>Q (.val x) (dZ ios h l d)
def uA(G:FnD X.prog X.w X.K X.mg X.base k f fd ps sp)(s1:tR X.K ta dt):cI X.K (ze (toSp X.K sp) [] E0 ta) (zl sp ios dt):=λb F y H B n j O Q u R h q=>s1 b F y H B n j _ _ u R h λo P S M t s ⟨N,l,A,L⟩=>by
  obtain⟨z,g⟩:=argsR_ok s t A;have D:=((aQ t).mp s.al).1;have w:=z.vals g;rw[aam,<-u];refine w.call g G.mono (G.mono _ _ _ (λx r I d v m J=>q v m _ _ ?_ I) L);have C:Rel b F y m l (v::(o++n)) (.val x::(r.map OR.val++j)):=by have i:=z.drops (by simpa using g);refine⟨i.wf,(aQ (by simpa using d)).mpr ⟨fA d,i.al⟩,i.wff,?_⟩;show Wd b m ((v,x)::(stk (o++n) (r.map OR.val++j)++_));rw[aE (by simpa using d),cB d,aad];exact J
  exact cb D d (Rel.tor C (by simpa using d))
def xJ{ios:List Bool} (G:FnD X.prog X.w X.K X.mg X.base k f fd ps sp) (j:Room k X.A) (i:Gl X x) (h:X.mg x=some (.ref f)) (hk:PySem.W.keepIn X.K (.ref f)=true) (m:Binds X.K fd ps []) (d:(x==("__debug__":Str))=false:=by decide)
  (l:starEach (e::es) X.env=(false,eval e X.env)::starEach es X.env:=by rfl) (g:(backTo pos (starEach es X.env)).any (·.1)=false:=by rfl):PDa X (e::es) dt->PDe X (.Call (.Name x p) (e::es) [] pos) (zl sp ios dt)
 |⟨_,h1,s1⟩=>⟨_,wR (E:=E0) G.ok j i h hk m .nil oN h1 d l g,uA G s1⟩
end
def HK:PyData->Bool
 |.int _=>true
 |.bool _=>true
 |.str _=>true
 |.none=>true
 |_=>false
section
variable{P:Program}{w:World}{K:Waa}{mg:Str->Option Value}{base:Heap}
def bT:∀{vs:List V}{n:Nat}{ρ:DEnv},flat (vs.map some++List.replicate n none) ρ=flat (vs.map some) ρ
 |[],0,_=>rfl
 |[],n+1,[]=>rfl
 |[],n+1,o::ρ=>by
  rw[aaC,aaM,abf];have:flat (none::List.replicate n none) (o::ρ)=flat (List.replicate n none) ρ:=by cases o<;>rfl
  rw[this];have:=bT (vs:=[]) (n:=n) (ρ:=ρ);simpa[flat] using this
 |v::vs,n,[]=>by simp[flat]
 |v::vs,n,none::ρ=>by simp only[aaj,aaK,bq];exact bT
 |v::vs,n,some x::ρ=>by simp only[aaj,aaK,flat];rw[bT]
def iN:∀{vs:List V}{xs:List OD}{k:Nat},vs.length=xs.length->flat (vs.map some) (xs.map some++List.replicate k none)=vs.zip xs
 |[],[],0,_=>rfl
 |[],[],_+1,_=>rfl
 |v::vs,x::xs,k,e=>by simp only[aaj,aaK,flat,abC];rw[iN (by simpa using e)]
 |[],_::_,_,e=>by simp at e
 |_::_,[],_,e=>by simp at e
def iO:∀{vs:List V}{xs:List OD}{k:Nat},vs.length=xs.length->Wf (vs.map some++List.replicate k none) (xs.map some++List.replicate k none)
 |[],[],0,_=>trivial
 |[],[],k+1,_=>by have:=iO (vs:=[]) (xs:=[]) (k:=k) rfl;exact this
 |v::vs,x::xs,k,e=>iO (xs:=xs) (by simpa using e)
 |[],_::_,_,e=>by simp at e
 |_::_,[],_,e=>by simp at e
def fb(N:Nat)(xs:List OD):DEnv:=xs.map some++List.replicate (N-xs.length) none
def aU:Nat->List Bool->List OD->DEnv->Option (List OD)
 |_,[],[],_=>some []
 |i,true::ios,_::xs,ρ=>match ρ[i]?.join with
  |some y=>match aU (i+1) ios xs ρ with|some ys=>some (y::ys)|none=>none
  |none=>none
 |i,false::ios,.fz d::xs,ρ=>match aU (i+1) ios xs ρ with|some ys=>some (.fz d::ys)|none=>none
 |_,_,_,_=>none
def WS(ios:List Bool):Nat->Prop:=λj=>ios[j]?=some true
def fD:Nat->List Bool->List V->List V
 |i,true::ios,v::vs=>v::fD (i+1) ios vs
 |i,false::ios,_::vs=>fD (i+1) ios vs
 |_,_,_=>[]
def dJ:Nat->List Bool->List OR
 |i,true::ios=>.rf i::dJ (i+1) ios
 |i,false::ios=>dJ (i+1) ios
 |_,[]=>[]
def kB:∀{ios:List Bool}{vs:List V}{i:Nat},ios.length=vs.length->(∀k v,vs[k]?=some v->σ[i+k]?=some (some v))->Al σ (fD i ios vs) (dJ i ios)
 |[],[],_,_,_=>trivial
 |true::ios,v::vs,i,e,h=>⟨h 0 v rfl,kB (ios:=ios) (by simpa using e) λk u a=>by have:=h (k+1) u (by simpa using a);rwa [show i+1+k=i+(k+1) by omega]⟩
 |false::ios,v::vs,i,e,h=>kB (i:=i+1) (by simpa using e) λk u a=>by have:=h (k+1) u (by simpa using a);rwa [show i+1+k=i+(k+1) by omega]
 |[],_::_,_,e,_=>by simp at e
 |true::_,[],_,e,_=>by simp at e
 |false::_,[],_,e,_=>by simp at e
def kC:∀{ios:List Bool}{i:Nat}{W:Nat->Prop},(∀k,ios[k]?=some true->W (i+k))->NoRf W (dJ i ios)
 |[],_,_,_=>λr a=>by simp[dJ]at a
 |true::ios,i,W,h=>λr a=>by
  simp only[dJ]at a;rcases aab.mp a with rfl|a
  ·exact .inr ⟨i,h 0 rfl,rfl⟩
  ·exact kC (ios:=ios) (λk b=>by have:=h (k+1) (by simpa using b);rwa [show i+1+k=i+(k+1) by omega]) r a
 |false::ios,i,W,h=>λr a=>kC (i:=i+1) (λk b=>by have:=h (k+1) (by simpa using b);rwa [show i+1+k=i+(k+1) by omega]) r a
def fE:∀{ios:List Bool}{vs:List V}{i:Nat},stk (fD i ios vs) (dJ i ios)=[]
 |[],[],_=>rfl
 |[],_::_,_=>rfl
 |true::ios,[],i=>by simp[fD,dJ,stk]
 |false::ios,[],i=>by have:fD i (false::ios) ([]:List V)=[]:=rfl;rw[this];cases h:dJ i (false::ios)<;>rfl
 |true::ios,v::vs,i=>fE (i:=i+1)
 |false::ios,v::vs,i=>fE (i:=i+1)
end
end
section
section
variable{P:Program}{w:World}{K:Waa}{mg:Str->Option Value}{base:Heap}{b:Bs}{σ:St}{H:Hp}
def Wd.addF(w:Wd b H L)(f:Fz b.K (λa=>b.C a\/b.S0 a) b.H0 v d):Wd b H ((v,.fz d)::L):=by
 obtain⟨A,h,g,e⟩:=w.out;refine⟨⟨A,Ows.cons (.fz (f.step (w.fr.weak λc z=>.inl (.inl z)) λc z=>?_)) h,g,e⟩,w.fr,w.s0,w.nt⟩;rcases z with z|z
 ·exact(e c z).elim .inr λz=>.inl (.inl z)
 ·exact .inl (.inr z)
def gn:∀{ios:List Bool}{xs:List OD}{i j:Nat}{ρ:DEnv},j<i->aU i ios xs (ρ.set j none)=aU i ios xs ρ
 |[],[],_,_,_,_=>rfl
 |true::ios,_::xs,i,j,ρ,h=>by simp only[aU];rw[aaS (by omega),gn (by omega)]
 |false::ios,.fz d::xs,i,j,ρ,h=>by simp only[aU];rw[gn (by omega)]
 |[],_::_,_,_,_,_=>rfl
 |true::_,[],_,_,_,_=>rfl
 |false::_,[],_,_,_,_=>rfl
 |false::_,.lst _::_,_,_,_,_=>rfl
 |false::_,.tup _::_,_,_,_,_=>rfl
 |false::_,.dic _ _::_,_,_,_,_=>rfl
 |false::_,.obj _ _ _::_,_,_,_,_=>rfl
 |false::_,.pin _ _ _::_,_,_,_,_=>rfl
 |false::_,.hole _::_,_,_,_,_=>rfl
def kD:∀{ios:List Bool}{vs:List V}{xs ys:List OD}{i:Nat}{ρ:DEnv}{L1:List (V×OD)},vs.length=xs.length->(∀(k:Nat) v d,vs[k]?=some v->xs[k]?=some (.fz d)->Fz b.K (λa=>b.C a\/b.S0 a) b.H0 v d)->aU i ios xs ρ=some ys ->
  Al σ (fD i ios vs) (dJ i ios)->Wf σ ρ->Wd b H (L1++flat σ ρ)->vs.length=ys.length/\∃R,Wd b H (L1++(vs.zip ys++R))
 |[],[],[],ys,i,ρ,L1,_,_,e,_,_,w=>by simp only[aU]at e;cases e;exact⟨rfl,_,w⟩
 |true::ios,v::vs,x::xs,ys,i,ρ,L1,el,hf,e,al,wf,w=>by
  simp only[aU]at e;split at e
  ·rename_i y o;split at e
   ·rename_i m g;cases e;have n:σ[i]?=some (some v):=al.1;have f:Wd b H ((L1++[(v,y)])++flat σ (ρ.set i none)):=w.perm (by
     rw[aad];exact(bA (join_some o) n).append_left _)
    obtain⟨j,R,c⟩:=kD (by simpa using el) (λk u d l h=>hf (k+1) u d (by simpa using l) (by simpa using h)) (by rw[gn (by omega)];exact g) al.2 wf.off f;exact⟨by simp[j],R,by rw[aad]at c;exact c⟩
   ·cases e
  ·cases e
 |false::ios,v::vs,.fz d::xs,ys,i,ρ,L1,el,hf,e,al,wf,w=>by
  simp only[aU]at e;split at e
  ·rename_i m g;cases e;have f:Wd b H ((L1++[(v,.fz d)])++flat σ ρ):=(w.addF (hf 0 v d rfl rfl)).perm (by
    rw[aad];exact aas.symm)
   obtain⟨j,R,c⟩:=kD (by simpa using el) (λk u d l h=>hf (k+1) u d (by simpa using l) (by simpa using h)) g al wf f;exact⟨by simp[j],R,by rw[aad]at c;exact c⟩
  ·cases e
 |[],_::_,_::_,_,_,_,_,_,_,e,_,_,_=>by simp[aU]at e
 |true::_,[],[],_,_,_,_,_,_,e,_,_,_=>by simp[aU]at e
 |false::_,[],[],_,_,_,_,_,_,e,_,_,_=>by simp[aU]at e
 |false::_,_::_,.lst _::_,_,_,_,_,_,_,e,_,_,_=>by simp[aU]at e
 |false::_,_::_,.tup _::_,_,_,_,_,_,_,e,_,_,_=>by simp[aU]at e
 |false::_,_::_,.dic _ _::_,_,_,_,_,_,_,e,_,_,_=>by simp[aU]at e
 |false::_,_::_,.obj _ _ _::_,_,_,_,_,_,_,e,_,_,_=>by simp[aU]at e
 |false::_,_::_,.pin _ _ _::_,_,_,_,_,_,_,e,_,_,_=>by simp[aU]at e
 |false::_,_::_,.hole _::_,_,_,_,_,_,_,e,_,_,_=>by simp[aU]at e
 |_,[],_::_,_,_,_,_,e,_,_,_,_,_=>by simp at e
 |_,_::_,[],_,_,_,_,e,_,_,_,_,_=>by simp at e
def Ows.fzAt:∀{vs:List V}{xs:List OD}{A:List Addr}{k:Nat}{v:V}{d:PyData},Ows b S H vs xs A->vs[k]?=some v->xs[k]?=some (.fz d)->Fz b.K S H v d
 |_,_,_,0,_,_,.cons r _,e,e'=>by simp at e e';subst e e';cases r with|fz f=>exact f
 |_,_,_,k+1,_,_,.cons _ t,e,e'=>Ows.fzAt (k:=k) t (by simpa using e) (by simpa using e')
 |_,_,_,_,_,_,.nil,e,_=>by simp at e
def Fun.okD{y:Stmt}(F:Fun K x qual y f fd)(S:FnScope N ps (aL y))(J:tQ sp)(a4:ios.length=ps.length)(u:∀xs Q,sp xs Q->xs.length=ps.length)
  (o:∀(n:Value) (A:Around) (g:List Env) (s:Shared) (H:Hp) (E:XK),Room k (A.deeper (envOfC qual (aL y) s.heap.objs.size f n))->∀(xs:List OD) (Q:OD->List OD->Prop),sp xs Q ->
   ∃O,PDss (kc CX0 P w K mg base N qual (aL y) f n A g s H E).nox (WS ios) (cv y) O/\O { nx:=λT=>∃l,aU 0 ios xs T=some l/\Q (.fz .none) l,rt:=λx T=>∃l,aU 0 ios xs T=some l/\Q x l } (fb N.length xs)):FnD P w K mg base (k+1) f fd ps sp:=by
 refine⟨F.ok S (λj H Q E h=>?_) (λn A g s H j Q E hr h=>?_),J⟩
 ·obtain⟨S,xs,A,_,_,C,_,h⟩:=h;rw[C.len];exact u _ _ h
 ·obtain⟨S',xs,A',al,nt,C,nA,h⟩:=h;obtain⟨O,⟨ts,Y,s1⟩,hd⟩:=o n A g s H E hr xs _ h;refine⟨ts,Y,?_⟩
  let b:Bs:=⟨K,H,S',λa=>a∈A'⟩
  have M:=C.len;have a3:=u _ _ h;have w0:Wd b H (j.zip xs):=⟨⟨A',OwL.oe C,nA,λa U=>.inr U⟩,Kp.refl _ _,λa z=>⟨(al a z).1,(al a z).2⟩,nt⟩
  have sg:∀(k:Nat) v,j[k]?=some v->(start N j)[0+k]?=some (some v):=λk v e=>by have X:=(aar.mp e).1;unfold start;rw[aaO,abV (by simpa using X),aav,e];rfl
  have R:Rel b [] (start N j) H (fb N.length xs) (fD 0 ios j) (dJ 0 ios):=by unfold start fb;refine⟨by rw[M];exact iO M,kB (by omega) sg,λf hf=>(by cases hf),?_⟩;rw[fE];show Wd b H ([]++(flat _ _++[]));rw[aaM,aam,bT,iN M];exact w0
  have q:∀(m:St) (p:Hp) (i:DEnv) (v:V) (x:OD),Rel b [] m p i (v::fD 0 ios j) (.val x::dJ 0 ios)->(∃l,aU 0 ios xs i=some l/\HI K S' A' j H Q x l)->Q v p:=λm p i v x I ⟨l,ey,U⟩=>by
   have w':Wd b p ([(v,x)]++flat m i):=by have:=I.wd;simp only[stk]at this;rw[fE]at this;simpa[ff] using this
   obtain⟨W,Z,L⟩:=kD M (λk v d Y h2=>(Ows.fzAt C Y h2).sub λa z=>z) ey I.al I.wf w';have e1:[(v,x)]++(j.zip l++Z)=(v::j).zip (x::l)++Z:=rfl;rw[e1]at L;obtain⟨B0,h0,nd,a0⟩:=L.out;have a2:=L.rz h0;obtain⟨B,B2,rfl,r,t⟩:=OwL.h8 h0;refine U v p B L.fr (Ows.sub a2 (λc z=>z.imp (aae _) id) (OwL.y2 (by simp[W]) r)) (aaA.mp nd).1 λa a1=>a0 a (aae _ a1)
  refine s1 b [] (start N j) H _ _ _ _ _ rfl (kC λk X=>?_) R hd ⟨λm p i I D=>?_,λ_ _ _ _ D=>D.elim,λ_ _ _ _ D=>D.elim,q⟩
  ·rw[aaO];exact X
  ·exact q m p i .non _ (I.sc .non) D
end
end
section
inductive Bo where|add|sub|mul|fdiv|mod|pow
inductive Co where|lt|le|gt|ge|eq|ne|inn|nin
inductive Bl where|len|abs|max|min|int|all
inductive Knd where|int|bool|str|list|tuple|seq
inductive Bn where|list|tuple|sorted
inductive Acc where|fld (c f:Str)|ix (k:Int)|key (j:Nat)
inductive Tg where|nm (i:Nat)|tp (ts:List Nat)|sb (i:Nat)(k l:Int)
mutual
inductive E where
 |nm (i:Nat)|mv (i:Nat)|int (k:Int)|str (x:Str)|bl (b:Bool)|gc (g:Nat)
 |bop (o:Bo) (a b:E)|cat (a b:E)
 |cmp (o:Co) (a b:E)|isn (neg:Bool) (a:E)
 |and (a b:E)|or (a b:E)|not (a:E)|neg (a:E)|ife (c a b:E)
 |tup (es:Es)|lst (es:Es)|ix (a b:E)
 |call (f:Nat) (es:Es)|blt (f:Bl) (es:Es)|bnw (f:Bn) (e:E)|isi (k:Knd) (a:E)|sdd (i:Nat)|ln (i:Nat)|nen (i:Nat)|dnew
 |pg (i:Nat) (ps:List Acc)|pf (i:Nat) (ps:List Acc)|pl (i:Nat) (ps:List Acc)|pt (i:Nat) (ps:List Acc)|pin (neg:Bool) (e:E) (i:Nat) (ps:List Acc)|din (neg:Bool) (e:E) (i:Nat) (ps:List Acc)
 |comp (nt:Nat) (fr:List Nat) (it:It') (tg:Tg) (ifs:Eo) (elt:E)|compB (i nt:Nat) (fr:List Nat) (tg:Tg) (ifs:Eo) (elt:E)
 |meth (c m:Str) (f:Nat) (i:Nat) (es:Es)|make (c:Str) (f:Nat) (es:Es)
inductive Es where|nil|cons (e:E)(es:Es)
inductive Eo where|none|some (e:E)
inductive It' where|seq (e:E)|rg1 (e:E)|enm (e:E)|zip (a b:E)
end
mutual
inductive S' where
 |ex (e:E)|set (i:Nat) (e:E)|asg (t:Tg) (e:E)|par (is:List Nat) (es:Es)|aug (i:Nat) (o:Bo) (e:E)
 |ret (e:E)|iff (c:E) (a b:Ss)|whl (c:E) (b:Ss)|fr (t:Tg) (it:It') (b:Ss)|cont|brk
 |app (i:Nat) (e:E)|apd (i:Nat) (ps:List Acc) (e:E)|sti (i:Nat) (k e:E)|sdk (i:Nat) (k e:E)|std (i:Nat) (ps:List Acc) (j:Nat) (e:E)
 |sdc (i nt:Nat) (fr:List Nat) (it:It') (tg:Tg) (ke ve:E)|stf (i:Nat) (c f:Str) (e:E)|agf (i:Nat) (c f:Str) (o:Bo) (e:E)
inductive Ss where|nil|cons (s:S')(ss:Ss)|ali (i:Nat)(ps:List Acc)(j:Nat)(ss:Ss)|alo (c:E)(i:Nat)(ps qs:List Acc)(j k:Nat)(ss:Ss)
end
structure Fn where
 io:List Bool
 n:Nat
 body:Ss
structure Ct where
 io:Nat->List Bool
 call:Nat->List OD->Option (OD×List OD)
 mak:Nat->List OD->Option (OD×List OD)
 gv:Nat->PyData
 wf:Nat
def sd:OD->Option PyData|.fz d=>some d|_=>none
def nS:OD->Option (List OD)|.lst xs=>some xs|_=>none
def Bm:OD->Option (List Key×List OD)|.dic ks xs=>some (ks,xs)|_=>none
def D5:OD->Option (Str×List Str×List OD)|.obj c ns xs=>some (c,ns,xs)|_=>none
def HL(x:OD):Option (List OD):=match x with|.lst xs=>some xs|.tup xs=>some xs|_=>none
def gQ:PyData->Option Int|.int i=>some i|_=>none
def FR:PyData->Option Bool|.bool k=>some k|_=>none
def FS:PyData->Option (List PyData)|.list ds=>some ds|_=>none
def uB:PyData->Option (List PyData)|.list ds=>some ds|.tuple ds=>some ds|_=>none
def gd(c:Prop)[Decidable c]:Option Unit:=if c then some () else none
def fF{a:Type}:List a->Option a|[x]=>some x|_=>none
def Bp{a:Type}:List a->Option (a×a×a)|[x,y,z]=>some (x,y,z)|_=>none
def hX{a:Type}:List a->Option (a×a)|[x,y]=>some (x,y)|_=>none
def HM(w:OD×List OD):Option (OD×List OD):=(sd w.1).bind λd=>match d,w.2 with|.none,y::ys=>some (y,ys)|_,_=>none
def HN:Bo->Int->Int->Option Int
 |.add,i,j=>some (i+j)
 |.sub,i,j=>some (i-j)
 |.mul,i,j=>(gd ((-(2^64)<i/\i<2^64)\/(-(2^64)<j/\j<2^64))).bind λ_=>some (i*j)
 |.fdiv,i,j=>(gd (0<j/\j<1073741824)).bind λ_=>some (i/j)
 |.mod,i,j=>(gd (0<j)).bind λ_=>some (i%j)
 |.pow,i,j=>(gd (0<=j/\j<=1000000/\i.natAbs<2^64)).bind λ_=>some (i^j.toNat)
def xK(o:Bo)(x y:PyData):Option PyData:=(gQ x).bind λi=>(gQ y).bind λj=>(HN o i j).bind λk=>some (.int k)
def eqA(x y:PyData):Option Bool:=match rQ x y with
 |some k=>some k
 |none=>if SeqAt.shaped x&&SeqAt.shaped y then some (PyData.eqv x y) else none
def inA(x y:PyData):Option Bool:=(uB y).bind λa=>(gd (CO x=true)).bind λ_=>memD x a
def mo(o:Co)(x y:PyData):Option Bool:=match o with
 |.lt=>(gQ x).bind λi=>(gQ y).bind λj=>some (decide (i<j))
 |.le=>(gQ x).bind λi=>(gQ y).bind λj=>some (decide (i<=j))
 |.gt=>(gQ x).bind λi=>(gQ y).bind λj=>some (decide (j<i))
 |.ge=>(gQ x).bind λi=>(gQ y).bind λj=>some (decide (j<=i))
 |.eq=>eqA x y
 |.ne=>(eqA x y).bind λk=>some (!k)
 |.inn=>inA x y
 |.nin=>(inA x y).bind λk=>some (!k)
def kE:PyData->Option Bool
 |.none=>some false|.bool b=>some b|.int i=>some (i !=0)
 |.list ds=>some (!ds.isEmpty)|.tuple ds=>some (!ds.isEmpty)
 |_=>none
def wD:Knd->PyData->Bool
 |.int,.int _=>true|.int,.bool _=>true|.bool,.bool _=>true|.str,.str _=>true|.list,.list _=>true|.tuple,.tuple _=>true|.seq,.list _=>true|.seq,.tuple _=>true
 |_,_=>false
def jF:List PyData->Option (List Int)
 |[]=>some []
 |d::ds=>(gQ d).bind λi=>(jF ds).bind λr=>some (i::r)
def CP(f:Bl)(ds:List PyData):Option PyData:=match f with
 |.len=>(fF ds).bind λd=>(iM d).bind λn=>some (.int n)
 |.abs=>(fF ds).bind λd=>(gQ d).bind λi=>some (.int (if i<0 then -i else i))
 |.max=>(hX ds).bind λz=>(gQ z.1).bind λi=>(gQ z.2).bind λj=>some (.int (if j>i then j else i))
 |.min=>(hX ds).bind λz=>(gQ z.1).bind λi=>(gQ z.2).bind λj=>some (.int (if j<i then j else i))
 |.int=>(fF ds).bind λd=>(toInt d).bind λi=>some (.int i)
 |.all=>(fF ds).bind λd=>(FS d).bind λa=>(allB a).bind λb=>some (.bool (b.all id))
def insI(i:Int):List Int->List Int
 |[]=>[i]
 |j::r=>if i<=j then i::j::r else j::insI i r
def sortI:List Int->List Int
 |[]=>[]
 |i::r=>insI i (sortI r)
def mq:List Key->Option (List Int)
 |[]=>some []
 |.inl i::ks=>(mq ks).bind λr=>some (i::r)
 |.inr _::_=>none
def keyOf:PyData->Option Key
 |.int i=>some (.inl i)
 |.str x=>some (.inr x)
 |_=>none
def accN(ρ:DEnv)(x:OD):Acc->Option Nat
 |.fld c f=>(D5 x).bind λq=>(gd (q.1=c)).bind λ_=>q.2.1.findIdx? (λg=>decide (g=f))
 |.ix k=>(HL x).bind λxs=>ixN xs.length k
 |.key j=>(ρ[j]?.join).bind λy=>(sd y).bind λd=>(Bm x).bind λq=>(keyOf d).bind λk=>q.1.findIdx? (λq=>decide (q=k))
def ak(ρ:DEnv)(i:Nat):List Acc->Option (OD×List Nat×OD)
 |[]=>(ρ[i]?.join).bind λx=>some (x,[],x)
 |a::ps=>(ak ρ i ps).bind λp=>(accN ρ p.2.2 a).bind λk=>(p.2.2.kids[k]?).bind λz=>some (p.1,p.2.1++[k],z)
def unpA(x:OD):Option (List OD):=match unpT x with|some a=>some a|none=>unpL x
def GP(ts:List Nat)(x:OD)(ρ:DEnv):Option DEnv:=(unpA x).bind λa=>(gd (a.length=ts.length/\∀i∈ts,i<ρ.length)).bind λ_=>some (dY ts a ρ)
def aW:Tg->OD->DEnv->Option DEnv
 |.nm i,x,ρ=>(gd (i<ρ.length)).bind λ_=>some (ρ.set i (some x))
 |.tp ts,x,ρ=>GP ts x ρ
 |.sb i k l,x,ρ=>(unpA x).bind λxs=>(hX xs).bind λz=>(ρ[i]?.join).bind λy=>(nS y).bind λys=>(ixN ys.length k).bind λa=>(ixN ys.length l).bind λb=>some (ρ.set i (some (.lst ((ys.set a z.1).set b z.2))))
def bw(step:PyData->DEnv->Option (List PyData×DEnv)):List PyData->List PyData->DEnv->Option (List PyData×DEnv)
 |[],out,ρ=>some (out,ρ)
 |d::ds,out,ρ=>(step d ρ).bind λw=>bw step ds (out++w.1) w.2
def gR(step:List Key×List OD->PyData->DEnv->Option ((List Key×List OD)×DEnv)):List PyData->List Key×List OD->DEnv->Option ((List Key×List OD)×DEnv)
 |[],o,ρ=>some (o,ρ)
 |d::ds,o,ρ=>(step o d ρ).bind λw=>gR step ds w.1 w.2
inductive Fl where|nx|bk|ct|rt (x:OD)
def bE(step:PyData->DEnv->Option (Fl×DEnv)):List PyData->DEnv->Option (Fl×DEnv)
 |[],ρ=>some (.nx,ρ)
 |d::ds,ρ=>(step d ρ).bind λw=>match w.1 with
  |.nx=>bE step ds w.2
  |.ct=>bE step ds w.2
  |.bk=>some (.nx,w.2)
  |.rt x=>some (.rt x,w.2)
def eh(c:DEnv->Option (Bool×DEnv))(b:DEnv->Option (Fl×DEnv)):Nat->DEnv->Option (Fl×DEnv)
 |0,_=>none
 |n+1,ρ=>(c ρ).bind λx=>if x.1=true then (b x.2).bind λw=>match w.1 with
   |.nx=>eh c b n w.2
   |.ct=>eh c b n w.2
   |.bk=>some (.nx,w.2)
   |.rt x=>some (.rt x,w.2)
  else some (.nx,x.2)
def vt(f:DEnv->Option (OR×DEnv)):(DEnv->Option (OR×DEnv))×(DEnv->Option (Bool×DEnv)):=(f,λa=>(f a).bind λx=>(aJ x.2 x.1).bind λd=>(kE d).bind λk=>some (k,x.2))
section
variable(C:Ct)
mutual
def dM:E->(DEnv->Option (OR×DEnv))×(DEnv->Option (Bool×DEnv))
 |.nm i=>vt λρ=>match ρ[i]?.join with
  |some (.fz d)=>some (.val (.fz d),ρ)
  |some _=>some (.rf i,ρ)
  |none=>none
 |.mv i=>vt λρ=>(ρ[i]?.join).bind λx=>some (.val x,ρ.set i none)
 |.int k=>vt λρ=>some (.val (.fz (.int k)),ρ)
 |.str x=>vt λρ=>some (.val (.fz (.str x)),ρ)
 |.bl b=>vt λρ=>some (.val (.fz (.bool b)),ρ)
 |.gc g=>vt λρ=>some (.val (.fz (C.gv g)),ρ)
 |.bop o a b=>vt λρ=>((dM a).1 ρ).bind λx=>((dM b).1 x.2).bind λy=>(aJ y.2 x.1).bind λdx=>(aJ y.2 y.1).bind λdy=>(xK o dx dy).bind λd=>some (.val (.fz d),y.2)
 |.cat a b=>vt λρ=>((dM a).1 ρ).bind λx=>((dM b).1 x.2).bind λy=>(zk y.2 x.1).bind λdx=>(zk y.2 y.1).bind λdy=>(gd (dx.length+dy.length<=1000000)).bind λ_=>some (.val (.lst ((dx++dy).map OD.fz)),y.2)
 |.cmp o a b=>vt λρ=>((dM a).1 ρ).bind λx=>((dM b).1 x.2).bind λy=>(aJ y.2 x.1).bind λdx=>(aJ y.2 y.1).bind λdy=>(mo o dx dy).bind λk=>some (.val (.fz (.bool k)),y.2)
 |.isn neg a=>vt λρ=>((dM a).1 ρ).bind λx=>(aJ x.2 x.1).bind λd=>some (.val (.fz (.bool (if neg then !isNn d else isNn d))),x.2)
 |.and a b=>(λρ=>((dM a).1 ρ).bind λx=>(aJ x.2 x.1).bind λd=>(FR d).bind λk=>if k=true then (dM b).1 x.2 else some (.val (.fz (.bool false)),x.2),λρ=>((dM a).2 ρ).bind λx=>if x.1=true then (dM b).2 x.2 else some (false,x.2))
 |.or a b=>(λρ=>((dM a).1 ρ).bind λx=>(aJ x.2 x.1).bind λd=>(FR d).bind λk=>if k=true then some (.val (.fz (.bool true)),x.2) else (dM b).1 x.2,λρ=>((dM a).2 ρ).bind λx=>if x.1=true then some (true,x.2) else (dM b).2 x.2)
 |.not a=>(λρ=>((dM a).1 ρ).bind λx=>(aJ x.2 x.1).bind λd=>(FR d).bind λk=>some (.val (.fz (.bool (!k))),x.2),λρ=>((dM a).2 ρ).bind λx=>some (!x.1,x.2))
 |.neg a=>vt λρ=>((dM a).1 ρ).bind λx=>(aJ x.2 x.1).bind λd=>(gQ d).bind λi=>some (.val (.fz (.int (-i))),x.2)
 |.ife c a b=>vt λρ=>((dM c).2 ρ).bind λx=>if x.1=true then (dM a).1 x.2 else (dM b).1 x.2
 |.tup es=>vt λρ=>(evs es ρ).bind λx=>(mapR own1 x.2 x.1).bind λz=>(gd (x.1.length<=1000000)).bind λ_=>some (.val (mkTup z.1),z.2)
 |.lst es=>vt λρ=>(evs es ρ).bind λx=>(mapR own1 x.2 x.1).bind λz=>(gd (x.1.length<=1000000)).bind λ_=>some (.val (.lst z.1),z.2)
 |.ix a b=>vt λρ=>((dM a).1 ρ).bind λx=>((dM b).1 x.2).bind λy=>(aJ y.2 y.1).bind λd=>(gQ d).bind λi=>(bu y.2 x.1 i).bind λz=>some (.val z.1,z.2)
 |.call f es=>vt λρ=>(evs es ρ).bind λx=>(ba (C.io f) x.2 x.1).bind λz=>(C.call f z.1).bind λw=>some (.val w.1,dZ (C.io f) x.1 w.2 z.2)
 |.blt f es=>vt λρ=>(evs es ρ).bind λx=>(iL x.2 x.1).bind λds=>(CP f ds).bind λd=>some (.val (.fz d),x.2)
 |.bnw f e=>vt λρ=>((dM e).1 ρ).bind λx=>match f with
  |.list=>((dW x.2 x.1).bind seqOf).bind λds=>some (.val (.lst (ds.map OD.fz)),x.2)
  |.tuple=>((dW x.2 x.1).bind listOf).bind λds=>some (.val (.fz (.tuple ds)),x.2)
  |.sorted=>(aJ x.2 x.1).bind λd=>(FS d).bind λds=>(jF ds).bind λns=>(gd (ns.length<64)).bind λ_=>some (.val (.lst ((sortI ns).map λi=>.fz (.int i))),x.2)
 |.isi k a=>vt λρ=>((dM a).1 ρ).bind λx=>(aJ x.2 x.1).bind λd=>some (.val (.fz (.bool (wD k d))),x.2)
 |.sdd i=>vt λρ=>(ρ[i]?.join).bind λx=>(Bm x).bind λq=>(mq q.1).bind λns=>(gd (ns.length<64)).bind λ_=>some (.val (.lst ((sortI ns).map λi=>.fz (.int i))),ρ)
 |.ln i=>vt λρ=>(ρ[i]?.join).bind λx=>(nS x).bind λxs=>some (.val (.fz (.int xs.length)),ρ)
 |.nen i=>vt λρ=>(ρ[i]?.join).bind λx=>(nS x).bind λxs=>some (.val (.fz (.bool (!xs.isEmpty))),ρ)
 |.dnew=>vt λρ=>some (.val (.dic [] []),ρ)
 |.pg i ps=>vt λρ=>(ak ρ i ps).bind λp=>(sd p.2.2).bind λd=>some (.val (.fz d),ρ)
 |.pf i ps=>vt λρ=>(ak ρ i ps).bind λp=>(p.2.2.dat).bind λd=>some (.val (.fz d),ρ.set i (some (OD.put (.fz d) p.2.1 p.1)))
 |.pl i ps=>vt λρ=>(ak ρ i ps).bind λp=>(p.2.2.dat).bind λd=>(iM d).bind λn=>some (.val (.fz (.int n)),ρ)
 |.pt i ps=>(λ_=>none,λρ=>(ak ρ i ps).bind λp=>(p.2.2.dat).bind λd=>(kE d).bind λk=>some (k,ρ))
 |.pin neg e i ps=>vt λρ=>((dM e).1 ρ).bind λx=>(aJ x.2 x.1).bind λdx=>(ak x.2 i ps).bind λp=>(p.2.2.dat).bind λd=>(mo (if neg then .nin else .inn) dx d).bind λk=>some (.val (.fz (.bool k)),x.2)
 |.din neg e i ps=>vt λρ=>((dM e).1 ρ).bind λx=>(aJ x.2 x.1).bind λdx=>(ak x.2 i ps).bind λp=>(keyOf dx).bind λk=>(Bm p.2.2).bind λq=>some (.val (.fz (.bool (if neg then !(q.1.any λq=>decide (q=k)) else q.1.any λq=>decide (q=k)))),x.2)
 |.comp nt fr it tg ifs elt=>vt λρ=>(sF it ρ).bind λx=>(gd (x.1.length<1000000)).bind λ_=>(cJ x.2 fr).bind λz=>
   (bw (λd h=>(aW tg (.fz d) h).bind λρ1=>(FT ifs ρ1).bind λk=>if k.1=true then ((dM elt).1 k.2).bind λy=>(frz1 y.2 y.1).bind λq=>some ([q.1],q.2) else some ([],k.2)) x.1 [] (List.replicate nt none++z.1)).bind λw=>
    some (.val (.lst (w.1.map OD.fz)),eR z.2 fr (w.2.drop nt))
 |.compB i nt fr tg ifs elt=>vt λρ=>(ρ[i]?.join).bind λj=>(nS j).bind λxs=>(tZ xs).bind λds=>(gd (ds.length<1000000)).bind λ_=>(cJ (ρ.set i none) fr).bind λz=>
   (bw (λd h=>(aW tg (.fz d) h).bind λρ1=>(FT ifs ρ1).bind λk=>if k.1=true then ((dM elt).1 k.2).bind λy=>(frz1 y.2 y.1).bind λq=>some ([q.1],q.2) else some ([],k.2)) ds [] (List.replicate nt none++z.1)).bind λw=>
    some (.val (.lst (w.1.map OD.fz)),(eR z.2 fr (w.2.drop nt)).set i (some (.lst xs)))
 |.meth c m f i es=>vt λρ=>(ρ[i]?.join).bind λj=>(D5 j).bind λq=>(gd (q.1=c/\m ∉ q.2.1)).bind λ_=>(evs es ρ).bind λx=>(ba (C.io f) x.2 (.rf i::x.1)).bind λz=>(C.call f z.1).bind λw=>some (.val w.1,dZ (C.io f) (.rf i::x.1) w.2 z.2)
 |.make c f es=>vt λρ=>(evs es ρ).bind λx=>(ba (C.io f).tail x.2 x.1).bind λz=>(C.mak f (.obj c [] []::z.1)).bind λw=>(HM w).bind λy=>some (.val y.1,dZ (C.io f).tail x.1 y.2 z.2)
def evs:Es->DEnv->Option (List OR×DEnv)
 |.nil,ρ=>some ([],ρ)
 |.cons e es,ρ=>((dM e).1 ρ).bind λx=>(evs es x.2).bind λy=>some (x.1::y.1,y.2)
def FT:Eo->DEnv->Option (Bool×DEnv)
 |.none,ρ=>some (true,ρ)
 |.some e,ρ=>(dM e).2 ρ
def sF:It'->DEnv->Option (List PyData×DEnv)
 |.seq e,ρ=>((dM e).1 ρ).bind λx=>(frz1 x.2 x.1).bind λz=>(uB z.1).bind λds=>some (ds,z.2)
 |.rg1 e,ρ=>((dM e).1 ρ).bind λx=>(aJ x.2 x.1).bind λd=>(gQ d).bind λj=>(gd (-(2^62)<=j/\j<2^62)).bind λ_=>some (cC 0 j.toNat,x.2)
 |.enm e,ρ=>((dM e).1 ρ).bind λx=>(frz1 x.2 x.1).bind λz=>(FS z.1).bind λds=>some (eU ds,z.2)
 |.zip a b,ρ=>((dM a).1 ρ).bind λx=>((dM b).1 x.2).bind λy=>(frz1 y.2 x.1).bind λz=>(frz1 z.2 y.1).bind λw=>(uB z.1).bind λds=>(uB w.1).bind λes=>some (gk ds es,w.2)
end
abbrev ev(e:E)(ρ:DEnv):=(dM C e).1 ρ
abbrev aT(e:E)(ρ:DEnv):=(dM C e).2 ρ
end
example (C:Ct) (ρ:DEnv):ev C (.bop .add (.int 1) (.int 2)) ρ=some (.val (.fz (.int 3)),ρ):=rfl
example (C:Ct) (ρ:DEnv):aT C (.and (.bl true) (.not (.cmp .lt (.int 1) (.int 2)))) ρ=some (false,ρ):=rfl
end
section
def bnd{c b:Type}{o:Option c}{f:c->Option b}{x:b}(h:o.bind f=some x):∃a,o=some a/\f a=some x:=aaL.mp h
def bn2{α β γ:Type}{o:Option α}{g1:α->Option β}{f:α->β->Option γ}{r:γ}(h:(o.bind λa=>(g1 a).bind (f a))=some r):∃a b,o=some a/\g1 a=some b/\f a b=some r:=by obtain⟨a,p0,h⟩:=bnd h;obtain⟨b,p1,h⟩:=bnd h;exact⟨a,b,p0,p1,h⟩
def bn3{α β γ δ:Type}{o:Option α}{g1:α->Option β}{g2:α->β->Option γ}{f:α->β->γ->Option δ}{r:δ}(h:(o.bind λa=>(g1 a).bind λb=>(g2 a b).bind (f a b))=some r):∃a b c,o=some a/\g1 a=some b/\g2 a b=some c/\f a b c=some r:=by obtain⟨a,p0,h⟩:=bnd h;obtain⟨b,p1,h⟩:=bnd h;obtain⟨c,p2,h⟩:=bnd h;exact⟨a,b,c,p0,p1,p2,h⟩
def bn4{α β γ δ ε:Type}{o:Option α}{g1:α->Option β}{g2:α->β->Option γ}{g3:α->β->γ->Option δ}{f:α->β->γ->δ->Option ε}{r:ε}(h:(o.bind λa=>(g1 a).bind λb=>(g2 a b).bind λc=>(g3 a b c).bind (f a b c))=some r):∃a b c d,o=some a/\g1 a=some b/\g2 a b=some c/\g3 a b c=some d/\f a b c d=some r:=by obtain⟨a,p0,h⟩:=bnd h;obtain⟨b,p1,h⟩:=bnd h;obtain⟨c,p2,h⟩:=bnd h;obtain⟨d,p3,h⟩:=bnd h;exact⟨a,b,c,d,p0,p1,p2,p3,h⟩
def bn5{α β γ δ ε ζ:Type}{o:Option α}{g1:α->Option β}{g2:α->β->Option γ}{g3:α->β->γ->Option δ}{g4:α->β->γ->δ->Option ε}{f:α->β->γ->δ->ε->Option ζ}{r:ζ}(h:(o.bind λa=>(g1 a).bind λb=>(g2 a b).bind λc=>(g3 a b c).bind λd=>(g4 a b c d).bind (f a b c d))=some r):∃a b c d e,o=some a/\g1 a=some b/\g2 a b=some c/\g3 a b c=some d/\g4 a b c d=some e/\f a b c d e=some r:=by obtain⟨a,p0,h⟩:=bnd h;obtain⟨b,p1,h⟩:=bnd h;obtain⟨c,p2,h⟩:=bnd h;obtain⟨d,p3,h⟩:=bnd h;obtain⟨e,p4,h⟩:=bnd h;exact⟨a,b,c,d,e,p0,p1,p2,p3,p4,h⟩
def dq{x:OD}{d:PyData}(h:sd x=some d):x=.fz d:=by cases x<;>cases h;rfl
def cP{x:OD}{xs:List OD}(h:nS x=some xs):x=.lst xs:=by cases x<;>cases h;rfl
def kF{x:OD}{z:List Key×List OD}(h:Bm x=some z):x=.dic z.1 z.2:=by cases x<;>cases h;rfl
def kG{x:OD}{z:Str×List Str×List OD}(h:D5 x=some z):x=.obj z.1 z.2.1 z.2.2:=by cases x<;>cases h;rfl
def Bq{x:OD}{xs:List OD}(h:HL x=some xs):x=.lst xs\/x=.tup xs:=by cases x<;>cases h<;>first|exact .inl rfl|exact .inr rfl
def be{d:PyData}{i:Int}(h:gQ d=some i):d=.int i:=by cases d<;>cases h;rfl
def nT{d:PyData}{i:Bool}(h:FR d=some i):d=.bool i:=by cases d<;>cases h;rfl
def nU{d:PyData}{i:List PyData}(h:FS d=some i):d=.list i:=by cases d<;>cases h;rfl
def kH{d:PyData}{i:List PyData}(h:uB d=some i):d=.list i\/d=.tuple i:=by cases d<;>cases h<;>first|exact .inl rfl|exact .inr rfl
def gd_ok{c:Prop}[Decidable c]{u:Unit}(h:gd c=some u):c:=by
 by_cases a:c
 ·exact a
 ·rw[gd,if_neg a]at h;cases h
def one1_ok{a:Type}{l:List a}{x:a}(h:fF l=some x):l=[x]:=by
 cases l with
 |nil=>cases h
 |cons y l=>cases l<;>cases h;rfl
def thr3_ok{a:Type}{l:List a}{x:a×a×a}(h:Bp l=some x):l=[x.1,x.2.1,x.2.2]:=by
 cases l with
 |nil=>cases h
 |cons y l=>
  cases l with
  |nil=>cases h
  |cons z l=>
   cases l with
   |nil=>cases h
   |cons w l=>cases l<;>cases h;rfl
def two2_ok{a:Type}{l:List a}{x:a×a}(h:hX l=some x):l=[x.1,x.2]:=by
 cases l with
 |nil=>cases h
 |cons y l=>
  cases l with
  |nil=>cases h
  |cons z l=>cases l<;>cases h;rfl
def Br{w z:OD×List OD}(h:HM w=some z):w.1=.fz .none/\w.2=z.1::z.2:=by
 obtain⟨a,b⟩:=w;obtain⟨d,e,h⟩:=bnd h;cases b with
 |nil=>cases d<;>cases h
 |cons y c=>cases d<;>cases h;exact⟨dq e,rfl⟩
section
variable(C:Ct)
mutual
def jr:E->DEnv->Option PyData
 |.nm i,ρ=>(ρ[i]?.join).bind sd
 |.int k,_=>some (.int k)
 |.str x,_=>some (.str x)
 |.gc g,_=>some (C.gv g)
 |.bop o a b,ρ=>match o with
  |.add=>(jr a ρ).bind λx=>(jr b ρ).bind λy=>xK .add x y
  |.sub=>(jr a ρ).bind λx=>(jr b ρ).bind λy=>xK .sub x y
  |_=>none
 |.ix a b,ρ=>(jr a ρ).bind λx=>(jr b ρ).bind λy=>(uB x).bind λds=>(gQ y).bind λi=>atI ds i
 |.tup es,ρ=>(nV es ρ).bind λds=>(gd (ds.length<=1000000)).bind λ_=>some (.tuple ds)
 |.pg i ps,ρ=>(ak ρ i ps).bind λp=>sd p.2.2
 |_,_=>none
def nV:Es->DEnv->Option (List PyData)
 |.nil,_=>some []
 |.cons e es,ρ=>(jr e ρ).bind λx=>(nV es ρ).bind λy=>some (x::y)
end
def bx(f:Str)(z:OD):List Str->List OD->List Str×List OD
 |n::ns,x::xs=>if n=f then (n::ns,z::xs) else ((n::(bx f z ns xs).1),(x::(bx f z ns xs).2))
 |_,_=>([f],[z])
def bf(k:Key)(d:PyData)(ks:List Key)(xs:List OD):List Key×List OD:=
 if (ks.any λq=>decide (q=k))=true then (ks,List.zipWith (λq x=>if q=k then .fz d else x) ks xs) else (ks++[k],xs++[.fz d])
def mr:Bo->Int->PyData->Option Int
 |.add,a,.int k=>some (a+k)
 |.sub,a,.int k=>some (a-k)
 |_,_,_=>none
def uC(i:Nat)(ks:List Nat)(j:Nat)(u:V)(ρ a:DEnv):Prop:=∃x y,ρ[i]?.join=some x/\x.at ks=some (.hole u)/\ρ[j]?.join=some y/\j≠i/\a=(ρ.set j none).set i (some (OD.put y ks x))
def HolOk(g:V->Option (Fl×DEnv))(i:Nat)(ks:List Nat)(j:Nat)(z:Fl×DEnv):Prop:=∀u:V,∃a,g u=some (z.1,a)/\uC i ks j u a z.2
open Classical in
def holRun(g:V->Option (Fl×DEnv))(i:Nat)(ks:List Nat)(j:Nat):Option (Fl×DEnv):=if h:∃z,HolOk g i ks j z then some (Classical.choose h) else none
def holRun_some{g:V->Option (Fl×DEnv)}{i j:Nat}{ks:List Nat}{z:Fl×DEnv}(h:holRun g i ks j=some z):HolOk g i ks j z:=by
 unfold holRun at h;by_cases a:∃z,HolOk g i ks j z
 ·rw[dif_pos a]at h;cases h;exact acs a
 ·rw[dif_neg a]at h;cases h
def jG{g:V->Option (Fl×DEnv)}{i j:Nat}{ks:List Nat}{z:Fl×DEnv}(h:HolOk g i ks j z):holRun g i ks j=some z:=by
 have b:∃z,HolOk g i ks j z:=⟨z,h⟩
 have n:holRun g i ks j=some (Classical.choose b):=dif_pos b;rw[n];have e:=acs b;generalize Classical.choose b=z' at e;obtain⟨p,o,x,v,k,y,f,D,l⟩:=h .non;obtain⟨m,a,t,C,d,u,c,A,q⟩:=e .non;rw[o]at a;injection a with a;injection a with a a3;subst a3;rw[k]at d;rw[f]at c;cases d;cases c;obtain⟨B,w⟩:=z;obtain⟨r,s⟩:=z';simp only at *;rw[l,q,a]
abbrev AliOk(f:DEnv->Option (Fl×DEnv))(ρ:DEnv)(i:Nat)(p:OD×List Nat×OD)(xs:List OD)(j:Nat)(z:Fl×DEnv):Prop:=HolOk (λu=>f (ρ.set i (some (OD.put (.lst (xs++[.hole u])) p.2.1 p.1)))) i (p.2.1++[xs.length]) j z
def kI(f:DEnv->Option (Fl×DEnv))(ρ:DEnv)(i:Nat)(p:OD×List Nat×OD)(j:Nat):Option (Fl×DEnv):=(nS p.2.2).bind λa=>(gd (a.length<1000000/\j≠i/\(ρ[j]?.join).isSome)).bind λ_=>holRun (λu=>f (ρ.set i (some (OD.put (.lst (a++[.hole u])) p.2.1 p.1)))) i (p.2.1++[a.length]) j
def mw{f:DEnv->Option (Fl×DEnv)}{ρ:DEnv}{i j:Nat}{p:OD×List Nat×OD}{z:Fl×DEnv}(h:kI f ρ i p j=some z):∃xs,p.2.2=.lst xs/\xs.length<1000000/\j≠i/\(∃y,ρ[j]?.join=some y)/\AliOk f ρ i p xs j z:=by obtain⟨xs,_,b,a,h⟩:=bn2 h;have a:=gd_ok a;exact⟨xs,cP b,a.1,a.2.1,abc.mp a.2.2,holRun_some h⟩
def se{f:DEnv->Option (Fl×DEnv)}{ρ:DEnv}{i j:Nat}{p:OD×List Nat×OD}{xs:List OD}{y:OD}{z:Fl×DEnv}(b:p.2.2=.lst xs)(c:xs.length<1000000)(a:j≠i)(d:ρ[j]?.join=some y)(h:AliOk f ρ i p xs j z):kI f ρ i p j=some z:=by unfold kI;rw[b,show nS (.lst xs)=some xs from rfl,ab4];have:gd (xs.length<1000000/\j≠i/\(ρ[j]?.join).isSome)=some ():=if_pos ⟨c,a,by rw[d];rfl⟩;rw[this,ab4];exact jG h
def dAct(b e:E)(o:List Key×List OD)(ρ:DEnv):Option ((List Key×List OD)×DEnv):=(ev C b ρ).bind λx=>(ev C e x.2).bind λy=>(aJ y.2 x.1).bind λc=>(keyOf c).bind λd=>(aJ y.2 y.1).bind λa=>(gd (HK a=true)).bind λ_=>some (bf d a o.1 o.2,y.2)
def mx(b:Tg)(c e:E)(o:List Key×List OD)(d:PyData)(ρ:DEnv):Option ((List Key×List OD)×DEnv):=(aW b (.fz d) ρ).bind λa=>dAct C c e o a
mutual
def cK:S'->DEnv->Option (Fl×DEnv)
 |.ex e,ρ=>(ev C e ρ).bind λx=>some (.nx,x.2)
 |.set i e,ρ=>(ev C e ρ).bind λx=>(own1 x.2 x.1).bind λz=>(gd (i<z.2.length)).bind λ_=>some (.nx,z.2.set i (some z.1))
 |.asg t e,ρ=>(ev C e ρ).bind λx=>(own1 x.2 x.1).bind λz=>(aW t z.1 z.2).bind λρ1=>some (.nx,ρ1)
 |.par is es,ρ=>(evs C es ρ).bind λx=>(mapR own1 x.2 x.1).bind λz=>(gd (z.1.length=is.length/\∀i∈is,i<z.2.length)).bind λ_=>some (.nx,dY is z.1 z.2)
 |.aug i o e,ρ=>(ρ[i]?.join).bind λg=>(sd g).bind λm=>(gQ m).bind λa=>(ev C e ρ).bind λx=>(aJ x.2 x.1).bind λd=>(mr o a d).bind λr=>some (.nx,x.2.set i (some (.fz (.int r))))
 |.ret e,ρ=>(ev C e ρ).bind λx=>(mv1 x.2 x.1).bind λz=>some (.rt z.1,z.2)
 |.iff c a b,ρ=>(aT C c ρ).bind λx=>if x.1=true then aw a x.2 else aw b x.2
 |.whl c b,ρ=>eh (aT C c) (aw b) C.wf ρ
 |.fr t it b,ρ=>(sF C it ρ).bind λx=>bE (λd n=>(aW t (.fz d) n).bind λρ1=>aw b ρ1) x.1 x.2
 |.cont,ρ=>some (.ct,ρ)
 |.brk,ρ=>some (.bk,ρ)
 |.app i e,ρ=>(ρ[i]?.join).bind λg=>(nS g).bind λ_=>(ev C e ρ).bind λx=>(own1 x.2 x.1).bind λz=>(z.2[i]?.join).bind λh=>(nS h).bind λxs=>(gd (xs.length<1000000)).bind λ_=>some (.nx,z.2.set i (some (.lst (xs++[z.1]))))
 |.apd i ps e,ρ=>(ak ρ i ps).bind λp=>(jr C e ρ).bind λd=>(nS p.2.2).bind λxs=>(gd (xs.length<1000000)).bind λ_=>some (.nx,ρ.set i (some (OD.put (.lst (xs++[.fz d])) p.2.1 p.1)))
 |.sti i k e,ρ=>(ev C e ρ).bind λx=>(own1 x.2 x.1).bind λz=>(z.2[i]?.join).bind λg=>(nS g).bind λ_=>(ev C k z.2).bind λq=>(aJ q.2 q.1).bind λd=>(gQ d).bind λk=>(q.2[i]?.join).bind λh=>(nS h).bind λxs=>(ixN xs.length k).bind λj=>some (.nx,q.2.set i (some (.lst (xs.set j z.1))))
 |.sdk i k e,ρ=>(ev C e ρ).bind λx=>(frz1 x.2 x.1).bind λz=>(z.2[i]?.join).bind λg=>(Bm g).bind λ_=>(ev C k z.2).bind λq=>(aJ q.2 q.1).bind λs=>(keyOf s).bind λl=>(q.2[i]?.join).bind λh=>(Bm h).bind λu=>(gd (u.2.length<1000000)).bind λ_=>some (.nx,q.2.set i (some (.dic (bf l z.1 u.1 u.2).1 (bf l z.1 u.1 u.2).2)))
 |.std i ps j e,ρ=>(ev C e ρ).bind λx=>(frz1 x.2 x.1).bind λz=>(ak z.2 i ps).bind λp=>(z.2[j]?.join).bind λg=>(sd g).bind λs=>(keyOf s).bind λl=>(Bm p.2.2).bind λu=>(gd (u.2.length<1000000)).bind λ_=>some (.nx,z.2.set i (some (OD.put (.dic (bf l z.1 u.1 u.2).1 (bf l z.1 u.1 u.2).2) p.2.1 p.1)))
 |.sdc i nt fr it tg ke ve,ρ=>(sF C it ρ).bind λx=>(gd (x.1.length<1000000)).bind λ_=>(cJ x.2 fr).bind λz=>(gR (mx C tg ke ve) x.1 ([],[]) (List.replicate nt none++z.1)).bind λw=>(gd (i<(eR z.2 fr (w.2.drop nt)).length)).bind λ_=>some (.nx,(eR z.2 fr (w.2.drop nt)).set i (some (.dic w.1.1 w.1.2)))
 |.stf i c f e,ρ=>(ev C e ρ).bind λx=>(own1 x.2 x.1).bind λz=>(z.2[i]?.join).bind λg=>(D5 g).bind λu=>(gd (u.1=c/\u.2.2.length<1000)).bind λ_=>some (.nx,z.2.set i (some (.obj u.1 (bx f z.1 u.2.1 u.2.2).1 (bx f z.1 u.2.1 u.2.2).2)))
 |.agf i c f o e,ρ=>(ak ρ i [.fld c f]).bind λp=>(sd p.2.2).bind λm=>(gQ m).bind λa=>(ev C e ρ).bind λx=>(aJ x.2 x.1).bind λd=>(mr o a d).bind λr=>(x.2[i]?.join).bind λg=>(D5 g).bind λu=>(gd (u.1=c/\u.2.2.length<1000)).bind λ_=>some (.nx,x.2.set i (some (.obj u.1 (bx f (.fz (.int r)) u.2.1 u.2.2).1 (bx f (.fz (.int r)) u.2.1 u.2.2).2)))
def aw:Ss->DEnv->Option (Fl×DEnv)
 |.nil,ρ=>some (.nx,ρ)
 |.cons s ss,ρ=>(cK s ρ).bind λx=>match x.1 with
  |.nx=>aw ss x.2
  |fl=>some (fl,x.2)
 |.ali i ps j ss,ρ=>(ak ρ i ps).bind λp=>kI (aw ss) ρ i p j
 |.alo c i ps qs j k ss,ρ=>(aT C c ρ).bind λt=>(gd (j≠i/\k≠i/\j≠k/\j<t.2.length/\k<t.2.length)).bind λ_=>if t.1=true then (ak t.2 i ps).bind λp=>(nS p.2.2).bind λys=>(ak t.2 i qs).bind λr=>(sd r.2.2).bind λd=>holRun (λu=>aw ss (((t.2.set i (some (OD.put (.hole u) p.2.1 p.1))).set j (some (.lst ys))).set k (some (.fz d)))) i p.2.1 j
  else aw ss ((t.2.set j (some (.lst []))).set k (some (.fz (.int 0))))
end
def uD(fn:Fn)(xs:List OD):Option (OD×List OD):=(aw C fn.body (fb fn.n xs)).bind λx=>match x.1 with
 |.nx=>(aU 0 fn.io xs x.2).bind λa=>some (.fz .none,a)
 |.rt o=>(aU 0 fn.io xs x.2).bind λa=>some (o,a)
 |_=>none
end
structure Pg where
 F:Nat->Option Fn
 gv:Nat->PyData
 wf:Nat
def Pg.io(p:Pg)(f:Nat):List Bool:=match p.F f with|some a=>a.io|none=>[]
def Pg.both(p:Pg):Nat->(Nat->List OD->Option (OD×List OD))×(Nat->List OD->Option (OD×List OD))
 |0=>(λ_ _=>none,λ_ _=>none)
 |n+1=>(λf xs=>match p.F f with
  |some fn=>if xs.length=fn.io.length then uD ⟨p.io,(Pg.both p n).1,(Pg.both p n).2,p.gv,p.wf⟩ fn xs else none
  |none=>none,(Pg.both p n).1)
def Pg.call(p:Pg)(n f:Nat)(xs:List OD):Option (OD×List OD):=(p.both n).1 f xs
def Pg.mak(p:Pg)(n f:Nat)(xs:List OD):Option (OD×List OD):=(p.both n).2 f xs
abbrev Pg.ct(p:Pg)(n:Nat):Ct:=⟨p.io,p.call n,p.mak n,p.gv,p.wf⟩
def Pg.fy(p:Pg)(n f:Nat)(xs:List OD):p.call (n+1) f xs=match p.F f with
  |some fn=>if xs.length=fn.io.length then uD (p.ct n) fn xs else none
  |none=>none:=rfl
def Pg.u5(p:Pg)(n f:Nat)(xs:List OD):p.mak (n+1) f xs=p.call n f xs:=rfl
end
section
def aF(C:Ct)(m:E):DE:=λa Q=>∃x,ev C m a=some x/\Q x.1 x.2
def gp(C:Ct)(m:E):DT:=λa Q=>∃x,aT C m a=some x/\Q x.1 x.2
def fG(C:Ct)(m:Es):DA:=λa Q=>∃x,evs C m a=some x/\Q x.1 x.2
def iP(C:Ct)(m:It'):DI:=λa Q=>∃x,sF C m a=some x/\Q x.1 x.2
section
variable{X:Cx}{e:Expr}{es:List Expr}
def PDe.imp:PDe X e d->(∀ρ Q,d' ρ Q->d ρ Q)->PDe X e d'
 |⟨te,h,s⟩,f=>⟨te,h,λb F σ H ρ τ θ c Q a R g q=>s b F σ H ρ τ θ c Q a R (f _ _ g) q⟩
def PDt.imp:PDt X e d->(∀ρ Q,d' ρ Q->d ρ Q)->PDt X e d'
 |⟨te,h,s⟩,f=>⟨te,h,λb F σ H ρ τ θ c Q a R g q=>s b F σ H ρ τ θ c Q a R (f _ _ g) q⟩
def PDw.imp:PDw X e d->(∀ρ Q,d' ρ Q->d ρ Q)->PDw X e d'
 |⟨te,h,s⟩,f=>⟨te,h,λb F σ H ρ τ θ c Q a R g q=>s b F σ H ρ τ θ c Q a R (f _ _ g) q⟩
def PDa.imp:PDa X es d->(∀ρ Q,d' ρ Q->d ρ Q)->PDa X es d'
 |⟨te,h,s⟩,f=>⟨te,h,λb F σ H ρ τ θ c Q a R g q=>s b F σ H ρ τ θ c Q a R (f _ _ g) q⟩
def PDi.imp:PDi X tg e d->(∀ρ Q,d' ρ Q->d ρ Q)->PDi X tg e d'
 |⟨te,h,s⟩,f=>⟨te,h,λb F σ H ρ τ θ c Q a R g q=>s b F σ H ρ τ θ c Q a R (f _ _ g) q⟩
def SndR2.or{K:Waa}(h:SndR2 K r d)(h':SndR2 K r' d'):SndR2 K (λx y H Q=>r x y H Q\/r' x y H Q) (λx y Q=>d x y Q\/d' x y Q):=λH v u a f b Q c g z q=>z.imp (λz=>h H v u a f b Q c g z q) λz=>h' H v u a f b Q c g z q
def SndR2.imp{K:Waa}(h:SndR2 K r d)(f:∀x y Q,d' x y Q->d x y Q):SndR2 K r d':=λH v u a g b Q c i z q=>h H v u a g b Q c i (f _ _ _ z) q
end
def opOf:Bo->Operator
 |.add=>.Add|.sub=>.Sub|.mul=>.Mult|.fdiv=>.FloorDiv|.mod=>.Mod|.pow=>.Pow
def coOf:Co->CmpOp
 |.lt=>.Lt|.le=>.LtE|.gt=>.Gt|.ge=>.GtE|.eq=>.Eq|.ne=>.NotEq|.inn=>.In|.nin=>.NotIn
def Iz(o:Bo):DR2:=λx y Q=>∃d,xK o x y=some d/\Q d
def IA(o:Co):DR2:=λx y Q=>∃k,mo o x y=some k/\Q (.bool k)
def eM(h:xK o x y=some d):∃i j k,x=.int i/\y=.int j/\HN o i j=some k/\d=.int k:=by obtain⟨i,j,k,a,b,c,h⟩:=bn3 h;cases h;exact⟨i,j,k,be a,be b,c,rfl⟩
section
variable{X:Cx}
def D6(o:Bo):∃e,OpR X (binaryOp (opOf o)) e/\SndR2 X.K e (Iz o):=by
 cases o with
 |add=>refine⟨_,Ao,(tU λi j=>.int _).imp λx y Q c=>?_⟩;obtain⟨d,h,q⟩:=c;obtain⟨i,j,k,rfl,rfl,a,rfl⟩:=eM h;cases a;exact⟨i,j,rfl,rfl,q⟩
 |sub=>refine⟨_,Ap,(tU λi j=>.int _).imp λx y Q c=>?_⟩;obtain⟨d,h,q⟩:=c;obtain⟨i,j,k,rfl,rfl,a,rfl⟩:=eM h;cases a;exact⟨i,j,rfl,rfl,q⟩
 |mul=>refine⟨_,Aq,(xk λi j=>.int _).imp λx y Q c=>?_⟩;obtain⟨d,h,q⟩:=c;obtain⟨i,j,k,rfl,rfl,a,rfl⟩:=eM h;obtain⟨_,b,a⟩:=bnd a;cases a;have b:=gd_ok b;exact⟨i,j,rfl,rfl,b,q⟩
 |fdiv=>refine⟨_,wM,(xk λi j=>.int _).imp λx y Q c=>?_⟩;obtain⟨d,h,q⟩:=c;obtain⟨i,j,k,rfl,rfl,a,rfl⟩:=eM h;obtain⟨_,b,a⟩:=bnd a;cases a;have b:=gd_ok b;exact⟨i,j,rfl,rfl,b,q⟩
 |mod=>refine⟨_,Ar,(xk λi j=>.int _).imp λx y Q c=>?_⟩;obtain⟨d,h,q⟩:=c;obtain⟨i,j,k,rfl,rfl,a,rfl⟩:=eM h;obtain⟨_,b,a⟩:=bnd a;cases a;have b:=gd_ok b;exact⟨i,j,rfl,rfl,b,q⟩
 |pow=>refine⟨_,As,(xk λi j=>.int _).imp λx y Q c=>?_⟩;obtain⟨d,h,q⟩:=c;obtain⟨i,j,k,rfl,rfl,a,rfl⟩:=eM h;obtain⟨_,b,a⟩:=bnd a;cases a;have b:=gd_ok b;exact⟨i,j,rfl,rfl,b,q⟩
def pb(h:eqA x y=some k):rQ x y=some k\/(SeqAt.shaped x=true/\SeqAt.shaped y=true/\k=PyData.eqv x y):=by
 unfold eqA at h;cases e:rQ x y with
 |some d=>rw[e]at h;exact .inl h
 |none=>
  rw[e]at h;simp only at h;split at h
  ·rename_i c;cases h;obtain⟨a,b⟩:=abm.mp c;exact .inr ⟨a,b,rfl⟩
  ·cases h
def pd(h:inA x y=some k):∃ds,(y=.list ds\/y=.tuple ds)/\CO x=true/\memD x ds=some k:=by obtain⟨ds,_,b,a,h⟩:=bn2 h;exact⟨ds,kH b,gd_ok a,h⟩
def uE(n:X.A.units+64<cLine)(o:Co):∃p,OpR X (compareOp (coOf o)) p/\SndR2 X.K p (IA o):=by
 have b:∀{x y:PyData}{k:Bool}{g:Int->Int->Bool},((gQ x).bind λi=>(gQ y).bind λj=>some (g i j))=some k->∃i j,x=.int i/\y=.int j/\k=g i j:=by intro x y k g h;obtain⟨i,j,r,s,h⟩:=bn2 h;cases h;exact⟨i,j,be r,be s,rfl⟩
 cases o with
 |lt=>refine⟨_,De,(xl ).imp λx y Q a=>?_⟩;obtain⟨k,h,q⟩:=a;obtain⟨i,j,rfl,rfl,rfl⟩:=b h;exact⟨i,j,rfl,rfl,q⟩
 |le=>refine⟨_,Dg,(xl ).imp λx y Q a=>?_⟩;obtain⟨k,h,q⟩:=a;obtain⟨i,j,rfl,rfl,rfl⟩:=b h;exact⟨i,j,rfl,rfl,q⟩
 |gt=>refine⟨_,Dh,(xl ).imp λx y Q a=>?_⟩;obtain⟨k,h,q⟩:=a;obtain⟨i,j,rfl,rfl,rfl⟩:=b h;exact⟨i,j,rfl,rfl,q⟩
 |ge=>refine⟨_,Di,(xl ).imp λx y Q a=>?_⟩;obtain⟨k,h,q⟩:=a;obtain⟨i,j,rfl,rfl,rfl⟩:=b h;exact⟨i,j,rfl,rfl,q⟩
 |eq=>
  refine⟨_,op_eq.or (AG n),(sr_eq.or AV).imp λx y Q a=>?_⟩;obtain⟨k,h,q⟩:=a;rcases pb h with h|⟨d,c,rfl⟩
  ·exact .inl ⟨k,h,q⟩
  ·exact .inr ⟨d,c,q⟩
 |ne=>
  refine⟨_,op_ne.or (AH n),(sr_ne.or AW).imp λx y Q a=>?_⟩;obtain⟨k,h,q⟩:=a;obtain⟨m,e,h⟩:=bnd h;cases h;rcases pb e with h|⟨d,c,rfl⟩
  ·exact .inl ⟨m,h,q⟩
  ·exact .inr ⟨d,c,q⟩
 |inn=>refine⟨_,rA,(zj ).imp λx y Q a=>?_⟩;obtain⟨k,h,q⟩:=a;obtain⟨f,d,c,l⟩:=pd h;exact⟨f,k,d,c,l,q⟩
 |nin=>refine⟨_,kf,(zj ).imp λx y Q a=>?_⟩;obtain⟨k,h,q⟩:=a;obtain⟨m,e,h⟩:=bnd h;cases h;obtain⟨f,d,c,l⟩:=pd e;exact⟨f,m,d,c,l,q⟩
end
section
variable{X:Cx}{C:Ct}{a b c e:Expr}{es:List Expr}{ma mb mc:E}{mes:Es}{pos:Pos}
def D7(p:PDe X a (aF C ma))(l:PDe X b (aF C mb)):PDe X (.BinOp a (opOf o) b pos) (aF C (.bop o ma mb)):=by obtain⟨y,v,g⟩:=D6 o;refine(DD v g p l).imp λw Q s=>?_;obtain⟨x,h,q⟩:=s;obtain⟨r,k,f,t,d,i,j,n,m,u,h⟩:=bn5 h;cases h;exact⟨r,i,k,j,f,t,n,m,d,u,q⟩
def D8(p:X.A.units+64<cLine)(s:behindInMarks (coOf o) b=false)(r:PDe X a (aF C ma))(l:PDe X b (aF C mb)):PDe X (.Compare a [coOf o] [b] pos) (aF C (.cmp o ma mb)):=by obtain⟨B,y,g⟩:=uE p o;refine(AU y g s r l).imp λz Q u=>?_;obtain⟨x,h,q⟩:=u;obtain⟨t,k,f,v,d,i,j,n,m,w,h⟩:=bn5 h;cases h;exact⟨t,i,k,j,f,v,n,m,d,w,q⟩
def D9(r:X.A.units+64<cLine)(t:behindInMarks (coOf o) b=false)(s:PDe X a (aF C ma))(l:PDe X b (aF C mb)):PDt X (.Compare a [coOf o] [b] pos) (gp C (.cmp o ma mb)):=by obtain⟨F,B,g⟩:=uE r o;refine(xo B g t s l).imp λD Q v=>?_;obtain⟨x,h,q⟩:=v;obtain⟨y,h,p⟩:=bnd h;obtain⟨u,k,f,w,d,i,j,n,m,z,h⟩:=bn5 h;cases h;cases p;exact⟨u,i,k,j,f,w,n,m,d,z,d,rfl,q⟩
end
end
section
def isStar:Expr->Bool
 |.Starred _ _=>true
 |_=>false
def aA(h:isStar e=false):starEach (e::es) env=(false,eval e env)::starEach es env:=by cases e<;>first|rfl|cases h
def cf:∀{es:List Expr},es.any isStar=false->(backTo pos (starEach es env)).any (·.1)=false
 |[],_=>rfl
 |e::es,h=>by rw[aaP,ab5]at h;rw[aA h.1];show (false||(backTo pos (starEach es env)).any (·.1))=false;rw[cf h.2];rfl
def plainT:Expr->Bool
 |.UnaryOp .Not _ _=>false
 |.BoolOp _ _ _=>false
 |.IfExp _ _ _ _=>false
 |.Compare _ _ _ _=>false
 |_=>true
def plainT_ok(h:plainT e=true):∀a,isTrue e env a=(do let v <-a;standAt e.pos;holding [v] (truthy v)):=by
 intro a;cases e with
 |UnaryOp b x p=>cases b<;>first|rfl|cases h
 |_=>first|rfl|cases h
section
variable{X:Cx}{C:Ct}{a b c e:Expr}{es:List Expr}{ma mb mc:E}{mes:Es}{pos p:Pos}{x:Str}{i:Nat}
def pe:ev C (.nm i) ρ=(match ρ[i]?.join with|some (.fz d)=>some (.val (.fz d),ρ)|some _=>some (.rf i,ρ)|none=>none):=rfl
def GQ(k:X.N[i]?=some x) (l:Vis X.env.scope x) (j:(x==("__debug__":Str))=false) (d:(x==("__classdict__":Str))=false):PDe X (.Name x pos) (aF C (.nm i)):=by
 refine(AS k l j d).imp λf Q g=>?_;obtain⟨y,h,q⟩:=g;unfold dVar;rw[pe]at h;cases e:f[i]?.join with
 |none=>rw[e]at h;cases h
 |some z=>rw[e]at h;cases z<;>(simp only at h;cases h;exact q)
def GR(l:X.N[i]?=some x) (n:Vis X.env.scope x) (m:(x==("__debug__":Str))=false) (d:(x==("__classdict__":Str))=false):PDe X (.Name x pos) (aF C (.mv i)):=by refine⟨_,aZ l n m d,λb F u H j t o r Q s R ⟨y,h,q⟩ k=>?_⟩;obtain⟨z,f,h⟩:=bnd h;cases h;obtain⟨v,g,w⟩:=R.slot (join_some f);exact⟨v,g,k v H (.val z) (j.set i none) ⟨R.wf.off,R.al,R.wff,w⟩ q⟩
def Ea{j pos}:PDe X (.Constant (.int k) j pos) (aF C (.int k)):=pd_int.imp λd Q ⟨y,h,q⟩=>by cases h;exact q
def Eb{j pos}:PDe X (.Constant (.str k) j pos) (aF C (.str k)):=pd_str.imp λd Q ⟨y,h,q⟩=>by cases h;exact q
def GS{j pos}:PDe X (.Constant (.bool k) j pos) (aF C (.bl k)):=pd_bl.imp λd Q ⟨y,h,q⟩=>by cases h;exact q
def GT(f:Gl X x) (d:X.mg x=some u) (r:RelV v u) (s:∀S H,Fz X.K S H v (C.gv g)) (j:(x==("__debug__":Str))=false):PDe X (.Name x pos) (aF C (.gc g)):=
 (tT f d r s j).imp λk Q ⟨y,h,q⟩=>by cases h;exact q
def Ec{j pos'}(k:PDe X a (aF C ma)):PDe X (.Compare a [if neg then .IsNot else .Is] [.Constant .none j pos'] pos) (aF C (.isn neg ma)):=by
 have f:∀g Q,aF C (.isn neg ma) g Q->rR neg (aF C ma) g Q:=λg Q ⟨y,h,q⟩=>by obtain⟨l,d,m,n,h⟩:=bn2 h;cases h;exact⟨l,m,d,n,q⟩
 cases neg with
 |false=>exact(AY k).imp f
 |true=>exact(xn k).imp f
def Ed{j pos'}(k:PDe X a (aF C ma)):PDt X (.Compare a [if neg then .IsNot else .Is] [.Constant .none j pos'] pos) (gp C (.isn neg ma)):=by
 have f:∀g Q,gp C (.isn neg ma) g Q->gM (rR neg (aF C ma)) g Q:=λg Q ⟨y,h,q⟩=>by obtain⟨z,h,o⟩:=bnd h;obtain⟨l,d,m,n,h⟩:=bn2 h;cases h;cases o;exact⟨l,m,d,n,_,rfl,q⟩
 cases neg with
 |false=>exact(xp k).imp f
 |true=>exact(tW k).imp f
def v_and(o:PDe X a (aF C ma))(g:PDe X (.BoolOp .And (b::es) pos) (aF C mb)):PDe X (.BoolOp .And (a::b::es) pos) (aF C (.and ma mb)):=by
 refine(A6 o g).imp λr Q l=>?_;obtain⟨y,h,q⟩:=l;obtain⟨j,d,k,m,f,n,h⟩:=bn3 h;rw[nT n]at f;refine⟨j,m,k,f,?_⟩;cases k with
 |false=>rw[if_neg aaf]at h ⊢;cases h;exact q
 |true=>rw[if_pos rfl]at h ⊢;exact⟨y,h,q⟩
def v_or(o:PDe X a (aF C ma))(g:PDe X (.BoolOp .Or (b::es) pos) (aF C mb)):PDe X (.BoolOp .Or (a::b::es) pos) (aF C (.or ma mb)):=by
 refine(DL o g).imp λr Q l=>?_;obtain⟨y,h,q⟩:=l;obtain⟨j,d,k,m,f,n,h⟩:=bn3 h;rw[nT n]at f;refine⟨j,m,k,f,?_⟩;cases k with
 |false=>rw[if_neg aaf]at h ⊢;exact⟨y,h,q⟩
 |true=>rw[if_pos rfl]at h ⊢;cases h;exact q
def v_not(n:PDe X a (aF C ma)):PDe X (.UnaryOp .Not a pos) (aF C (.not ma)):=by refine(A7 n).imp λo Q g=>?_;obtain⟨y,h,q⟩:=g;obtain⟨f,d,k,j,l,m,h⟩:=bn3 h;cases h;exact⟨f,j,k,by rw[l,nT m],q⟩
def Ee(n:PDe X a (aF C ma)):PDe X (.UnaryOp .USub a pos) (aF C (.neg ma)):=by refine(AZ n).imp λo Q g=>?_;obtain⟨y,h,q⟩:=g;obtain⟨f,d,k,j,l,m,h⟩:=bn3 h;cases h;exact⟨f,j,d,l,k,be m,q⟩
def Ef(l:PDt X a (gp C ma))(d:PDw X (.BoolOp .And (b::es) pos) (gp C mb)):PDw X (.BoolOp .And (a::b::es) pos) (gp C (.and ma mb)):=by
 refine(xu l d).imp λm Q g=>?_;obtain⟨y,h,q⟩:=g;obtain⟨f,j,h⟩:=bnd h;refine⟨f,j,?_⟩;split at h
 ·rename_i k;rw[if_pos k];exact⟨y,h,q⟩
 ·rename_i k;rw[if_neg k];cases h;exact q
def GU(l:PDt X a (gp C ma))(d:PDw X (.BoolOp .Or (b::es) pos) (gp C mb)):PDw X (.BoolOp .Or (a::b::es) pos) (gp C (.or ma mb)):=by
 refine(A8 l d).imp λm Q g=>?_;obtain⟨y,h,q⟩:=g;obtain⟨f,j,h⟩:=bnd h;refine⟨f,j,?_⟩;split at h
 ·rename_i k;rw[if_pos k];cases h;exact q
 ·rename_i k;rw[if_neg k];exact⟨y,h,q⟩
def Eg(j:PDt X a (gp C ma)):PDt X (.UnaryOp .Not a pos) (gp C (.not ma)):=by refine(xw j).imp λk Q f=>?_;obtain⟨y,h,q⟩:=f;obtain⟨d,g,h⟩:=bnd h;cases h;exact⟨d,g,q⟩
def Eh(m:PDt X c (gp C mc))(l:PDe X a (aF C ma))(f:PDe X b (aF C mb)):PDe X (.IfExp c a b pos) (aF C (.ife mc ma mb)):=by
 refine(DP m l f).imp λn Q g=>?_;obtain⟨y,h,q⟩:=g;obtain⟨d,j,h⟩:=bnd h;refine⟨d,j,?_⟩;split at h
 ·rename_i k;rw[if_pos k];exact⟨y,h,q⟩
 ·rename_i k;rw[if_neg k];exact⟨y,h,q⟩
def ph(h:Dt X.K H v d)(e:kE d=some k):Av X.K v H k:=by
 cases h with
 |non=>cases e;rfl
 |bl b=>cases e;rfl
 |int i=>cases e;rfl
 |str x=>simp[kE]at e
 |lst s t=>cases e;exact .inl ⟨_,s,by rw[DtAll.emp t]⟩
 |tup s t=>cases e;exact .inr (.inl ⟨_,s,by rw[DtAll.emp t]⟩)
def Ei(B:aT C m=(vt (ev C m)).2)(A:plainT e=true):PDe X e (aF C m)->PDt X e (gp C m)
 |⟨te,g,s1⟩=>⟨_,lM g (plainT_ok A),λb F σ H ρ τ θ I Q l R ⟨y,h,q⟩ k=>by
  have h':((ev C m ρ).bind λx=>(aJ x.2 x.1).bind λd=>(kE d).bind λk=>some (k,x.2))=some y:=by rw[<-h,B];rfl
  obtain⟨z,d,t,o,s,w,h'⟩:=bn3 h';cases h';refine s1 b F σ H ρ τ θ (λr f=>r=z.1/\f=z.2) _ l R ⟨z,o,rfl,rfl⟩ λv J r f j D=>?_;obtain⟨g,u⟩:=D;subst g u;have n:=j.dt s;rw[l]at n;exact⟨t,ph n w,k _ _ _ j.drop q⟩⟩
def gq:PDa X [] (fG C .nil):=pda_nil.imp λd Q ⟨y,h,q⟩=>by cases h;exact q
def dr(d:isStar e=false)(n:PDe X e (aF C ma))(j:PDa X es (fG C mes)):PDa X (e::es) (fG C (.cons ma mes)):=by refine(tY (aA d) n j).imp λo Q k=>?_;obtain⟨y,h,q⟩:=k;obtain⟨f,g,l,m,h⟩:=bn2 h;cases h;exact⟨f,l,g,m,q⟩
def Ej{m}(l:PDa X es (fG C mes)):PDe X (.Tuple es m pos) (aF C (.tup mes)):=by refine(A9 DR l).imp λn Q f=>?_;obtain⟨y,h,q⟩:=f;obtain⟨d,z,_,g,j,k,h⟩:=bn3 h;cases h;exact⟨d,g,z.1,z.2,j,gd_ok k,q⟩
def Ek(l:PDa X es (fG C mes)):PDe X (.List es pos) (aF C (.lst mes)):=by refine(Ba DR l).imp λm Q f=>?_;obtain⟨y,h,q⟩:=f;obtain⟨d,z,_,g,j,k,h⟩:=bn3 h;cases h;exact⟨d,g,z.1,z.2,j,gd_ok k,q⟩
def bU:Expr->Bool
 |.Slice _ _ _ _=>true
 |_=>false
def kJ(h:bU b=false):PlainIx b:=λo i=>by cases b<;>first|rfl|cases h
def GV(f:bU b=false)(r:PDe X a (aF C ma))(m:PDe X b (aF C mb)):PDe X (.Subscript a b pos) (aF C (.ix ma mb)):=by refine(DU (kJ f) r m).imp λv Q t=>?_;obtain⟨y,h,q⟩:=t;obtain⟨s,l,d,k,z,g,j,o,u,n,h⟩:=bn5 h;cases h;exact⟨s,g,l,j,k,z.1,z.2,by rw[o,be u],n,q⟩
def El(t:PDe X a (aF C ma))(j:PDe X b (aF C mb)):PDe X (.BinOp a .Add b pos) (aF C (.cat ma mb)):=by refine(Bc t j).imp λu Q l=>?_;obtain⟨y,h,q⟩:=l;obtain⟨f,d,g,s,_,m,o,r,n,k,h⟩:=bn5 h;cases h;exact⟨f,m,d,o,g,s,r,n,gd_ok k,q⟩
def Bt(G:FnD X.prog X.w X.K X.mg X.base k fa fd ps (λxs Q=>∃w,C.call f xs=some w/\Q w.1 w.2)) (j:Room k X.A) (o:Gl X x) (u:X.mg x=some (.ref fa)) (hk:PySem.W.keepIn X.K (.ref fa)=true) (n:Binds X.K fd ps []) (d:(x==("__debug__":Str))=false)
  (s:isStar e=false) (g:es.any isStar=false) (t:PDa X (e::es) (fG C mes)):PDe X (.Call (.Name x p) (e::es) [] pos) (aF C (.call f mes)):=by
 refine(xJ (ios:=C.io f) G j o u hk n d (aA s) (cf g) t).imp λD Q B=>?_;obtain⟨y,h,q⟩:=B;obtain⟨v,z,w,l,m,r,h⟩:=bn3 h;cases h;exact⟨v,l,z.1,z.2,m,w,r,q⟩
def Bu:PDe X (.Dict [] [] pos) (aF C .dnew):=⟨_,tK,λb F n H g m f l Q j R ⟨y,h,q⟩ k=>λp d=>by cases h;exact k _ _ _ _ (R.push (R.wd.z4 d)) q⟩
end
end
end L2
namespace PySem
open PySem.Spec
section
variable{prog:Program}{w:World}{A:Around}{E:Value->Shared->Prop}{s:Shared}
set_option maxHeartbeats 3200000 in
end
end PySem
namespace L2
open PySem PySem.Spec PyProof.Rows
section
section
variable{X:Cx}{K:Waa}
def jH:bootBuiltins "sorted"=some (.builtin "sorted"):=by decide +kernel
def ints_vals:∀{ns:List Int}{us:List Value},Vals (ns.map V.int) us->IntsAre us ns
 |[],_,r=>by rw[aaC]at r;cases r;exact .nil
 |n::ns,_,r=>by
  rw[aaj]at r;cases r with
  |cons r1 a=>obtain⟨t,rfl⟩:=r1;exact .cons n t (ints_vals a)
def xM(K:Waa):List V->Hp->VK->Prop:=λd H Q=>∃(p:Addr) (c:List Int),d=[.ref p]/\SqL K H p (c.map V.int)/\c.length<64/\∀(b:List Int) (a:Addr),b.Perm c->b.Pairwise (·<=·)->H a=none->Q (.ref a) (upd H a (.lst (b.map V.int)))
def my:bZ X (.builtin "sorted") (xM X.K):=by
 intro j s J H C B Q I r h;obtain⟨p,v,rfl,n,D,q⟩:=h;obtain⟨u,rfl,l⟩:=vals1 r;cases l;obtain⟨d,k,z,A⟩:=I.list n;have t:=ints_vals k;have g:d.length=v.length:=by have:=k.length;rw[aaa]at this;exact this.symm
 refine sorted_ints z.isList t (by omega) λc f y i m=>?_;obtain⟨e,w⟩:=sortedAll_at s.heap d c;have F:64<=sizeLine:=by decide
 refine⟨.ref _,_,I.laid (t':=s.toks) (a:=s.heap.objs.size+1) (o:=.lst (f.map V.int)) (λb u x=>sortedAll_old x) (aa6 _) ⟨?_,c.toList,e,vals_ints y,w⟩,rfl,q f _ i m (I.hok.fresh (aa6 _))⟩;rw[aaa,i.length_eq];omega
end
def HP(T:String):PyData->Bool
 |.bool _=>T == "bool" || T == "int"
 |.int _=>T == "int"
 |.str _=>T == "str"
 |.list _=>T == "list"
 |.tuple _=>T == "tuple"
 |_=>false
inductive KindT:String->Prop
 |int:KindT "int" |bool:KindT "bool" |str:KindT "str" |list:KindT "list" |tuple:KindT "tuple"
def Dt.kind{K:Waa}{H:Hp}{v:V}{d:PyData}{T:String}(h:Dt K H v d)(k:KindT T):∃n,Ty K H v n/\PySem.W.kitOne K (.type n) (.type T)=some (HP T d):=by
 cases h with
 |non=>exact⟨_,.non,by cases k<;>first|exact kit_ni K|exact kit_nb K|exact kit_ns K|exact kit_nl K|exact kit_nt K⟩
 |bl b=>exact⟨_,.bl b,by cases k<;>first|exact kit_bi K|exact kit_same K _|exact kit_bs K|exact kit_bl K|exact kit_bt K⟩
 |int i=>exact⟨_,.int i,by cases k<;>first|exact kit_same K _|exact kit_ib K|exact kit_is K|exact kit_il K|exact kit_it K⟩
 |str x=>exact⟨_,.str x,by cases k<;>first|exact kit_same K _|exact kit_si K|exact kit_sb K|exact kit_sl K|exact kit_st K⟩
 |lst s t=>exact⟨_,.lst s,by cases k<;>first|exact kit_same K _|exact kit_li K|exact kit_lb K|exact kit_ls K|exact kit_lt K⟩
 |tup s t=>exact⟨_,.tup s,by cases k<;>first|exact kit_same K _|exact kit_ti K|exact kit_tb K|exact kit_ts K|exact kit_tl K⟩
def IB(f:Bl):DRn:=λa Q=>∃d,CP f a=some d/\Q d
def SndCB.imp{K:Waa}{a:List V->Hp->VK->Prop}{r b:DRn}(h:SndCB K a r)(f:∀ds Q,b ds Q->r ds Q):SndCB K a b:=λH d ds c Q e z q=>h H d ds c Q e (f _ _ z) q
def DtAll.ints'{K:Waa}{H:Hp}{vs:List V}{ns:List Int}(h:DtAll K H vs (ns.map PyData.int)):vs=ns.map V.int:=by
 induction ns generalizing vs with
 |nil=>cases h;rfl
 |cons n ns a=>cases h with|cons r t=>cases r;rw[aaj,a t]
section
variable{X:Cx}{K:Waa}
def dInts_map:∀{ds:List PyData}{ns:List Int},jF ds=some ns->ds=ns.map PyData.int
 |[],_,h=>by cases h;rfl
 |d::ds,ns,h=>by obtain⟨i,r,a,b,h⟩:=bn2 h;cases h;rw[be a,dInts_map b,aaj]
end
def Bv:Bl->Str
 |.len=>"len" |.abs=>"abs" |.max=>"max" |.min=>"min" |.int=>"int" |.all=>"all"
section
variable{X:Cx}{C:Ct}{a b c e:Expr}{es:List Expr}{ma mb mc:E}{mes:Es}{pos p p1 p2 p3:Pos}{x:Str}{i:Nat}
def Em{f:Bl}(A:X.calm=true)(r:Gl X (Bv f))(u:X.mg (Bv f)=none)(s:isStar e=false)(k:es.any isStar=false)(t:PDa X (e::es) (fG C mes)):PDe X (.Call (.Name (Bv f) p) (e::es) [] pos) (aF C (.blt f mes)):=by
 have B:PDe X (.Call (.Name (Bv f) p) (e::es) [] pos) (FQ (IB f) (fG C mes))->PDe X (.Call (.Name (Bv f) p) (e::es) [] pos) (aF C (.blt f mes)):=λh=>h.imp λI Q ⟨y,h,q⟩=>by obtain⟨H,o,d,g,v,D,h⟩:=bn3 h;cases h;exact⟨H,g,o,v,d,D,q⟩
 refine B ?_;cases f with
 |len=>refine dX lN (sc_len.imp λo Q m=>?_) r u nJ (by decide) (by decide) (aA s) (cf k) t;obtain⟨d,h,q⟩:=m;obtain⟨z,n,l,g,h⟩:=bn2 h;cases h;exact⟨z,n,one1_ok l,g,q⟩
 |abs=>refine dX sV (sc_abs.imp λo Q m=>?_) r u AI (by decide) (by decide) (aA s) (cf k) t;obtain⟨d,h,q⟩:=m;obtain⟨z,i,l,g,h⟩:=bn2 h;cases h;exact⟨i,by rw[one1_ok l,be g],q⟩
 |max=>refine dX (rj A) (sc_max.imp λo Q m=>?_) r u AJ (by decide) (by decide) (aA s) (cf k) t;obtain⟨d,h,q⟩:=m;obtain⟨z,i,j,l,g,v,h⟩:=bn3 h;cases h;exact⟨i,j,by rw[two2_ok l,be g,be v],q⟩
 |min=>refine dX (rk A) (sc_min.imp λo Q m=>?_) r u AK (by decide) (by decide) (aA s) (cf k) t;obtain⟨d,h,q⟩:=m;obtain⟨z,i,j,l,g,v,h⟩:=bn3 h;cases h;exact⟨i,j,by rw[two2_ok l,be g,be v],q⟩
 |int=>refine ud rl (sc_int.imp λo Q m=>?_) r u tH (by decide) (by decide) (aA s) (cf k) t;obtain⟨d,h,q⟩:=m;obtain⟨z,n,l,g,h⟩:=bn2 h;cases h;exact⟨z,n,one1_ok l,g,q⟩
 |all=>refine dX (tF A) (sc_all.imp λo Q m=>?_) r u AL (by decide) (by decide) (aA s) (cf k) t;obtain⟨d,h,q⟩:=m;obtain⟨w,z,n,l,F,g,h⟩:=bn3 h;cases h;exact⟨z,n,by rw[one1_ok l,nU F],g,q⟩
def Bw(k:Gl X "list") (j:X.mg "list"=none) (f:isStar e=false) (o:PDe X e (aF C ma)):PDe X (.Call (.Name "list" p) [e] [] pos) (aF C (.bnw .list ma)):=by refine(rS k j kj (by decide) (by decide) (aA f) rfl (dr f o gq)).imp λr Q l=>?_;obtain⟨y,h,q⟩:=l;obtain⟨d,g,m,n,h⟩:=bn2 h;cases h;exact⟨([d.1],d.2),by simp only[evs,m];rfl,d.1,g,rfl,n,q⟩
def xN(k:Gl X "tuple") (j:X.mg "tuple"=none) (f:isStar e=false) (o:PDe X e (aF C ma)):PDe X (.Call (.Name "tuple" p) [e] [] pos) (aF C (.bnw .tuple ma)):=by refine(ue k j iF (by decide) (by decide) (aA f) rfl (dr f o gq)).imp λr Q l=>?_;obtain⟨y,h,q⟩:=l;obtain⟨d,g,m,n,h⟩:=bn2 h;cases h;exact⟨([d.1],d.2),by simp only[evs,m];rfl,d.1,g,rfl,n,q⟩
def insI_perm(i:Int):∀l,(insI i l).Perm (i::l)
 |[]=>.refl _
 |j::r=>by
  unfold insI;split
  ·exact .refl _
  ·exact((insI_perm i r).cons j).trans (List.Perm.swap _ _ _)
def mz(i:Int):∀{l:List Int},l.Pairwise (·<=·)->(insI i l).Pairwise (·<=·)
 |[],_=>by simp[insI]
 |j::r,h=>by
  obtain⟨g,m⟩:=aaT.mp h;unfold insI;split
  ·rename_i d;exact aaT.mpr ⟨λk f=>(aab.mp f).elim (λe=>e▸d) λf=>Int.le_trans d (g k f),h⟩
  ·rename_i d;refine aaT.mpr ⟨λk f=>?_,mz i m⟩;rcases aab.mp ((insI_perm i r).mem_iff.mp f) with rfl|f
   ·omega
   ·exact g k f
def sortI_perm:∀l,(sortI l).Perm l
 |[]=>.refl _
 |i::r=>(insI_perm i _).trans ((sortI_perm r).cons i)
def eN:∀l,(sortI l).Pairwise (·<=·)
 |[]=>.nil
 |i::r=>mz i (eN r)
def fH:∀{l d:List Int},l.Perm d->l.Pairwise (·<=·)->d.Pairwise (·<=·)->l=d
 |[],d,p,_,_=>by have:=p.length_eq;cases d with|nil=>rfl|cons _ _=>simp at this
 |a::l,[],p,_,_=>by have:=p.length_eq;simp at this
 |a::l,b::d,p,h,h'=>by
  obtain⟨n,m⟩:=aaT.mp h;obtain⟨k,j⟩:=aaT.mp h';have e:a=b:=by
   have g:a∈b::d:=p.mem_iff.mp aai;have f:b∈a::l:=p.mem_iff.mpr aai;rcases aab.mp g with e|g
   ·exact e
   ·rcases aab.mp f with e|f
    ·exact e.symm
    ·have:=n b f;have:=k a g;omega
  subst e;rw[fH (List.Perm.cons_inv p) m j]
def uF(L:Gl X "sorted") (W:X.mg "sorted"=none) (u:isStar e=false) (m:PDe X e (aF C ma)):PDe X (.Call (.Name "sorted" p) [e] [] pos) (aF C (.bnw .sorted ma)):=by
 obtain⟨te,h,s⟩:=m;refine⟨_,cA my L W jH (aO h bo (aA u)) (by decide) (by decide) (aA u) rfl,λb F σ H J Z T Qd Q A R ⟨y,h,q⟩ k=>?_⟩;obtain⟨o,d,ds,f,_,I,t,N,O,l,h⟩:=bn5 h;cases h;have l:=gd_ok l;rw[nU N]at t;refine s b F σ H J Z T (λr g=>r=o.1/\g=o.2) _ A R ⟨o,I,rfl,rfl⟩ λv H' r g n Y=>?_;obtain⟨m,M⟩:=Y;subst m M;have U:=dInts_map O;subst U;have B:=n.dt t;rw[A]at B;cases B with
 |lst z D=>rw[DtAll.ints' D]at z;refine⟨_,f,rfl,z,l,λj a p1 p2 P=>?_⟩;have:j=sortI f:=fH (p1.trans (sortI_perm f).symm) p2 (eN f);subst this;refine k _ _ _ _ (n.drop.push ?_) q;have w:=n.drop.wd.adds (vs:=(sortI f).map V.int) (ds:=(sortI f).map PyData.int) λS _=>FzA.ints _;have:=Wd.eu w (by simp) P;rw[aa0]at this;exact this
def iQ{k:Knd}{T:String} (g:match k with|.int=>T="int" |.bool=>T="bool" |.str=>T="str" |.list=>T="list" |.tuple=>T="tuple" |.seq=>False) (L:PE X b (tC (.ty T))) (N:Gl X "isinstance") (Y:X.mg "isinstance"=none) (w:isStar a=false) (t:isStar b=false)
  (l:PDe X a (aF C ma)):PDe X (.Call (.Name "isinstance" p) [a,b] [] pos) (aF C (.isi k ma)):=by
 obtain⟨te,h,s⟩:=l;refine⟨_,cA (tG T) N Y eT (aO h (aO L bo (aA t)) (aA w)) (by decide) (by decide) (aA w) (cf (by simp[t])),λb F σ H M τ S Qd Q A R ⟨y,h,q⟩ U=>?_⟩;obtain⟨m,d,I,J,h⟩:=bn2 h;cases h;refine s b F σ H M τ S (λr j=>r=m.1/\j=m.2) _ A R ⟨m,I,rfl,rfl⟩ λv o r j z Z=>?_;obtain⟨l,O⟩:=Z;subst l O;have B:=z.dt J;rw[A]at B;have f:∀(u:KindT T),HP T d=wD k d->∃x n b,[v,V.ty T]=[x,V.ty T]/\Ty X.K o x n/\PySem.W.kitOne X.K (.type n) (.type T)=some b/\Q (.bl b) o:=λu P=>by obtain⟨n,ty,D⟩:=B.kind u;rw[P]at D;exact⟨v,n,_,rfl,ty,D,U _ o _ _ (z.drop.sc (.bl _)) q⟩
 cases k with
 |int=>subst g;exact f .int (by cases d<;>rfl)
 |bool=>subst g;exact f .bool (by cases d<;>rfl)
 |str=>subst g;exact f .str (by cases d<;>rfl)
 |list=>subst g;exact f .list (by cases d<;>rfl)
 |tuple=>subst g;exact f .tuple (by cases d<;>rfl)
 |seq=>exact g.elim
def Dt.kind2{K:Waa}{H:Hp}{v:V}{d:PyData}(h:Dt K H v d):∃n,Ty K H v n/\PySem.W.kitAny K (.type n) [.type "list",.type "tuple"]=some (wD .seq d):=by
 cases h with
 |non=>exact⟨_,.non,eJ K (kit_nl K) (kit_nt K)⟩
 |bl b=>exact⟨_,.bl b,eJ K (kit_bl K) (kit_bt K)⟩
 |int i=>exact⟨_,.int i,eJ K (kit_il K) (kit_it K)⟩
 |str x=>exact⟨_,.str x,eJ K (kit_sl K) (kit_st K)⟩
 |lst s t=>exact⟨_,.lst s,iD K (.inl (kit_same K _))⟩
 |tup s t=>exact⟨_,.tup s,iD K (.inr ⟨kit_tl K,kit_same K _⟩)⟩
def By{W} (O:PE X b (tC (.ty "list"))) (J:PE X c (tC (.ty "tuple"))) (S:Gl X "isinstance") (hm:X.mg "isinstance"=none) (t:isStar a=false) (M:isStar b=false) (N:isStar c=false)
  (m:PDe X a (aF C ma)):PDe X (.Call (.Name "isinstance" p) [a,.Tuple [b,c] W p1] [] pos) (aF C (.isi .seq ma)):=by
 obtain⟨te,h,s⟩:=m;refine⟨_,cA (rH "list" "tuple") S hm eT (aO h (aO (iz (aO O (aO J bo (aA N)) (aA M))) bo (aA rfl)) (aA t)) (by decide) (by decide) (aA t) (cf rfl),λb F o H P A u Qd Q w R ⟨y,h,q⟩ Z=>?_⟩;obtain⟨g,d,I,L,h⟩:=bn2 h;cases h;refine s b F o H P A u (λr f=>r=g.1/\f=g.2) _ w R ⟨g,I,rfl,rfl⟩ λv H' r f j hZ=>?_;obtain⟨m,T⟩:=hZ;subst m T;refine⟨by show 2<=sizeLine;decide,λB U=>?_⟩;have D:Rel b F o (upd H' B (.tup [.ty "list",.ty "tuple"])) g.2 (v::A) (g.1::u):=⟨j.wf,j.al,j.wff,j.wd.new U⟩
 have z:=D.dt L;rw[w]at z;obtain⟨n,l,Y⟩:=z.kind2;have k:=Z (.bl (wD .seq d)) _ (.val (.fz (.bool (wD .seq d)))) _ (D.drop.sc (.bl _)) q;exact⟨v,_,_,B,rfl,au,l,Y,k⟩
end
end
section
def ia(t:Tg):DG:=λx b Q=>∃a,aW t x b=some a/\Q a
structure Sto (X:Cx)(W:Nat->Prop)(m:Nat)(i:Nat)(x:Str):Prop where
 hN:X.N[i]?=some x
 loc:Loc X.env.scope x
 fn:X.fn x=true\/X.env.scope.names.lookup x=some .local
 lt:i<m
 nw:¬ W i
section
variable{X:Cx}{W:Nat->Prop}{m:Nat}{C:Ct}{a b c e:Expr}{es:List Expr}{ma mb mc:E}{mes:Es}{pos p p1 p2 p3:Pos}{x:Str}{i:Nat}
def PDg.imp:PDg X W m e d->(∀x ρ Q,d' x ρ Q->d x ρ Q)->PDg X W m e d'
 |⟨te,h,s⟩,f=>⟨te,h,λb F σ H ρ τ θ v x j Q g n R k q=>s b F σ H ρ τ θ v x j Q g n R (f _ _ _ k) q⟩
def PDgs.imp:PDgs X W m es d->(∀x ρ Q,d' x ρ Q->d x ρ Q)->PDgs X W m es d'
 |⟨te,h,s⟩,f=>⟨te,h,λb F σ H ρ τ θ v x j Q g n l R k q=>s b F σ H ρ τ θ v x j Q g n l R (f _ _ _ k) q⟩
def PDg.or:PDg X W m e d->PDg X W m e d'->PDg X W m e (λx ρ Q=>d x ρ Q\/d' x ρ Q)
 |⟨te,h,s⟩,⟨te',h',s'⟩=>⟨λv σ H Q=>te v σ H Q\/te' v σ H Q,λf s σ H v u Q I r z=>z.elim (h f s σ H v u Q I r) (h' f s σ H v u Q I r),λb F σ H ρ τ θ v x j Q k n R g q=>g.imp (λg=>s b F σ H ρ τ θ v x j Q k n R g q) λg=>s' b F σ H ρ τ θ v x j Q k n R g q⟩
def GW(g:X.N.Nodup)(s:Sto X W m i x):PDg X W m (.Name x pos) (ia (.nm i)):=by refine(l9 s.nw g s.hN s.loc s.lt s.fn).imp λy k Q f=>?_;obtain⟨d,h,q⟩:=f;obtain⟨_,j,h⟩:=bnd h;cases h;exact⟨gd_ok j,q⟩
inductive Stos (X:Cx)(W:Nat->Prop)(m:Nat):List Nat->List Expr->Prop
 |nil:Stos X W m [] []
 |cons {i is x pos es}:Sto X W m i x->Stos X W m is es->Stos X W m (i::is) (.Name x pos::es)
def nW(g:X.N.Nodup):∀{ts:List Nat}{es:List Expr},Stos X W m ts es->PDgs X W m es (λxs ρ Q=>xs.length=ts.length/\(∀i∈ts,i<ρ.length)/\Q (dY ts xs ρ))
 |[],_,.nil=>pdgs_nil.imp λxs ρ Q ⟨d,f,q⟩=>by
   cases xs with
   |nil=>exact⟨rfl,q⟩
   |cons _ _=>simp at d
 |i::is,_,.cons s t=>(gi rfl (l9 s.nw g s.hN s.loc s.lt s.fn) (nW g t)).imp λxs ρ Q ⟨d,f,q⟩=>by
   cases xs with
   |nil=>simp at d
   |cons z zs=>exact⟨z,zs,rfl,f i aai,by simpa using d,λj h=>by rw[aaN];exact f j (aah _ h),q⟩
def fI(h:Stos X W m ts es):(assignEach es X.env).length=ts.length/\(assignEach es X.env).findIdx? (·.1)=none:=by
 induction h with
 |nil=>exact⟨rfl,rfl⟩
 |@cons i is x pos es s t ih=>have e:assignEach (.Name x pos::es) X.env=(false,assign (.Name x pos) X.env)::assignEach es X.env:=rfl;rw[e];refine⟨by simp[ih.1],?_⟩;rw[aa9];simp[ih.2]
def mC(h:unpA y=some xs):unpT y=some xs\/unpL y=some xs:=by
 unfold unpA at h;cases d:unpT y with
 |some f=>rw[d]at h;exact .inl h
 |none=>rw[d]at h;exact .inr h
def GX(l:X.calm=true)(j:X.N.Nodup)(h:Stos X W m ts es):PDg X W m (.Tuple es k pos) (ia (.tp ts)):=by
 refine((oW l (fI h).1 (fI h).2 (nW j h)).or (oX l (fI h).1 (fI h).2 (nW j h))).imp λy r Q o=>?_;obtain⟨n,h,q⟩:=o;obtain⟨g,_,f,d,h⟩:=bn2 h;cases h;have d:=gd_ok d;rcases mC f with f|f
 ·exact .inl ⟨g,f,d.1,d.1,d.2,q⟩
 ·exact .inr ⟨g,f,d.1,d.1,d.2,q⟩
def PI.or(h:PI X tg e t)(h':PI X tg e t'):PI X tg e (λσ H R=>t σ H R\/t' σ H R):=λd s σ H R I z=>z.elim (h d s σ H R I) (h' d s σ H R I)
def PDi.or:PDi X tg e d->PDi X tg e d'->PDi X tg e (λρ Q=>d ρ Q\/d' ρ Q)
 |⟨te,h,s⟩,⟨te',h',s'⟩=>⟨_,PI.or h h',λb F σ H ρ τ θ j Q g R f q=>f.imp (λf=>s b F σ H ρ τ θ j Q g R f q) λf=>s' b F σ H ρ τ θ j Q g R f q⟩
def Bz(d:ev C ma ρ=some xa):evs C (.cons ma .nil) ρ=some ([xa.1],xa.2):=by show ((ev C ma ρ).bind _)=_;rw[d];rfl
def GY(f:ev C ma ρ=some xa)(d:ev C mb xa.2=some xb):evs C (.cons ma (.cons mb .nil)) ρ=some ([xa.1,xb.1],xb.2):=by show ((ev C ma ρ).bind _)=_;rw[f];show ((evs C (.cons mb .nil) xa.2).bind _)=_;rw[Bz d];rfl
def uG(e:aJ ρ r=some d):iL ρ [r]=some [d]:=by show ((aJ ρ r).bind _)=_;rw[e];rfl
def zm(e:frz1 ρ r=some z)(h:z.1=d):frzL ρ [r]=some ([d],z.2):=by show ((frz1 ρ r).bind _)=_;rw[e,<-h];rfl
def En(e:frz1 ρ r=some z)(d:frz1 z.2 r'=some w):frzL ρ [r,r']=some ([z.1,w.1],w.2):=by show ((frz1 ρ r).bind _)=_;rw[e];show ((frzL z.2 [r']).map _)=_;rw[zm d rfl];rfl
def zo(h:uB d=some ds):∃l:Bool,D3 d=some (l,ds):=(kH h).elim (λh=>⟨true,h▸rfl⟩) λh=>⟨false,h▸rfl⟩
def Ep(l:PDe X e (aF C ma)):PDi X tg e (iP C (.seq ma)):=by
 refine((uo l).or (xE l)).imp λs Q o=>?_;obtain⟨y,h,q⟩:=o;obtain⟨g,z,r,j,k,f,h⟩:=bn3 h;obtain⟨d,n⟩:=z;cases h;rcases kH f with f|f<;>simp only at f<;>subst f
 ·exact .inl ⟨g,j,_,_,k,q⟩
 ·exact .inr ⟨g,j,_,_,k,q⟩
def Er(o:Gl X "range") (n:X.mg "range"=none) (g:isStar a=false) (u:PDe X a (aF C ma)):PDi X tg (.Call (.Name "range" p) [a] [] pos) (iP C (.rg1 ma)):=by refine(nQ o n (aA g) (dr g u gq)).imp λv Q r=>?_;obtain⟨y,h,q⟩:=r;obtain⟨k,d,j,_,s,l,t,f,h⟩:=bn4 h;cases h;have f:=gd_ok f;rw[be t]at l;exact⟨([k.1],k.2),Bz s,j,uG l,f.1,f.2,q⟩
def Et{t} (k:Gl X "enumerate") (j:X.mg "enumerate"=none) (d:isStar a=false) (s:PDe X a (aF C ma)):PDi X (.Tuple es t tpos) (.Call (.Name "enumerate" p) [a] [] pos) (iP C (.enm ma)):=by refine(uq k j (aA d) (dr d s gq)).imp λu Q l=>?_;obtain⟨y,h,q⟩:=l;obtain⟨f,z,g,n,o,r,h⟩:=bn3 h;cases h;exact⟨([f.1],f.2),Bz n,g,z.2,zm o (nU r),q⟩
def Eu{v} (r:Gl X "zip") (F:X.mg "zip"=none) (g:isStar a=false) (d:isStar b=false) (D:PDe X a (aF C ma)) (s:PDe X b (aF C mb)):PDi X (.Tuple es v tpos) (.Call (.Name "zip" p) [a,b] [] pos) (iP C (.zip ma mb)):=by refine(xF r F (by rw[aA g,aA d];rfl) (aA d) (dr g D (dr d s gq))).imp λJ Q H=>?_;obtain⟨y,h,q⟩:=H;obtain⟨M,L,z,w,j,k,f,n,u,t,h⟩:=bn5 h;obtain⟨es,I,h⟩:=bnd h;cases h;obtain⟨A,l⟩:=zo t;obtain⟨B,o⟩:=zo I;exact⟨_,GY k f,_,_,A,B,j,es,w.2,En n u,l,o,q⟩
def bF(C:Ct)(j:Tg)(g:Eo)(f:E)(d:PyData)(ρ:DEnv):Option (List PyData×DEnv):=
 (aW j (.fz d) ρ).bind λh=>(FT C g h).bind λk=>if k.1=true then (ev C f k.2).bind λy=>(frz1 y.2 y.1).bind λq=>some ([q.1],q.2) else some ([],k.2)
def zp(C:Ct)(f:Eo)(d:E):DC:=λg Q=>∃w,((FT C f g).bind λk=>if k.1=true then (ev C d k.2).bind λy=>(frz1 y.2 y.1).bind λq=>some (([q.1]:List PyData),q.2) else some ([],k.2))=some w/\Q w.1 w.2
def PDc.imp:PDc Y ifs elt d->(∀ρ Q,d' ρ Q->d ρ Q)->PDc Y ifs elt d'
 |⟨te,h,s⟩,f=>⟨te,h,λb F σ H ρ vs rs D out j Q g n k R l q=>s b F σ H ρ vs rs D out j Q g n k R (f _ _ l) q⟩
def xO(j:PDe Y elt (aF C me)):PDc Y [] elt (zp C .none me):=(r9 j).imp λd Q ⟨w,h,q⟩=>by have h:((ev C me d).bind λy=>(frz1 y.2 y.1).bind λq=>some (([q.1]:List PyData),q.2))=some w:=h;obtain⟨y,z,f,g,h⟩:=bn2 h;cases h;exact⟨y,f,z.1,z.2,g,q⟩
def BA(n:PDt Y c (gp C mc))(l:PDe Y elt (aF C me)):PDc Y [c] elt (zp C (.some mc) me):=(uz n l).imp λo Q ⟨w,h,q⟩=>by
 obtain⟨k,f,h⟩:=bnd h;refine⟨k,f,?_⟩;by_cases d:k.1=true
 ·rw[if_pos d]at h ⊢;obtain⟨y,z,g,j,h⟩:=bn2 h;cases h;exact⟨y,g,z.1,z.2,j,q⟩
 ·rw[if_neg d]at h ⊢;cases h;exact q
def mD(step:PyData->DEnv->Option (List PyData×DEnv))(ds:List PyData)(w:List PyData×DEnv)(k:Nat)(f:ds[k]?=some d)(h:bw step (ds.drop k) out ρ=some w):∃z,step d ρ=some z/\bw step (ds.drop (k+1)) (out++z.1) z.2=some w:=by
 have g:=(aar.mp f).1;have e:ds.drop k=d::ds.drop (k+1):=by rw[ab6 g,(aar.mp f).2]
 rw[e]at h;exact bnd h
def pj(C:Ct){j:Tg}:∀ρ Q,aF C (.comp nt fr mi j mif me) ρ Q->oZ (iP C mi) nt fr (ia j) (zp C mif me) ρ Q:=λρ Q ⟨y,h,q⟩=>by
 obtain⟨x,_,z,w,r,s,t,A,h⟩:=bn4 h;cases h;refine⟨x,r,gd_ok s,z.1,z.2,t,λk f ρ=>bw (bF C j mif me) (x.1.drop k) f ρ=some w,A,λk d f ρ B g=>?_,λf ρ g=>?_⟩
 ·obtain⟨u,n,l⟩:=mD _ _ _ k B g;obtain⟨o,v,n⟩:=bnd n;exact⟨o,v,u,n,l⟩
 ·have g:bw (bF C j mif me) (x.1.drop x.1.length) f ρ=some w:=g;rw[abE]at g;cases g;exact q
def BB{d:Tg}(j:X.calm=true)(S:CompScope N nt fr X.N scope X.env.scope)(f:∀x,foldedSetIterable iter X.env x=pure x)(k:PDi X tg iter (iP C mi))(g:∀c:CC,PDg (dn X N scope c) Ff nt tg (ia d))(h:∀c:CC,PDc (dn X N scope c) ifs elt (zp C mif me)):
  PDe X (.ListComp elt [⟨tg,iter,ifs,0⟩] scope pos) (aF C (.comp nt fr mi d mif me)):=(xI j S f k g h).imp (pj C)
end
end
section
def Ew(D:DEnds)(ρ:DEnv):Fl->Prop
 |.nx=>D.nx ρ|.bk=>D.bk ρ|.ct=>D.ct ρ|.rt x=>D.rt x ρ
def gu(C:Ct)(s:S'):DS:=λD a=>∃x,cK C s a=some x/\Ew D x.2 x.1
def ib(C:Ct)(s:Ss):DS:=λD a=>∃x,aw C s a=some x/\Ew D x.2 x.1
section
variable{b:Bs}{F:List Fr}{σ:St}{H H':Hp}{ρ:DEnv}{τ us:List V}{θ:List OR}{zs:List OD}{v u:V}{x y:OD}{i:Nat}{ks:List Nat}
def Rel.open(R:Rel b F σ H ρ (us++τ) (zs.map OR.val++θ))(a:us.length=zs.length)(e:ρ[i]?.join=some x):∃v,σ[i]?=some (some v)/\Wd b H (us.zip zs++((v,x)::(stk τ θ++(flat σ (ρ.set i none)++ff F)))):=by obtain⟨v,c,w⟩:=R.slot (join_some e);refine⟨v,c,w.perm ?_⟩;rw[aE (by simpa using a),cB a,aad];exact aas.symm
def Rel.close(R:Rel b F σ H ρ τ θ)(ev:σ[i]?=some (some v))(w:Wd b H' ((v,x)::(stk τ θ++(flat σ (ρ.set i none)++ff F)))):Rel b F σ H' (ρ.set i (some x)) τ θ:=Rel.back R.wf R.al R.wff ev w
def Rel.rest(R:Rel b F σ H ρ (us++τ) (zs.map OR.val++θ))(a:us.length=zs.length):Rel b F σ H ρ τ θ:=R.drops (by simpa using a)
end
section
variable{X:Cx}{W:Nat->Prop}{m:Nat}{C:Ct}{a b c e:Expr}{es:List Expr}{sts s1 s2:List Stmt}{st:Stmt}{ma mb mc:E}{mes:Es}{ms:S'}{mss ma' mb':Ss}{pos p p1 p2 p3 pos':Pos}{x:Str}{i:Nat}
def PDs.imp:PDs X W st d->(∀D ρ,d' D ρ->d D ρ)->PDs X W st d'
 |⟨te,h,s⟩,f=>⟨te,h,λb F σ H ρ τ θ g D j n R k E=>s b F σ H ρ τ θ g D j n R (f _ _ k) E⟩
def PDss.imp:PDss X W sts d->(∀D ρ,d' D ρ->d D ρ)->PDss X W sts d'
 |⟨te,h,s⟩,f=>⟨te,h,λb F σ H ρ τ θ g D j n R k E=>s b F σ H ρ τ θ g D j n R (f _ _ k) E⟩
def BC:PDss X W [] (ib C .nil):=pdss_nil.imp λD d ⟨y,h,q⟩=>by cases h;exact q
def xP(g:PDs X W st (gu C ms))(j:PDss X W sts (ib C mss)):PDss X W (st::sts) (ib C (.cons ms mss)):=by
 refine(rT g j).imp λD o n=>?_;obtain⟨y,h,q⟩:=n;obtain⟨z,f,h⟩:=bnd h;obtain⟨l,k⟩:=z;refine⟨λd=>l=.nx/\d=k,λd ⟨g,j⟩=>?_,?_⟩
 ·subst g j;exact⟨y,h,q⟩
 ·cases l
  ·exact⟨_,f,rfl,rfl⟩
  ·cases h;exact⟨_,f,q⟩
  ·cases h;exact⟨_,f,q⟩
  ·cases h;exact⟨_,f,q⟩
def BD:PDs X W (.Continue pos) (gu C .cont):=pds_cont.imp λD d ⟨y,h,q⟩=>by cases h;exact q
def Ex:PDs X W (.Break pos) (gu C .brk):=pds_brk.imp λD d ⟨y,h,q⟩=>by cases h;exact q
def ei:Expr->Bool
 |.ListComp _ _ _ _=>true|.SetComp _ _ _ _=>true|.DictComp _ _ _ _ _=>true
 |_=>false
def gw(h:ei e=false):swapsWith e t l env=pure false:=by cases e<;>first|rfl|cases h
def GZ(d:ei e=false)(j:PDe X e (aF C ma)):PDs X W (.Expr e pos) (gu C (.ex ma)):=by refine(uf (gw d) j).imp λD k f=>?_;obtain⟨y,h,q⟩:=f;obtain⟨z,g,h⟩:=bnd h;cases h;exact⟨z,g,q⟩
def Ey(j:PDe X e (aF C ma)):PDs X W (.Return (some e) pos) (gu C (.ret ma)):=by refine(xA j).imp λD k d=>?_;obtain⟨y,h,q⟩:=d;obtain⟨z,w,f,g,h⟩:=bn2 h;cases h;exact⟨z,f,w.1,w.2,g,q⟩
def G0(l:PDt X c (gp C mc))(k:PDss X W s1 (ib C ma'))(f:PDss X W s2 (ib C mb')):PDs X W (.If c s1 s2 pos) (gu C (.iff mc ma' mb')):=by
 refine(Be l k f).imp λD n g=>?_;obtain⟨y,h,q⟩:=g;obtain⟨z,j,h⟩:=bnd h;refine⟨z,j,?_⟩;by_cases d:z.1=true
 ·rw[if_pos d]at h ⊢;exact⟨y,h,q⟩
 ·rw[if_neg d]at h ⊢;exact⟨y,h,q⟩
def zq(j:X.N.Nodup)(s:Sto X W m i x)(d:swapsWith e (some (.Name x pos')) pos.line X.env=pure false)(l:PDe X e (aF C ma)):PDs X W (.Assign [.Name x pos'] e pos) (gu C (.set i ma)):=by refine(xB s.nw j s.hN s.loc d s.fn l).imp λD o f=>?_;obtain⟨y,h,q⟩:=f;obtain⟨z,w,_,g,k,n,h⟩:=bn3 h;cases h;exact⟨z,g,w.1,w.2,k,gd_ok n,q⟩
def Ez(f:swapsWithSole [tg] e pos.line X.env=pure false)(j:swappedStores [tg] e X.env=pure none)(s:isStar tg=false)(r:PDe X e (aF C ma))(g:PDg X W m tg (ia t)):PDs X W (.Assign [tg] e pos) (gu C (.asg t ma)):=by refine(xD f j (by cases tg<;>first|rfl|cases s) r g).imp λD u k=>?_;obtain⟨y,h,q⟩:=k;obtain⟨z,w,d,l,n,o,h⟩:=bn3 h;cases h;exact⟨z,l,w.1,w.2,n,d,o,q⟩
def xQ(v:PassesOwn (model X.prog X.w) X.A X.env X.xe)(B:PDt X cc (gp C mc))(l:PDss X W sts (ib C mss)):PDs X W (.While cc sts [] pos) (gu C (.whl mc mss)):=by
 refine(rW v B l).imp λD k F=>?_;obtain⟨y,h,q⟩:=F;refine⟨λn k=>eh (aT C mc) (aw C mss) n k=some y,⟨C.wf,h⟩,λn k d=>?_⟩;cases n with
 |zero=>cases d
 |succ n=>
  obtain⟨z,t,d⟩:=bnd d;refine⟨z,t,?_⟩;by_cases s:z.1=true
  ·rw[if_pos s]at d ⊢;obtain⟨w,g,d⟩:=bnd d;obtain⟨j,r⟩:=w;refine⟨λf=>f=r/\(j=.nx\/j=.ct),λf ⟨l,u⟩=>?_,?_⟩
   ·subst l;refine⟨n,aa5 n,?_⟩;rcases u with rfl|rfl<;>exact d
   ·cases j with
    |nx=>exact⟨_,g,rfl,.inl rfl⟩
    |bk=>cases d;exact⟨_,g,q⟩
    |ct=>exact⟨_,g,rfl,.inr rfl⟩
    |rt o=>cases d;exact⟨_,g,q⟩
  ·rw[if_neg s]at d ⊢;cases d;exact q
def EA(hp:PassesOwn (model X.prog X.w) X.A X.env X.xe)(hc:X.calm=true)(hs:∀x,foldedSetIterable iter X.env x=pure x)(hi:PDi X tg iter (iP C mi))(hg:PDg X W m tg (ia t))(hb:PDss X W sts (ib C mss)):PDs X W (.For tg iter sts [] pos) (gu C (.fr t mi mss)):=by
 obtain⟨_,j,s1⟩:=hi;obtain⟨_,k,s2⟩:=hg;obtain⟨_,h3,s3⟩:=hb;refine⟨_,Am hp hc j k h3 hs,λb F σ H U O N Dd D hK n R ⟨y,h,q⟩ E=>?_⟩;obtain⟨x,e1,h⟩:=bnd h;refine s1 b F σ H U O N (λds f=>ds=x.1/\f=x.2) _ hK R ⟨x,e1,rfl,rfl⟩ λJ H1 ds B T Z Y nr R1 it hZ=>?_;obtain⟨j,k⟩:=hZ;subst j k;refine⟨λi mm σ H=>mm=x.1.length-i/\i<=x.1.length/\∃U,Rel b F σ H U (T++O) (Z++N)/\bE (λd f=>(aW t (.fz d) f).bind λB=>aw C mss B) (x.1.drop i) U=some y,⟨_,rfl,aaH _,_,R1,h⟩,?_⟩;rintro i mm M H2 ⟨rfl,hi,L,R2,l⟩;obtain⟨go,P⟩:=it F M H2 L O N R2 i;by_cases s:i<x.1.length
 ·obtain⟨g1,g2⟩:=go s;have ed:x.1[i]?=some x.1[i]:=aap s;have ee:x.1.drop i=x.1[i]::x.1.drop (i+1):=ab6 s;rw[ee]at l;obtain⟨w,e2,l⟩:=bnd l;obtain⟨S,e3,e2⟩:=bnd e2;obtain⟨Q,r⟩:=w;refine .inr ⟨g1,λg I=>∃f,Rel b F g I f (T++O) (Z++N)/\bE (λd f=>(aW t (.fz d) f).bind λB=>aw C mss B) (x.1.drop (i+1)) f=some y,λg I ⟨f,u,w'⟩=>⟨_,by omega,rfl,s,f,u,w'⟩,λz H3 hy=>?_⟩;have R3:=g2 z H3 x.1[i] hy ed;refine s2 b F M H3 L (T++O) (Z++N) z _ (λf=>f=S) _ hK (NoRf.app nr.weak n) R3 ⟨S,e3,rfl⟩ λa0 H4 f R4 _ h4=>?_;subst h4;refine s3 b F a0 H4 _ (T++O) (Z++N) ⟨λf=>Q=.nx/\f=r,λo f=>Q=.rt o/\f=r,λf=>Q=.bk/\f=r,λf=>Q=.ct/\f=r⟩ _ hK (NoRf.app nr.weak n) R4 ⟨_,e2,by cases Q<;>exact⟨rfl,rfl⟩⟩ ⟨λg I f u ⟨j,k⟩=>?_,λg I f u ⟨j,k⟩=>?_,λg I f u ⟨j,k⟩=>?_,λg I f v o u ⟨j,k⟩=>?_⟩
  ·subst j k;exact⟨_,u,l⟩
  ·subst j k;cases l;exact E.nx g I _ (u.drops Y) q
  ·subst j k;exact⟨_,u,l⟩
  ·subst j k;cases l;exact E.rt g I _ v o (Rel.drops (Rel.tor u Y) Y) q
 ·have e:i=x.1.length:=by omega
  subst e;rw[abE]at l;cases l;exact .inl ⟨P rfl,E.nx M H2 L (R2.drops Y) q⟩
end
end
section
section
variable{X:Cx}{W:Nat->Prop}{m:Nat}{C:Ct}{a b c e:Expr}{es:List Expr}{sts s1 s2:List Stmt}{st:Stmt}{ma mb mc:E}{mes:Es}{ms:S'}{mss ma' mb':Ss}{pos p p1 p2 p3 pos' apos cpos:Pos}{x:Str}{i:Nat}
def EB(hN:X.N.Nodup)(s:Sto X W m i x)(I:PDe X e (aF C ma)):PDs X W (.AugAssign (.Name x pos') (opOf o) e pos) (gu C (.aug i o ma)):=by
 have j:∀(f:Operator) (g:Int->Int->Int),FM X f (Ge g)->(∀a d r,mr o a d=some r->∃k,d=.int k/\r=g a k)->PDs X W (.AugAssign (.Name x pos') f e pos) (gu C (.aug i o ma)):=λf g ho Z=>by
  obtain⟨_,h,s1⟩:=I;refine⟨_,Ag hN s.hN s.loc h ho s.fn,λb F T H u S O Y D Q n R ⟨y,h,q⟩ E=>?_⟩;obtain⟨x0,d0,t,l,P,J,h⟩:=bn3 h;rw[dq P,be J]at l
  ·obtain⟨z,dk,r,L,M,er,h⟩:=bn3 h;cases h;obtain⟨k,rfl,rfl⟩:=Z _ _ _ er;obtain⟨v,U,w⟩:=R.slot (join_some l);have hv:=w.dt rfl;cases hv;have hi:i<u.length:=(aar.mp (join_some l)).1;refine⟨_,U,s1 b F T H u S O (λr B=>r=z.1/\B=z.2) _ Q R ⟨z,L,rfl,rfl⟩ λv H1 r a0 A hZ=>?_⟩;obtain⟨I,h2⟩:=hZ;subst I h2;have hm:=A.dt M;cases hm;have hl:i<z.2.length:=by rw[<-A.wf.len,R.wf.len];exact hi
   exact⟨t,k,rfl,rfl,E.nx _ H1 _ ((A.drop.sc (.int (g t k))).store n hl s.nw) q⟩
 have nil:∀f,(∀a d,mr o a d=none)->PDs X W (.AugAssign (.Name x pos') f e pos) (gu C (.aug i o ma)):=λf hn=>by refine⟨_,lK,λb F T H u S O Y D Q n R ⟨y,h,q⟩ E=>?_⟩;obtain⟨x0,d0,t,z,dk,l,P,J,L,M,h⟩:=bn5 h;rw[hn]at h;cases h
 cases o with
 |add=>exact j _ _ Ah λa d r h=>by cases d<;>cases h;exact⟨_,rfl,rfl⟩
 |sub=>exact j _ _ Ai λa d r h=>by cases d<;>cases h;exact⟨_,rfl,rfl⟩
 |_=>exact nil _ λa d=>rfl
end
end
section
section
variable{b:Bs}{S S':Addr->Prop}{H H1 H':Hp}{L L':List (V×OD)}{v u u' w w':V}{x y z z' y':OD}{d:PyData}{ks:List Nat}{k:Nat}
def Chn.det(h:Chn b H v x ks u y)(h':Chn b H v x ks u' y'):u=u'/\y=y':=by
 induction ks generalizing v x with
 |nil=>cases h;cases h';exact⟨rfl,rfl⟩
 |cons k ks g=>
  cases h with
  |cons i c=>
   cases h' with
   |cons e a=>obtain⟨f,j⟩:=Chd.det i e;subst f j;exact g c a
def Chn.snoc(h:Chn b H v x ks u y)(c:Chd b H u y k w z):Chn b H v x (ks++[k]) w z:=by
 induction ks generalizing v x with
 |nil=>cases h;exact .cons c .nil
 |cons k ks e=>cases h with|cons f a=>exact .cons f (e a)
def Chn.unsnoc(h:Chn b H v x (ks++[k]) w z):∃u y,Chn b H v x ks u y/\Chd b H u y k w z:=by
 induction ks generalizing v x with
 |nil=>cases h with|cons c t=>cases t;exact⟨_,_,.nil,c⟩
 |cons k ks f=>
  cases h with
  |cons g e=>obtain⟨u,y,i,a⟩:=f e;exact⟨u,y,.cons g i,a⟩
def OD.q0:∀{ks:List Nat}{x:OD},x.at ks=some y->y.kids[k]?=some z->x.at (ks++[k])=some z
 |[],x,e,h=>by simp only[OD.at]at e;cases e;simp[OD.at,h]
 |j::ks,x,e,h=>by
  simp only[OD.at,aaK]at e ⊢;cases a:x.kids[j]? with
  |none=>rw[a]at e;cases e
  |some q=>rw[a]at e;exact OD.q0 e h
def setKid_self(h:x.kids[k]?=some z):OD.ej k z x=x:=by cases x<;>simp only[OD.kids]at h<;>first|(simp at h;done)|(simp only[OD.ej];rw[bD h])
def OD.ri:∀{ks:List Nat}{x:OD},x.at ks=some y->OD.put y ks x=x
 |[],x,e=>by simp only[OD.at]at e;cases e;rfl
 |j::ks,x,e=>by
  simp only[OD.at,OD.put]at e ⊢;cases a:x.kids[j]? with
  |none=>rfl
  |some q=>rw[a]at e;simp only;rw[OD.ri e];exact setKid_self a
def path_at:∀{ps:List Acc}{ρ:DEnv}{i:Nat}{p:OD×List Nat×OD},ak ρ i ps=some p->ρ[i]?.join=some p.1/\p.1.at p.2.1=some p.2.2
 |[],ρ,i,p,h=>by obtain⟨x,c,h⟩:=bnd h;cases h;exact⟨c,rfl⟩
 |a::ps,ρ,i,p,h=>by obtain⟨q,k,z,c,j,f,h⟩:=bn3 h;cases h;obtain⟨g,e⟩:=path_at c;exact⟨g,OD.q0 e f⟩
def Wd.way(w:Wd b H ((v,x)::L))(e:x.at ks=some y):∃u,Chn b H v x ks u y:=by
 obtain⟨i,f,g,a⟩:=w.out;cases f with
 |cons r t=>obtain⟨u,B,h,c,_⟩:=Ow.path r e;exact⟨u,c⟩
def Wd.zb(w:Wd b H ((v,x)::L))(e:x.at ks=some y)(ch:Chn b H v x ks u y)(i:y.kids[k]?=some z):∃q,Chd b H u y k q z:=by obtain⟨q,c⟩:=w.way (OD.q0 e i);obtain⟨u',y',h,a⟩:=Chn.unsnoc c;obtain⟨f,g⟩:=Chn.det ch h;subst f g;exact⟨q,a⟩
def Ext(H H':Hp):Prop:=∀a o,H a=some o->H' a=some o
def Ext.refl(H:Hp):Ext H H:=λ_ _ h=>h
def Ext.trans(h:Ext H H1)(h':Ext H1 H'):Ext H H':=λa o e=>h' a o (h a o e)
def Ext.upd(e:H p=none):Ext H (upd H p o):=λa q h=>by
 by_cases z:a=p
 ·subst z;rw[e]at h;cases h
 ·rw[upd_ne z];exact h
def Chd.ext(E:Ext H H')(h:Chd b H v x k w z):Chd b H' v x k w z:=by
 cases h with
 |lst a e f c=>exact .lst (E _ _ a) e f c
 |tup a e f c=>exact .tup (E _ _ a) e f c
 |dic a e g f c=>exact .dic (E _ _ a) e g f c
 |obj a e g f c=>exact .obj (E _ _ a) e g f c
def Chn.ext(E:Ext H H')(h:Chn b H v x ks u y):Chn b H' v x ks u y:=by
 induction ks generalizing v x with
 |nil=>cases h;exact .nil
 |cons k ks c=>cases h with|cons e a=>exact .cons (e.ext E) (c a)
end
def G1(K:Waa)(f:TE)(i:Nat)(ps:List Acc):Prop:=∀(b:Bs) (F:List Fr) (a:St) (H:Hp) (c:DEnv) (e:List V) (d:List OR) (Q:VK) (p:OD×List Nat×OD),b.K=K->Rel b F a H c e d->ak c i ps=some p->(∀v u,a[i]?=some (some v)->Chn b H v p.1 p.2.1 u p.2.2->Q u H)->f a H Q
inductive PDp (X:Cx)(e:Expr)(i:Nat)(ps:List Acc):Prop|mk (te:TE) (h:PE X e te) (s:G1 X.K te i ps)
inductive PX (X:Cx)(e:Expr)(f:St->Option V):Prop|mk (te:TE) (h:PE X e te) (s:∀σ H (Q:VK) v,f σ=some v->Q v H->te σ H Q)
section
variable{X:Cx}{C:Ct}{a e e2:Expr}{es:List Expr}{ma mb:E}{mes:Es}{pos p p1 p2:Pos}{x:Str}{i j:Nat}{ps:List Acc}{k:Int}
def EC:PX X (.Constant (.int k) j pos) (λ_=>some (.int k)):=⟨_,f6,λb H Q v e q=>by cases e;exact q⟩
def G2(f:X.N[i]?=some x) (c:Vis X.env.scope x) (d:(x==("__debug__":Str))=false) (b:(x==("__classdict__":Str))=false):PX X (.Name x pos) (λσ=>σ[i]?.join):=⟨_,aZ f c d b,λσ H Q v e q=>⟨v,join_some e,q⟩⟩
def G3(g:X.N[i]?=some x) (m:Vis X.env.scope x) (l:(x==("__debug__":Str))=false) (c:(x==("__classdict__":Str))=false):PDp X (.Name x pos) i []:=
 ⟨_,aZ g m l c,λb F t H n s o Q p r R h q=>by
  obtain⟨y,f,h⟩:=bnd h;cases h;obtain⟨v,d⟩:=R.wf.get (join_some f);exact⟨v,d,q v v d .nil⟩⟩
def lookup_at:∀{fs:List (Str×V)}{k:Nat}{w:V},(fs.map (·.1)).findIdx? (λg=>decide (g=f))=some k->(fs[k]?).map (·.2)=some w->fs.lookup f=some w
 |[],_,_,e,_=>by simp at e
 | (g,q)::fs,k,w,e,h=>by
  rw[aaj,aa9]at e;by_cases b:g=f
  ·subst b;simp at e;subst e;simp at h;subst h;simp[List.lookup]
  ·simp[b]at e;obtain⟨d,c,e2⟩:=e;subst e2;have l:(fs.map (·.1)).findIdx? (λg=>decide (g=f))=some d:=by rw[List.findIdx?_map];exact c
   have:=lookup_at l (by simpa using h);have m:(f==g)=false:=by simpa using λz=>b z.symm
   simp[List.lookup,m,this]
def ED{k:Nat}(h:accN ρ y (.fld c f)=some k):∃ns xs,y=.obj c ns xs/\ns.findIdx? (λg=>decide (g=f))=some k:=by obtain⟨q,d,h⟩:=bnd h;obtain⟨_,e2,b⟩:=bnd h;exact⟨q.2.1,q.2.2,by rw[kG d,gd_ok e2],b⟩
def EE{c f:Str}(A:attributeBase e f X.env (eval e X.env)=eval e X.env)(B:Cls X.K (av X.K c))(J:NoAttr X.K (av X.K c) f):PDp X e i ps->PDp X (.Attribute e f pos) i (.fld c f::ps)
 |⟨te,h,s⟩=>⟨_,Ax h A,λb F σ H ρ τ θ Q p m R d q=>by
  obtain⟨r,k,z,n,e2,I,d⟩:=bn3 d;cases d;refine s b F σ H ρ τ θ _ r m R n λv u o l=>?_;obtain⟨M,D⟩:=path_at n;obtain⟨P,g,w⟩:=R.slot (join_some M);rw[o]at g;cases g;obtain⟨y,t⟩:=w.zb D l I;obtain⟨N,O,L,e2⟩:=ED e2;rw[L]at t l;cases t with
  |@obj a dx _ fs _ _ _ _ _ f1 f2 f5 f3 f4=>exact⟨a,_,dx,fs,y,rfl,f1,m▸B,m▸J,lookup_at (by rw[f2];exact e2) f3,q v y o (l.snoc (.obj f1 f2 f5 f3 f4))⟩⟩
def uH{b:Type}{xs:List b}{i:Int}{k:Nat}{y:b}(c:xs.length=n)(h:ixN n i=some k)(e:xs[k]?=some y):atI xs i=some y:=by subst c;unfold atI;rw[h];exact e
def EF(B:PlainIx e2)(N:∀{b:Bs}{F:List Fr}{σ:St}{H:Hp}{ρ:DEnv}{τ:List V}{θ:List OR}{x:OD}{k:Nat},Rel b F σ H ρ τ θ->accN ρ x L=some k->∃n,f σ=some (.int n)/\((∃xs,x=.lst xs/\ixN xs.length n=some k)\/∃xs,x=.tup xs/\ixN xs.length n=some k)):PDp X e i ps->PX X e2 f->PDp X (.Subscript e e2 pos) i (L::ps)
 |⟨te,h,s⟩,⟨_,m,s2⟩=>⟨_,th nz h m B,λb F σ H ρ τ θ Q p O R c q=>by
  obtain⟨r,k,z,y,e2,I,c⟩:=bn3 c;cases c;refine s b F σ H ρ τ θ _ r O R y λv u l o=>?_;obtain⟨M,m⟩:=path_at y;obtain⟨P,d,w⟩:=R.slot (join_some M);rw[l]at d;cases d;obtain⟨g,A⟩:=w.zb m o I;obtain⟨n,D,J⟩:=N R e2;refine s2 σ H _ _ D ?_;obtain⟨T,S,U⟩:=r;simp only at *;rcases J with ⟨xs,rfl,t⟩|⟨xs,rfl,t⟩
  ·cases A with
   |@lst a vs _ _ _ _ f1 f2 f3 f4=>exact .inl ⟨a,vs,n,g,rfl,rfl,SqL.of f1,uH f2 t f3,q v g l (o.snoc (.lst f1 f2 f3 f4))⟩
  ·cases A with
   |@tup a vs _ _ _ _ f1 f2 f3 f4=>exact .inr (.inl ⟨a,vs,n,g,rfl,rfl,SqT.of f1,uH f2 t f3,q v g l (o.snoc (.tup f1 f2 f3 f4))⟩)⟩
def G4(f:PlainIx e2)(h:PDp X e i ps)(g:PX X e2 (λ_=>some (.int k))):PDp X (.Subscript e e2 pos) i (.ix k::ps):=
 EF f (λ{b F r H o q m x n} R c=>by
  obtain⟨d,l,c⟩:=bnd c;exact⟨k,rfl,(Bq l).imp (λe=>⟨d,e,c⟩) λe=>⟨d,e,c⟩⟩) h g
def Rel.keyS{k:Key}(R:Rel b F σ H ρ τ θ)(e:ρ[j]?.join=some (.fz d))(hk:keyOf d=some k):σ[j]?.join=some (kV k):=by obtain⟨v,c,w⟩:=R.slot (join_some e);have f:=w.dt rfl;rw[c];cases d<;>cases hk<;>cases f<;>rfl
def pk{k:Key}:∀{ws:List (Key×V)}{n:Nat}{w:V},(ws.map (·.1)).findIdx? (λq=>decide (q=k))=some n->(ws[n]?).map (·.2)=some w->valV ws k=some w
 |[],_,_,e,_=>by simp at e
 | (g,q)::ws,n,w,e,h=>by
  rw[aaj,aa9]at e;by_cases b:g=k
  ·subst b;simp at e;subst e;simp at h;subst h;exact dS rfl
  ·simp[b]at e;obtain⟨d,c,e2⟩:=e;subst e2;have f:(ws.map (·.1)).findIdx? (λq=>decide (q=k))=some d:=by rw[List.findIdx?_map];exact c
   have:=pk f (by simpa using h);simp only[valV]at this ⊢;rw[aaW];simp only[b,decide_false];exact this
def EG(O:X.A.units+1<cLine)(D:NoSl e2):PDp X e i ps->PX X e2 (λσ=>σ[j]?.join)->PDp X (.Subscript e e2 pos) i (.key j::ps)
 |⟨te,h,s⟩,⟨_,g,s2⟩=>⟨_,w9 O h g D,λb F σ H ρ τ θ Q p S R c q=>by
  obtain⟨r,k,z,l,e2,M,c⟩:=bn3 c;cases c;refine s b F σ H ρ τ θ _ r S R l λv u m B=>?_;obtain⟨P,g⟩:=path_at l;obtain⟨T,f,w⟩:=R.slot (join_some P);rw[m]at f;cases f;obtain⟨o,J⟩:=w.zb g B M;obtain⟨Y,W,Z⟩:=r;simp only at *;obtain⟨y,d,U,N,t,I,n,L,e2⟩:=bn4 e2;rw[dq I]at t;refine s2 σ H _ _ (R.keyS t L) ?_;cases J with
  |@dic a ws _ _ _ _ _ f1 f2 f5 f3 f4=>cases n;refine⟨a,o,rfl,?_,q v o m (B.snoc (.dic f1 f2 f5 f3 f4))⟩;have:=DGet.k (k:=N) f1;rw[pk (by rw[f2];exact e2) f3]at this;exact this
  |_=>cases n⟩
end
section
variable{b:Bs}{F:List Fr}{σ:St}{H H':Hp}{ρ:DEnv}{τ us:List V}{θ:List OR}{v u:V}{i:Nat}{ps:List Acc}{p:OD×List Nat×OD}{d:PyData}
def Rel.part(R:Rel b F σ H ρ τ θ)(e:ak ρ i ps=some p)(ev:σ[i]?=some (some v))(ch:Chn b H v p.1 p.2.1 u p.2.2)(j:p.2.2.dat=some d):Rel b F σ H (ρ.set i (some (OD.put (.fz d) p.2.1 p.1))) (u::τ) (.val (.fz d)::θ):=by obtain⟨k,f⟩:=path_at e;obtain⟨l,a,w⟩:=R.slot (join_some k);rw[ev]at a;cases a;obtain⟨m,c,h⟩:=w.u2 f j;obtain⟨g,_⟩:=Chn.det ch c;subst g;exact Rel.back R.wf R.al R.wff ev (h.perm (List.Perm.swap _ _ _))
def Rel.xr(R:Rel b F σ H ρ τ θ)(e:ak ρ i ps=some p)(ev:σ[i]?=some (some v))(ch:Chn b H v p.1 p.2.1 u p.2.2)(a:p.2.2=.fz d):Rel b F σ H ρ (u::τ) (.val (.fz d)::θ):=by obtain⟨f,c⟩:=path_at e;have:=R.part e ev ch (by rw[a];rfl);rw[<-a,OD.ri c,set_self (join_some f)]at this;rw[a]at this;exact this
def Rel.tr(R:Rel b F σ H ρ τ θ)(e:ak ρ i ps=some p)(ev:σ[i]?=some (some v))(ch:Chn b H v p.1 p.2.1 u p.2.2)(a:p.2.2.dat=some d):Dt b.K H u d:=(R.part e ev ch a).dt rfl
end
end
section
section
variable{X:Cx}{C:Ct}{a e e2:Expr}{es:List Expr}{ma mb:E}{mes:Es}{pos p p1 p2:Pos}{x:Str}{i j:Nat}{ps:List Acc}{k:Int}
def G5:PDp X e i ps->PDe X e (aF C (.pg i ps))
 |⟨te,h,s⟩=>⟨te,h,λb F σ H ρ τ θ n Q m R ⟨y,h,q⟩ k=>by
  obtain⟨r,c,h⟩:=bnd h;refine s b F σ H ρ τ θ _ r m R c λv u f g=>?_;obtain⟨d,l,h⟩:=bnd h;cases h;exact k u H _ _ (R.xr c f g (dq l)) q⟩
def G6:PDp X e i ps->PDe X e (aF C (.pf i ps))
 |⟨te,h,s⟩=>⟨te,h,λb F σ H ρ τ θ m Q l R ⟨y,h,q⟩ k=>by
  obtain⟨r,d,c,e2,h⟩:=bn2 h;cases h;exact s b F σ H ρ τ θ _ r l R c λv u f g=>k u H _ _ (R.part c f g e2) q⟩
def G7(o:Gl X "len") (A:X.mg "len"=none) (f:isStar e=false):PDp X e i ps->PDe X (.Call (.Name "len" p) [e] [] pos) (aF C (.pl i ps))
 |⟨te,h,s⟩=>⟨_,cA lN o A nJ (aO h bo (aA f)) (by decide) (by decide) (aA f) (cf rfl),λb F σ H ρ τ θ I Q g R ⟨y,h,q⟩ k=>by
  obtain⟨r,d,n,c,e2,t,h⟩:=bn3 h;cases h;refine s b F σ H ρ τ θ _ r g R c λv u l z=>?_;refine sc_len H [u] [d] (λd=>d=.int n) _ (.cons (g▸R.tr c l z e2) .nil) ⟨d,n,rfl,t,rfl⟩ λw D m B=>?_;subst B;exact k w H _ _ (R.sc m) q⟩
def G8(n:plainT e=true):PDp X e i ps->PDt X e (gp C (.pt i ps))
 |⟨te,h,s⟩=>⟨_,lM h (plainT_ok n),λb F σ H ρ τ θ o Q f R ⟨y,h,q⟩ k=>by
  obtain⟨r,d,t,c,e2,l,h⟩:=bn3 h;cases h;refine s b F σ H ρ τ θ _ r f R c λv u g m=>?_;exact⟨t,ph (f▸R.tr c g m e2) l,k _ _ _ R q⟩⟩
def pv(g:aT C m=(vt (ev C m)).2)(l:∀ρ x,ev C m ρ=some x->∃k,x.1=.val (.fz (.bool k))):∀ρ Q,gp C m ρ Q->gM (aF C m) ρ Q:=λρ Q ⟨y,h,q⟩=>by
 have b:((ev C m ρ).bind λx=>(aJ x.2 x.1).bind λd=>(kE d).bind λk=>some (k,x.2))=some y:=by rw[<-h,g];rfl
 obtain⟨z,c,b⟩:=bnd b;obtain⟨k,f⟩:=l ρ z c;rw[f]at b;cases b;exact⟨z,c,k,by rw[f];rfl,q⟩
def SndT.imp{K:Waa}(s:SndT K te d)(f:∀ρ Q,d' ρ Q->d ρ Q):SndT K te d':=λb F n H ρ m c h Q g R l q=>s b F n H ρ m c h Q g R (f _ _ l) q
def uI{neg:Bool}(Z:X.A.units+64<cLine)(M:behindInMarks (coOf (if neg then .nin else .inn)) e=false):PDe X a (aF C ma)->PDp X e i ps->PDe X (.Compare a [coOf (if neg then .nin else .inn)] [e] pos) (aF C (.pin neg ma i ps))/\PDt X (.Compare a [coOf (if neg then .nin else .inn)] [e] pos) (gp C (.pin neg ma i ps))
 |⟨ta,f,s1⟩,⟨te,h,s⟩=>by
  obtain⟨r2,L,O⟩:=uE Z (if neg then .nin else .inn);have S:cI X.K (y6 r2 ta te) (aF C (.pin neg ma i ps)):=by refine λb F N H B τ W Qd Q l R ⟨y,h,q⟩ k=>?_;obtain⟨z,n,r,d,t,J,o,e2,I,D,h⟩:=bn5 h;cases h;refine s1 b F N H B τ W (λr c=>r=z.1/\c=z.2) _ l R ⟨z,J,rfl,rfl⟩ λv m r' c g hZ=>?_;obtain⟨f,U⟩:=hZ;subst f U;refine s b F N m _ _ _ _ r l g e2 λv' u P Y=>?_;refine O m v u n d (λd=>d=.bool t) _ (l▸g.dt o) (l▸g.tr e2 P Y I) ⟨t,D,rfl⟩ λw d' T hd=>?_;subst hd;exact k w m _ _ (g.drop.sc T) q
  refine⟨⟨_,j8 L f h M,S⟩,⟨_,j9 L f h M,(iJ S).imp (pv rfl λB x h=>?_)⟩⟩;obtain⟨z,n,r,d,t,J,o,e2,I,D,h⟩:=bn5 h;cases h;exact⟨t,rfl⟩
def pw{k:Key}:∀{ws:List (Key×V)},(valV ws k).isSome=(ws.map (·.1)).any λq=>decide (q=k)
 |[]=>rfl
 | (g,q)::ws=>by
  have c:=pw (k:=k) (ws:=ws);by_cases b:g=k
  ·subst b;rw[dS rfl];simp
  ·simp only[valV]at c ⊢;rw[aaW];simp only[b,decide_false,aaj,aaP,abY];exact c
def BE(neg:Bool)(b c:TE):TE:=if neg then oR b c else Dx b c
def uJ{neg:Bool}(n:X.A.units+1<cLine)(D:behindInMarks (coOf (if neg then .nin else .inn)) e=false):PDe X a (aF C ma)->PDp X e i ps->PDe X (.Compare a [coOf (if neg then .nin else .inn)] [e] pos) (aF C (.din neg ma i ps))/\PDt X (.Compare a [coOf (if neg then .nin else .inn)] [e] pos) (gp C (.din neg ma i ps))
 |⟨ta,d,s1⟩,⟨te,h,s⟩=>by
  have hp:PE X (.Compare a [coOf (if neg then .nin else .inn)] [e] pos) (BE neg ta te):=by
   cases neg with
   |true=>exact j5 (jC n d h) D
   |false=>exact j5 (tJ n d h) D
  have L:PT X (.Compare a [coOf (if neg then .nin else .inn)] [e] pos) (tB (BE neg ta te)):=by
   cases neg with
   |true=>exact j6 (jC n d h) D
   |false=>exact j6 (tJ n d h) D
  have S:cI X.K (BE neg ta te) (aF C (.din neg ma i ps)):=by
   refine λb F f H I U M Qd Q P R ⟨y,h,q⟩ k=>?_;obtain⟨z,Z,r,kk,uu,N,e1,e2,ek,t,h⟩:=bn5 h;have t:=kF t
   ·cases h;have Y:∀v l W c,Rel b F f l c (v::U) (W::M)->(W=z.1/\c=z.2)->te f l λx H2=>∃a o,x=.ref a/\DGet H2 a v o/\Q (.bl (if neg then !o.isSome else o.isSome)) H2:=λv l W c B ⟨d,m⟩=>by
     subst d m;refine s b F f l _ _ _ _ r P B e2 λv' u ev ch=>?_;obtain⟨d,m⟩:=path_at e2;obtain⟨v2,g,w⟩:=B.slot (join_some d);rw[ev]at g;cases g;rw[t]at m ch;obtain⟨ad,ws,T,hH,O,hl,_⟩:=Wd.u3 (us:=[]) (zs:=[]) w rfl m;obtain⟨e5,_⟩:=Chn.det ch T;subst e5;have hv:=B.dt e1;have J:v=kV kk:=by cases Z<;>cases ek<;>cases hv<;>rfl
     subst J;refine⟨ad,_,rfl,DGet.k hH,?_⟩;rw[pw,O];exact k _ l _ _ (B.drop.sc (.bl _)) q
    cases neg with
    |true=>exact s1 b F f H I U M (λr c=>r=z.1/\c=z.2) _ P R ⟨z,N,rfl,rfl⟩ Y
    |false=>exact s1 b F f H I U M (λr c=>r=z.1/\c=z.2) _ P R ⟨z,N,rfl,rfl⟩ Y
  refine⟨⟨_,hp,S⟩,⟨_,L,(nP S).imp (pv rfl λI x h=>?_)⟩⟩;obtain⟨z,Z,r,kk,uu,N,e1,e2,ek,t,h⟩:=bn5 h;cases h;exact⟨_,rfl⟩
end
def G9(K:Waa)(i:TE)(f:DEnv->Option PyData):Prop:=∀(b:Bs) (F:List Fr) (e:St) (H:Hp) (a:DEnv) (h:List V) (g:List OR) (Q:VK) (d:PyData),b.K=K->Rel b F e H a h g->f a=some d->(∀v c,Ext H c->Rel b F e c a (v::h) (.val (.fz d)::g)->Q v c)->i e H Q
inductive PDq (X:Cx)(e:Expr)(f:DEnv->Option PyData):Prop|mk (te:TE) (h:PE X e te) (s:G9 X.K te f)
def EH(K:Waa)(k:TA)(f:DEnv->Option (List PyData)):Prop:=∀(b:Bs) (F:List Fr) (h:St) (H:Hp) (c:DEnv) (j:List V) (i:List OR) (Q:List V->Hp->Prop) (a:List PyData),b.K=K->Rel b F h H c j i->f c=some a->(∀e g,Ext H g->e.length=a.length->Rel b F h g c (e++j) (a.map (λd=>OR.val (.fz d))++i)->Q e g)->k h H Q
inductive PDqs (X:Cx)(es:List Expr)(f:DEnv->Option (List PyData)):Prop|mk (te:TA) (h:PA X es te) (s:EH X.K te f)
section
variable{X:Cx}{C:Ct}{a e e2:Expr}{es:List Expr}{ma mb:E}{mes:Es}{pos p p1 p2:Pos}{x:Str}{i j:Nat}{ps:List Acc}{k:Int}
def Ha(l:X.N[i]?=some x) (n:Vis X.env.scope x) (m:(x==("__debug__":Str))=false) (f:(x==("__classdict__":Str))=false):PDq X (.Name x pos) (jr C (.nm i)):=
 ⟨_,aZ l n m f,λb F w H o u r Q d t R h q=>by
  obtain⟨s,c,h⟩:=bnd h;rw[dq h]at c;obtain⟨v,g⟩:=R.wf.get (join_some c);exact⟨v,g,q v H (.refl H) (R.dupS (join_some c) g)⟩⟩
def EI:PDq X (.Constant (.int k) j pos) (jr C (.int k)):=⟨_,f6,λb F m H f l c Q d g R h q=>by
  cases h;exact q _ H (.refl H) (R.sc (.int k))⟩
def Hb:PDp X e i ps->PDq X e (jr C (.pg i ps))
 |⟨te,h,s⟩=>⟨te,h,λb F σ H ρ τ θ Q d l R h q=>by
  obtain⟨r,c,h⟩:=bnd h;refine s b F σ H ρ τ θ _ r l R c λv u f g=>?_;exact q u H (.refl H) (R.xr c f g (dq h))⟩
def Hc(N:PlainIx e2):PDq X e (jr C ma)->PDq X e2 (jr C mb)->PDq X (.Subscript e e2 pos) (jr C (.ix ma mb))
 |⟨_,h1,s1⟩,⟨_,h2,s2⟩=>⟨_,th nz h1 h2 N,λb F σ H ρ τ θ Q d r R h q=>by
  obtain⟨dx,J,O,e2,h⟩:=bn2 h;refine s1 b F σ H ρ τ θ _ dx r R O λv W B U=>s2 b F σ W ρ _ _ _ J r U e2 λu f L s=>?_;have w:=s.ry.drop;have y:∀(l:Bool) (c:List PyData) (n:Int),dx=(if l then .list c else .tuple c)->J=.int n->atI c n=some d->y6 (HG X.K) (λ_ _ Q=>Q v f) (λ_ _ Q=>Q u f) σ H Q:=λl c n Y S T=>by
   subst Y S;have Z:=s.dt rfl;cases Z;obtain⟨M,A,o,rfl,t,g,P⟩:=Wd.itemF s.drop.wd T;have D:Rel b F σ f ρ (o::τ) (.val (.fz d)::θ):=Rel.push s.drop.drop P;rcases t with z|z
   ·exact .inl ⟨M,A,n,o,rfl,rfl,r▸z,g,q o f (B.trans L) D⟩
   ·exact .inr (.inl ⟨M,A,n,o,rfl,rfl,r▸z,g,q o f (B.trans L) D⟩)
  obtain⟨c,n,m,I,h⟩:=bn2 h;rcases kH m with m|m
  ·exact y true c n m (be I) h
  ·exact y false c n m (be I) h⟩
def BF:PDqs X [] (nV C .nil):=⟨_,bo,λb F m H f l c Q d g R h q=>by
 cases h;exact q [] H (.refl H) rfl R⟩
def xR(g:isStar e=false):PDq X e (jr C ma)->PDqs X es (nV C mes)->PDqs X (e::es) (nV C (.cons ma mes))
 |⟨_,h1,s1⟩,⟨_,h2,s2⟩=>⟨_,aO h1 h2 (aA g),λb F σ H ρ τ θ Q d f R h q=>by
  obtain⟨dx,t,m,e2,h⟩:=bn2 h;cases h;refine s1 b F σ H ρ τ θ _ dx f R m λv s o r=>s2 b F σ s ρ _ _ _ t f r e2 λl n u c w=>q (v::l) n (o.trans u) (by simp[c]) ?_;exact Rel.vv w (by simp[c])⟩
def EJ{s}:PDqs X es (nV C mes)->PDq X (.Tuple es s pos) (jr C (.tup mes))
 |⟨_,h1,s1⟩=>⟨_,iz h1,λb F σ H ρ τ θ Q d t R h q=>by
  obtain⟨ds,_,n,g,h⟩:=bn2 h;have g:=gd_ok g
  ·cases h;refine s1 b F σ H ρ τ θ _ ds t R n λu v o f c=>⟨aan (by omega:_<=1000000) (by decide),λp m=>q _ _ (o.trans (.upd m)) ?_⟩
   have e2:ds.map (λd=>OR.val (.fz d))=(ds.map OD.fz).map OR.val:=by simp
   rw[e2]at c;have w:=c.vals (by simpa using f);have l:=l7 w (by simpa using f) m;have r:mkTup (ds.map OD.fz)=.fz (.tuple ds):=by simp only[mkTup,gh]
   rw[r]at l;exact Rel.push (c.drops (by simpa using f)) l⟩
end
def pC:∀{vs:List Value}{ns:List Int},vs.length=ns.length->(∀(j:Nat) (v:Value) (n:Int),vs[j]?=some v->ns[j]?=some n->∃t,v=.int n t)->IntsAre vs ns
 |[],[],_,_=>.nil
 |v::vs,n::ns,e,h=>by obtain⟨t,rfl⟩:=h 0 v n rfl rfl;exact .cons n t (pC (by simpa using e) λj v n a b=>h (j+1) v n a b)
def uK:∀{a:List (Key×V)}{vs:List (Key×Value)},KV a vs->vs.map (·.1)=a.map (·.1)
 |_,_,.nil=>rfl
 |_,_,.cons r t=>by rw[aaj,aaj,uK t,r.1]
section
variable{X:Cx}
def nY(Z:X.calm=true):bZ X (.builtin "sorted") (λxs H Q=>∃(p:Addr) (c:List (Key×V)) (ns:List Int),xs=[.ref p]/\H p=some (.dK c)/\c.map (·.1)=ns.map Sum.inl/\ns.length<64/\∀(ns':List Int) (a:Addr),ns'.Perm ns->ns'.Pairwise (·<=·)->H a=none->Q (.ref a) (upd H a (.lst (ns'.map V.int)))):=by
 intro m s σ H xs us Q I r h;obtain⟨p,c,ns,rfl,hp,L,hl,q⟩:=h;obtain⟨u,rfl,S⟩:=vals1 r;cases S;obtain⟨T,lo,F,J,hD⟩:=I.hok p _ hp;obtain⟨ep,C⟩:=hD.dictAt;have ek:=(uK J).trans L;have P:c.length=F.length:=Paired.length J;have kn:c.length=ns.length:=by have:=congrArg List.length L;simpa using this
 refine Calls.call_function_entry kind_sorted plain_sorted entry_sorted (args_sorted1 _) ?_;unfold Builtin.«sorted»;refine wpAny_bind (wpAny_pure (wpAny_bind (PySem.W.kdu_collect (PySem.W.kdl_dict lo) (I.ok.hd Z) C (by rw[<-P];exact T) λB U d A f=>?_)));have M:d.toList.length=ns.length:=by rw[abu,f.1,<-P,kn]
 have hI:IntsAre d.toList ns:=pC M λj v n hv hn=>by
  obtain⟨k,x,hx,hi⟩:=f.2 j v (by rw[<-acp];exact hv);have e:(F.map (·.1))[j]?=some k:=by rw[aav,hx];rfl
  rw[ek,aav,hn]at e;cases e;rcases aP (k:=.inl n) hi with ⟨i,t,z,Y⟩|⟨y,t,z,_⟩
  ·cases z;exact⟨t,Y⟩
  ·cases z
 have sl:64<=sizeLine:=by decide
 refine wpAny_bind (wpAny_newList ?_ (by rw[M];omega));have l:(B.push (seqObj "list" d.toList.toArray 0)).get? B.objs.size=some (seqObj "list" d.toList.toArray 0):=Heap.get?_push_size _ rfl;refine wpAny_bind (wpAny_holding (wpAny_call_entry slot_list_sort ⟨_,l,rfl⟩ entry_list_sort (list_sort_tree l hI (by omega) λw ns' a1 N a3=>⟨_,rfl,wpAny_pure ⟨_,rfl,?_⟩⟩) (args_list_sort _)));obtain⟨e,he⟩:=sortedHeap_at l;have D:Inv X m σ H { s with heap:=B,toks:=U }:=I.kept A;refine⟨.ref _,_,D.laid (o:=.lst (ns'.map V.int)) (λb u O=>?_) (aag _) ⟨?_,w.toList,e,vals_ints a1,he⟩,rfl,q ns' _ N a3 (D.hok.fresh (aag _))⟩
 ·have g:=Heap.lt_size O;rw[sortedHeap_old (aao g) (by rw[size_push'];exact abl g),Heap.get?_push_ne _ _ _ (aao g)];exact O
 ·rw[aaa,N.length_eq];omega
end
def mF:∀{ks:List Key}{ns:List Int},mq ks=some ns->ks=ns.map Sum.inl
 |[],ns,h=>by cases h;rfl
 |.inl i::ks,ns,h=>by obtain⟨r,e,h⟩:=bnd h;cases h;rw[mF e];rfl
 |.inr _::_,_,h=>by cases h
section
variable{X:Cx}{C:Ct}{x:Str}{p p1 pos:Pos}{i:Nat}
def EK(o:X.calm=true) (r:Gl X "sorted") (I:X.mg "sorted"=none) (s:X.N[i]?=some x) (L:Vis X.env.scope x) (J:(x==("__debug__":Str))=false) (f:(x==("__classdict__":Str))=false):PDe X (.Call (.Name "sorted" p) [.Name x p1] [] pos) (aF C (.sdd i)):=by refine⟨_,cA (nY o) r I jH (aO (aZ s L J f) bo (aA rfl)) (by decide) (by decide) (aA rfl) rfl,λb F O H P Z T W Q Y R ⟨y,h,q⟩ k=>?_⟩;obtain⟨U,z,c,_,g,j,n,D,h⟩:=bn4 h;cases h;rw[kF j]at g;obtain⟨v,m,w⟩:=Rel.open (us:=[]) (zs:=[]) R rfl g;obtain⟨l,u,B,M,e,_,_⟩:=w.u3 (ks:=[]) rfl rfl;cases B;refine⟨_,m,l,u,c,rfl,M,by rw[e];exact mF n,gd_ok D,λd a p1 A t=>?_⟩;have:d=sortI c:=fH (p1.trans (sortI_perm c).symm) A (eN c);subst this;refine k _ _ _ _ (R.push ?_) q;have w:=R.wd.adds (ds:=(sortI c).map PyData.int) λS _=>FzA.ints _;have:=Wd.eu w (by simp) t;rw[aa0]at this;exact this
end
section
variable{X:Cx}{C:Ct}{x:Str}{p p1 pos:Pos}{i:Nat}
def uL(D:X.A.units+64<cLine):OpR X (compareOp .NotEq) (λx y H Q=>∃p q xs,x=.ref p/\y=.ref q/\SqL X.K H p xs/\SqL X.K H q []/\Q (.bl (!xs.isEmpty)) H):=by
 intro b s F H x y v u Q I l n h;obtain⟨p,q,xs,rfl,rfl,o,m,k⟩:=h;cases l;cases n;obtain⟨a,t,c,_⟩:=I.list o;obtain⟨d,r,g,_⟩:=I.list m;cases r;have f:=t.length;cases xs with
 |nil=>obtain rfl:a=[]:=ab7.mp f.symm;exact SeqAt.RcNeAt.lists (e:=λ_=>true) c.isList g.isList rfl (by omega) (λj h=>absurd h (Nat.not_lt_zero _)) X.prog X.w _ _ ⟨.bl false,H,I,rfl,k⟩
 |cons z B=>exact SeqAt.RcNeAt.lists_lengths c.isList g.isList (by rw[aau,<-f];rfl) (by omega) X.prog X.w _ _ ⟨.bl true,H,I,rfl,k⟩
def Rel.lsAt(R:Rel b F σ H ρ τ θ)(e:ρ[i]?.join=some (.lst xs)):∃l vs,σ[i]?=some (some (.ref l))/\H l=some (.lst vs)/\vs.length=xs.length:=by obtain⟨v,c,w⟩:=Rel.open (us:=[]) (zs:=[]) R rfl e;obtain⟨l,vs,a,f,d,_⟩:=w.uh (ks:=[]) rfl rfl;cases a;exact⟨l,vs,c,f,d⟩
def Hd(g:Gl X "len") (n:X.mg "len"=none) (j:X.N[i]?=some x) (r:Vis X.env.scope x) (o:(x==("__debug__":Str))=false) (a:(x==("__classdict__":Str))=false):PDe X (.Call (.Name "len" p) [.Name x p1] [] pos) (aF C (.ln i)):=by refine⟨_,cA kg g n nJ (aO (aZ j r o a) bo (aA rfl)) (by decide) (by decide) (aA rfl) rfl,λb F t H u D w A Q B R ⟨y,h,q⟩ k=>?_⟩;obtain⟨z,v,c,e,h⟩:=bn2 h;cases h;rw[cP e]at c;obtain⟨l,d,f,s,m⟩:=R.lsAt c;exact⟨_,f,l,d,rfl,.inl (SqL.of s),by rw[m];exact k _ H _ _ (R.sc (.int _)) q⟩
def pD{K:Waa}:cI K (y6 (λx y H Q=>∃p q xs,x=.ref p/\y=.ref q/\SqL K H p xs/\SqL K H q []/\Q (.bl (!xs.isEmpty)) H) (tVar i) (Dm tNil)) (aF C (.nen i)):=λb F m H n s o v Q w R ⟨y,h,q⟩ k=>by
 obtain⟨u,xs,d,g,h⟩:=bn2 h;cases h;rw[cP g]at d;obtain⟨l,a,j,f,r⟩:=R.lsAt d;refine⟨_,j,aaH _,λe c=>⟨l,e,a,rfl,rfl,SqL.of (by rw[upd_ne (ao f c)];exact f),SqL.of au,?_⟩⟩;have:a.isEmpty=xs.isEmpty:=by rw[abj,abg,abg,<-ab7,<-ab7,r]
 rw[this];have t:Rel b F m (upd H e (.lst [])) n s o:=⟨R.wf,R.al,R.wff,R.wd.new c⟩
 exact k _ _ _ _ (t.sc (.bl _)) q
def EL(e:X.A.units+64<cLine) (c:X.N[i]?=some x) (d:Vis X.env.scope x) (b:(x==("__debug__":Str))=false) (a:(x==("__classdict__":Str))=false):PDe X (.Compare (.Name x p) [.NotEq] [.List [] p1] pos) (aF C (.nen i)):=⟨_,j8 (uL e) (aZ c d b a) (kb bo) (nobehind _ (by decide) (by decide)),pD⟩
def EM(g:X.A.units+64<cLine) (e:X.N[i]?=some x) (b:Vis X.env.scope x) (c:(x==("__debug__":Str))=false) (a:(x==("__classdict__":Str))=false):PDt X (.Compare (.Name x p) [.NotEq] [.List [] p1] pos) (gp C (.nen i)):=by refine PDt.imp (d:=gM (aF C (.nen i))) ⟨_,j9 (uL g) (aZ e b c a) (kb bo) (nobehind _ (by decide) (by decide)),iJ pD⟩ λm Q ⟨y,h,q⟩=>?_;obtain⟨z,h,f⟩:=bnd h;have j:=h;obtain⟨n,k,l,o,h⟩:=bn2 h;cases h;cases f;exact⟨_,j,_,rfl,q⟩
end
end
section
section
variable{b:Bs}{S:Addr->Prop}{H:Hp}{vs us:List V}{xs zs:List OD}{A B C:List Addr}{v:V}{z:OD}
def Ows.addA(nt:∀c xs,H c=some (.tup xs)->¬ S c)(e:Ows b S H vs xs A)(a:Ows b S H us zs C)(d:(A++C).Nodup):∃D,Ows b S H (vs++us) (xs++zs) D/\D.Nodup/\∀c∈D,c∈A\/c∈C:=⟨A++C,Ows.append e a,d,λc f=>aak.mp f⟩
def Ows.one(h:Ows b S H [v] [z] C):Ow b S H v z C:=by
 cases h with
 |cons r t=>cases t;rw[aam];exact r
def Ows.setA(g:j<xs.length)(l:Ows b S H vs xs A)(f:Ows b S H [v] [z] C)(i:(A++C).Nodup):∃D,Ows b S H (vs.set j v) (xs.set j z) D/\D.Nodup/\∀c∈D,c∈A\/c∈C:=by
 obtain⟨q,d,B,e,m,rfl,n,k⟩:=l.zip (aap g);refine⟨d++(C++e),k f.one λ_ h=>h,?_,λc a=>?_⟩
 ·have p:((d++(B++e))++C).Perm (B++(d++(C++e))):=by refine((b9 d B e).append_right C).trans ?_;rw[aad];refine aaZ B ?_;rw[aad];exact aaZ d aaY
  exact(aaA.mp (p.nodup_iff.mp i)).2.1
 ·simp only[aak]at a ⊢;rcases a with a|a|a
  ·exact .inl (.inl a)
  ·exact .inr a
  ·exact .inl (.inr (.inr a))
def kK:∀{fs:List (Str×V)}{xs:List OD},fs.length=xs.length->(cz f v fs).map (·.1)=(bx f z (fs.map (·.1)) xs).1
 |[],[],_=>rfl
 | (g,q)::fs,x::xs,e=>by
  simp only[cz,bx,aaj];by_cases a:g=f
  ·rw[if_pos a,if_pos a];rfl
  ·rw[if_neg a,if_neg a,aaj,kK (fs:=fs) (by simpa using e)]
 |[],_::_,e=>by simp at e
 |_::_,[],e=>by simp at e
def iR:∀{fs:List (Str×V)}{xs:List OD}{A:List Addr},Ows b S H (fs.map (·.2)) xs A->Ow b S H v z C->(A++C).Nodup->∃D,Ows b S H ((cz f v fs).map (·.2)) (bx f z (fs.map (·.1)) xs).2 D/\D.Nodup/\∀c∈D,c∈A\/c∈C
 |[],_,_,.nil,h2,nd=>⟨C++[],.cons h2 .nil,by simpa using nd,λc a=>.inr (by simpa using a)⟩
 | (g,q)::fs,x::xs,_,.cons (A:=A1) (B:=A2) r t,h2,nd=>by
  simp only[cz,bx,aaj];by_cases d:g=f
  ·rw[if_pos d,if_pos d];refine⟨C++A2,.cons h2 t,?_,λc a=>?_⟩
   ·rw[aad]at nd;exact(aaY.nodup_iff.mp (aaA.mp nd).2.1)
   ·rcases aak.mp a with h|h
    ·exact .inr h
    ·exact .inl (aac _ h)
  ·rw[if_neg d,if_neg d];rw[aad]at nd;obtain⟨n,m,o⟩:=aaA.mp nd;obtain⟨D,l,p,j⟩:=iR t h2 m;refine⟨A1++D,.cons r l,aaA.mpr ⟨n,p,λc a k i e=>o c a k (aak.mpr (j k i)) e⟩,λc a=>?_⟩;rcases aak.mp a with h|h
   ·exact .inl (aae _ h)
   ·exact(j c h).imp (aac _) id
def kL(e:ws.length=xs.length):(putK ws k v).map (·.1)=(bf k d (ws.map (·.1)) xs).1:=by
 unfold putK bf;rw[List.any_map];have f:((λq=>decide (q=k)) ∘ λx:Key×V=>x.1)=λc=>decide (c.1=k):=rfl;rw[f];by_cases a:(ws.any λc=>decide (c.1=k))=true
 ·rw[if_pos a,if_pos a,aa0];refine acu λq _=>?_;simp only[Function.comp];split<;>rfl
 ·rw[if_neg a,if_neg a,aax];rfl
def mG(f:Fz b.K S H v d):∀{ws:List (Key×V)}{xs:List OD}{A:List Addr},Ows b S H (ws.map (·.2)) xs A->∃D,Ows b S H ((ws.map (λc=>if c.1=k then (c.1,v) else c)).map (·.2)) (List.zipWith (λq x=>if q=k then .fz d else x) (ws.map (·.1)) xs) D/\D.Sublist A
 |[],_,_,.nil=>⟨[],.nil,List.Sublist.refl _⟩
 | (g,q)::ws,x::xs,_,.cons (A:=A1) r t=>by
  obtain⟨D,e,h⟩:=mG f t;simp only[aaj,List.zipWith_cons_cons];by_cases a:g=k
  ·rw[if_pos a,if_pos a];exact⟨[]++D,.cons (.fz f) e,(aaM D).symm▸h.trans (List.sublist_append_right _ _)⟩
  ·rw[if_neg a,if_neg a];exact⟨A1++D,.cons r e,(List.Sublist.refl A1).append h⟩
def iS(j:Ows b S H (ws.map (·.2)) xs A)(o:Ows b S H [v] [.fz d] C)(p:(A++C).Nodup):∃D,Ows b S H ((putK ws k v).map (·.2)) (bf k d (ws.map (·.1)) xs).2 D/\D.Nodup/\∀c∈D,c∈A\/c∈C:=by
 have h:Fz b.K S H v d:=by cases o with|cons r t=>cases r with|fz f=>exact f
 have l:=(aaA.mp p).1;unfold putK bf;rw[List.any_map];have m:((λq=>decide (q=k)) ∘ λx:Key×V=>x.1)=λe=>decide (e.1=k):=rfl;rw[m];by_cases a:(ws.any λe=>decide (e.1=k))=true
 ·rw[if_pos a,if_pos a];obtain⟨D,n,i⟩:=mG h j;exact⟨D,n,i.nodup l,λc g=>.inl (i.subset g)⟩
 ·rw[if_neg a,if_neg a,aax];exact⟨A++[],Ows.append j (.cons (.fz h) .nil),by simpa using l,λc g=>.inl (by simpa using g)⟩
end
section
variable{X:Cx}{W:Nat->Prop}{m:Nat}{C:Ct}{a b c e e2 kx:Expr}{es:List Expr}{sts s1 s2:List Stmt}{st:Stmt}{ma mb mc mk':E}{mes:Es}{ms:S'}{mss ma' mb':Ss}{pos p p1 p2 p3 pos' apos cpos:Pos}{x:Str}{i j:Nat}{ps:List Acc}
def uM{o i:Expr}(h:bU i=false):∀v,assign (.Subscript o i pos) env v=(do
   let ov <-holding [v] (eval o env)
   let iv <-holding [v,ov] (eval i env)
   standAt pos
   holding [v,ov,iv] (setItem ov iv v)
   release [v,ov,iv] []):=by
 cases i<;>first|(intro _;rfl)|cases h
def BG{env:Env}(h:isStar e=false):((backTo cpos (starEach [e] env)).all (λx=>!x.1)&&(backToKw cpos (keywordEach [] env)).all (λx=>x.1.isSome)
   && decide ([e].length+([]:List Keyword).length+(if ([]:List Keyword).isEmpty then 0 else 1)<30))=true:=by
 cases e<;>first|rfl|cases h
def Rel.cell{b:Bs}{τ:List V}{x:OD}(R:Rel b F σ H ρ τ θ)(n:ρ[i]?.join=some x)(q:x.at ks=some (.lst xs))(ev:σ[i]?=some (some v))(ch:Chn b H v x ks u (.lst xs)):∃l vs,u=.ref l/\H l=some (.lst vs):=by obtain⟨r,d,k⟩:=R.slot (join_some n);rw[ev]at d;cases d;obtain⟨o,g,h,f,_,_⟩:=Wd.uh (us:=[]) (zs:=[]) k rfl q;exact⟨o,g,(Chn.det ch h).1,f⟩
def Rel.cell0{b:Bs}{F:List Fr}(R:Rel b F σ H ρ τ θ)(f:ρ[i]?.join=some (.lst xs)):∃v,σ[i]?=some (some v)/\∃l vs,v=.ref l/\H l=some (.lst vs):=by obtain⟨v,d⟩:=R.wf.get (join_some f);exact⟨v,d,R.cell f rfl d .nil⟩
def Rel.za{b:Bs}{x o:OD}{v f:V}(R:Rel b F σ H ρ (f::τ) (.val o::θ))(n:ρ[i]?.join=some x)(q:x.at ks=some (.lst xs))(ev:σ[i]?=some (some v))(ch:Chn b H v x ks (.ref l) (.lst xs))(z:xs.length<1000000):
  ∃vs,H l=some (.lst vs)/\vs.length<sizeLine/\Rel b F σ (upd H l (.lst (vs++[f]))) (ρ.set i (some (OD.put (.lst (xs++[o])) ks x))) τ θ:=by
 obtain⟨I,d,w⟩:=Rel.open (us:=[f]) (zs:=[o]) R rfl n;rw[ev]at d;cases d;obtain⟨B,vs,g,y,D,h⟩:=w.uh rfl q;obtain⟨k,_⟩:=Chn.det ch g;cases k;exact⟨vs,y,aat (by omega) (by decide:1000001<=sizeLine),Rel.close (Rel.rest (us:=[f]) (zs:=[o]) R rfl) ev (h (vs++[f]) (xs++[o]) λS H A C s u r t=>Ows.addA s u r t)⟩
def EN(O:X.N[i]?=some x) (hv:Vis X.env.scope x) (hd:(x==("__debug__":Str))=false) (l:(x==("__classdict__":Str))=false) (d:(apos.endLine==cpos.line)=true) (f:isStar e=false):
  PDe X e (aF C ma)->PDs X W (.Expr (.Call (.Attribute (.Name x pos') "append" apos) [e] [] cpos) pos) (gu C (.app i ma))
 |⟨_,h,s⟩=>⟨_,ie (tm ab8 ab9 aca eG (aZ O hv hd l) (aO h bo (aA f)) rfl (BG f) d (aA f) (cf rfl)) rfl,λb F σ H ρ τ θ Dd D hK n R ⟨y,h,q⟩ E=>by
  obtain⟨x0,S,z,o,x1,A,T,J,e2,u,h⟩:=bn5 h;obtain⟨xs,_,f1,L,h⟩:=bn2 h;cases h;rw[cP T]at A;rw[cP f1]at u;obtain⟨v,w,B,t,rfl,g⟩:=R.cell0 A;refine⟨.ref B,w,.inl ⟨rfl,t,SqL.of g⟩,?_⟩;refine s b F σ H ρ τ θ (λr k=>r=z.1/\k=z.2) _ hK R ⟨z,J,rfl,rfl⟩ λZ H1 r a0 P hZ=>?_;obtain⟨Y,M⟩:=hZ;subst Y M;obtain⟨I,hH,U,Q⟩:=Rel.za (P.own1 e2) u rfl w .nil (gd_ok L);exact⟨B,I,Z,rfl,rfl,hH,U,E.nx σ _ _ Q q⟩⟩
def EO(M:attributeBase e "append" X.env (eval e X.env)=eval e X.env) (f:(apos.endLine==cpos.line)=true) (g:isStar a=false):
  PDp X e i ps->PDq X a (jr C ma)->PDs X W (.Expr (.Call (.Attribute e "append" apos) [a] [] cpos) pos) (gu C (.apd i ps ma))
 |⟨_,h0,s0⟩,⟨_,h,s⟩=>⟨_,ie (tm ab8 ab9 aca eG h0 (aO h bo (aA g)) M (BG g) f (aA g) (cf rfl)) rfl,λb F σ H ρ τ θ Y D B n R ⟨y,h,q⟩ E=>by
  obtain⟨r,d,Z,_,w,e2,J,L,h⟩:=bn4 h;cases h;obtain⟨z,k⟩:=path_at w;refine s0 b F σ H ρ τ θ _ r B R w λv u A o=>?_;rw[cP J]at k o;obtain⟨T,t,rfl,l⟩:=R.cell z k A o;refine⟨.inl ⟨rfl,t,SqL.of l⟩,s b F σ H ρ τ θ _ d B R e2 λS H1 N O=>?_⟩;obtain⟨I,U,Q,P⟩:=Rel.za O z k A (o.ext N) (gd_ok L);exact⟨T,I,S,rfl,rfl,U,Q,E.nx σ _ _ P q⟩⟩
def Rel.moved{b:Bs}{F:List Fr}(R:Rel b F σ H ρ τ θ)(e:ρ[j]?.join=some y):∃v,σ[j]?=some (some v)/\Rel b F σ H (ρ.set j none) (v::τ) (.val y::θ):=by
 obtain⟨v,f⟩:=R.wf.get (join_some e);have g:Rel b F σ H ρ (v::τ) (.rf j::θ):=⟨R.wf,⟨f,R.al⟩,R.wff,R.wd⟩
 obtain⟨_,_,w⟩:=R.slot (join_some e);rename_i h d;rw[f]at d;cases d;exact⟨v,f,⟨R.wf.off,R.al,R.wff,w⟩⟩
def ER(hN:X.N[i]?=some x) (hv:Vis X.env.scope x) (hd:(x==("__debug__":Str))=false) (M:(x==("__classdict__":Str))=false) (B:bU kx=false) (hs:swapsWith e (some (.Subscript (.Name x pos') kx p2)) pos.line X.env=pure false) (hw:swappedStores [.Subscript (.Name x pos') kx p2] e X.env=pure none):
  PDe X e (aF C ma)->PDe X kx (aF C mk')->PDs X W (.Assign [.Subscript (.Name x pos') kx p2] e pos) (gu C (.sti i mk' ma))
 |⟨_,g,s1⟩,⟨_,d,s2⟩=>⟨_,nh g (sL (aZ hN hv hd M) d set_list (uM B)) hs hw rfl,λb F σ H ρ τ θ Dd D Y n R ⟨y,h,q⟩ E=>by
  obtain⟨z,o,e1,e2,h⟩:=bn2 h;refine s1 b F σ H ρ τ θ (λr f=>r=z.1/\f=z.2) _ Y R ⟨z,e1,rfl,rfl⟩ λL H1 r a2 R1 O=>?_;obtain⟨g,d⟩:=O;subst g d;have Z:=R1.own1 e2;obtain⟨x0,a0,t,dk,k,e0,f0,e3,T,fk,h⟩:=bn5 h;obtain⟨x1,xs,J,Q,f1,U,h⟩:=bn3 h;rw[be fk]at T;rw[cP f1]at Q
  ·obtain⟨v,u⟩:=Z.wf.get (join_some e0);refine⟨v,u,s2 b F σ H1 _ _ _ (λr f=>r=t.1/\f=t.2) _ Y Z ⟨t,e3,rfl,rfl⟩ λv2 H2 r a1 I O=>?_⟩;obtain⟨g,d⟩:=O;subst g d
   ·cases h;have B:=I.dt T;cases B;obtain⟨v',s,w⟩:=Rel.open (us:=[L]) (zs:=[o.1]) I.drop rfl Q;rw[u]at s;cases s;obtain⟨l,P,ch,hH,hl,go⟩:=w.uh (ks:=[]) rfl rfl;cases ch;refine⟨l,P,k,J,rfl,rfl,hH,by rw[hl];exact U,?_⟩;exact E.nx σ _ _ (Rel.close (Rel.rest (us:=[L]) (zs:=[o.1]) I.drop rfl) u (go (P.set J L) (xs.set J o.1) λS H A C nt g d nd=>Ows.setA (t9 U) g d nd)) q⟩
def zr{k:Int}{j:Nat} (u:X.N[i]?=some x) (L:Vis X.env.scope x) (J:(x==("__debug__":Str))=false) (f:(x==("__classdict__":Str))=false) (Z:i<m):PDg X W m (.Subscript (.Name x pos') (.Constant (.int k) j p2) pos) (λy ρ Q=>∃xs a,ρ[i]?.join=some (.lst xs)/\ixN xs.length k=some a/\Q (ρ.set i (some (.lst (xs.set a y))))):=
 ⟨_,sL (aZ u L J f) f6 set_list (uM rfl),λb F s H ρ τ T v y U Q hK n R ⟨xs,a,r,h,q⟩ E=>by
  obtain⟨Y,d,w⟩:=Rel.open (us:=[v]) (zs:=[y]) R rfl r;obtain⟨l,g,z,M,D,o⟩:=w.uh (ks:=[]) rfl rfl;cases z;refine⟨_,d,l,g,k,a,rfl,rfl,M,by rw[D];exact h,?_⟩;exact E s _ _ (Rel.close (Rel.rest (us:=[v]) (zs:=[y]) R rfl) d (o (g.set a v) (xs.set a y) λS H A C O I t B=>Ows.setA (t9 h) I t B)) (λj P=>⟨rfl,aaS (by omega)⟩) q⟩
def He{k l:Int}{j H:Nat}{n:Nat}{p3 B J v:Pos} (A:X.calm=true) (D:X.N[i]?=some x) (I:Vis X.env.scope x) (s:(x==("__debug__":Str))=false) (o:(x==("__classdict__":Str))=false) (F:i<m):PDg X W m (.Tuple [.Subscript (.Name x pos') (.Constant (.int k) j p2) p3,.Subscript (.Name x B) (.Constant (.int l) H J) v] n pos) (ia (.sb i k l)):=by
 have u:=gi (W:=W) (m:=m) rfl (zr (W:=W) (m:=m) (pos:=p3) (pos':=pos') (p2:=p2) (k:=k) (j:=j) D I s o F) (gi rfl (zr (W:=W) (m:=m) (pos:=v) (pos':=B) (p2:=J) (k:=l) (j:=H) D I s o F) pdgs_nil);refine((oW (n:=2) A rfl rfl u).or (oX (n:=2) A rfl rfl u)).imp λy g Q S=>?_;obtain⟨O,h,q⟩:=S;obtain⟨d,z,U,w,a,f,e2,t,M,T,h⟩:=bn5 h;obtain⟨b,L,h⟩:=bnd h;cases h;rw[two2_ok e2]at f;rw[cP M]at t;have P:i<g.length:=aar.mp (join_some t) |>.1;have s:∃x r,[z.1,z.2]=x::r/\∃d a,g[i]?.join=some (.lst d)/\ixN d.length k=some a/\ui (λy g Q=>∃d a,g[i]?.join=some (.lst d)/\ixN d.length l=some a/\Q (g.set i (some (.lst (d.set a y))))) dgNil r (g.set i (some (.lst (d.set a x)))) Q:=by
  refine⟨z.1,[z.2],rfl,w,a,t,T,z.2,[],rfl,w.set a z.1,b,?_,by rw[aaN];exact L,rfl,?_⟩
  ·rw[aaR P];rfl
  ·rw[List.set_set];exact q
 rcases mC f with f|f
 ·exact .inl ⟨_,f,rfl,s⟩
 ·exact .inr ⟨_,f,rfl,s⟩
def ES(hu:X.A.units+1<cLine) (hN:X.N[i]?=some x) (hv:Vis X.env.scope x) (hd:(x==("__debug__":Str))=false) (O:(x==("__classdict__":Str))=false) (hs:swapsWith e (some (.Subscript (.Name x pos') kx p2)) pos.line X.env=pure false):
  PDe X e (aF C ma)->PDe X kx (aF C mk')->PDs X W (.Assign [.Subscript (.Name x pos') kx p2] e pos) (gu C (.sdk i mk' ma))
 |⟨_,g,s1⟩,⟨_,d,s2⟩=>⟨_,oS hu (aZ hN hv hd O) d g hs,λb F σ H ρ τ θ Dd D Z n R ⟨y,h,q⟩ E=>by
  obtain⟨z,o,e1,e2,h⟩:=bn2 h;refine s1 b F σ H ρ τ θ (λr f=>r=z.1/\f=z.2) _ Z R ⟨z,e1,rfl,rfl⟩ λM H1 r a1 R1 P=>?_;obtain⟨g,d⟩:=P;subst g d;have R2:=R1.frz1 e2;obtain⟨x0,_,t,kd,Y,e0,f0,e3,e4,e5,h⟩:=bn5 h;obtain⟨x1,uu,_,T,f1,I,h⟩:=bn3 h;have I:=gd_ok I;rw[kF f1]at T
  ·obtain⟨v,B⟩:=R2.wf.get (join_some e0);refine⟨v,B,s2 b F σ H1 _ _ _ (λr f=>r=t.1/\f=t.2) _ Z R2 ⟨t,e3,rfl,rfl⟩ λv2 H2 r a0 J P=>?_⟩;obtain⟨g,d⟩:=P;subst g d
   ··cases h
     have hk:=J.dt e4;have L:v2=kV Y:=by cases kd<;>cases e5<;>cases hk<;>rfl
     subst L;obtain⟨v',s,w⟩:=Rel.open (us:=[M]) (zs:=[.fz o.1]) J.drop rfl T;rw[B]at s;cases s;obtain⟨l,ws,ch,hH,u,U,Q⟩:=w.u3 (ks:=[]) rfl rfl;cases ch;obtain⟨ks,xs⟩:=uu;simp only at u U q Q I;subst u;refine⟨l,_,rfl,DPut.k hH (aat (by omega) (by decide:1000001<=sizeLine)),?_⟩;exact E.nx σ _ _ (Rel.close (Rel.rest (us:=[M]) (zs:=[.fz o.1]) J.drop rfl) B (Q (putK ws Y M) _ _ (kL U) λS H A C nt g d nd=>iS g d nd)) q⟩
def ET(hu:X.A.units+1<cLine)(hs:swapsWith a (some (.Subscript e e2 p2)) pos.line X.env=pure false):
  PDp X e i ps->PX X e2 (λσ=>σ[j]?.join)->PDe X a (aF C ma)->PDs X W (.Assign [.Subscript e e2 p2] a pos) (gu C (.std i ps j ma))
 |⟨_,h0,s0⟩,⟨_,d,s2⟩,⟨_,g,s1⟩=>⟨_,oS hu h0 d g hs,λb F σ H ρ τ θ Dd D Y n R ⟨y,h,q⟩ E=>by
  obtain⟨z,o,r,e1,e2,Q,h⟩:=bn3 h;refine s1 b F σ H ρ τ θ (λr I=>r=z.1/\I=z.2) _ Y R ⟨z,e1,rfl,rfl⟩ λL U r' a0 R1 hZ=>?_;obtain⟨g,d⟩:=hZ;subst g d;have t:=R1.frz1 e2;obtain⟨x0,kd,kk,uu,_,P,f0,e5,s,B,h⟩:=bn5 h;have B:=gd_ok B;have s:=kF s;rw[dq f0]at P;obtain⟨ks,xs⟩:=uu;simp only at B s h
  ···cases h
     obtain⟨g1,O⟩:=path_at Q;refine s0 b F σ U _ _ _ _ r Y t Q λv u N T=>s2 σ U _ _ (t.keyS P e5) ?_;obtain⟨v',f,w⟩:=Rel.open (us:=[L]) (zs:=[.fz o.1]) t rfl g1;rw[N]at f;cases f;rw[s]at O T;obtain⟨l,ws,M,hH,J,hl,Z⟩:=w.u3 rfl O;obtain⟨e6,_⟩:=Chn.det T M;subst e6 J;refine⟨l,_,rfl,DPut.k hH (aat (by omega) (by decide:1000001<=sizeLine)),?_⟩;exact E.nx σ _ _ (Rel.close (Rel.rest (us:=[L]) (zs:=[.fz o.1]) t rfl) N (Z (putK ws kk L) _ _ (kL hl) λS H A C nt g d nd=>iS g d nd)) q⟩
def EU{c f:Str} (hN:X.N[i]?=some x) (hv:Vis X.env.scope x) (hd:(x==("__debug__":Str))=false) (I:(x==("__classdict__":Str))=false) (Z:Cls X.K (av X.K c)) (hn:NoAttr X.K (av X.K c) f) (T:swapsWith e (some (.Attribute (.Name x pos') f p2)) pos.line X.env=pure false):
  PDe X e (aF C ma)->PDs X W (.Assign [.Attribute (.Name x pos') f p2] e pos) (gu C (.stf i c f ma))
 |⟨_,g,s1⟩=>⟨_,Ay (aZ hN hv hd I) g T,λb F σ H ρ τ θ Dd D J n R ⟨y,h,q⟩ E=>by
  obtain⟨z,o,Y,e2,h⟩:=bn2 h;refine s1 b F σ H ρ τ θ (λr t=>r=z.1/\t=z.2) _ J R ⟨z,Y,rfl,rfl⟩ λB H1 r a0 R1 hZ=>?_;obtain⟨g,s⟩:=hZ;subst g s;have P:=R1.own1 e2;obtain⟨x0,uu,_,k,f0,d,h⟩:=bn3 h;have d:=gd_ok d;rw[kG f0]at k;obtain⟨c',ns,xs⟩:=uu;simp only at d k h
  ··cases h
    obtain⟨L,d⟩:=d;subst L;obtain⟨v,M,w⟩:=Rel.open (us:=[B]) (zs:=[o.1]) P rfl k;obtain⟨l,U,O,ch,hH,u,hl,Q⟩:=w.mutO (ks:=[]) rfl rfl;cases ch;subst u;refine⟨.ref l,M,l,_,U,O,rfl,hH,J▸Z,J▸hn,by omega,?_⟩;exact E.nx σ _ _ (Rel.close (Rel.rest (us:=[B]) (zs:=[o.1]) P rfl) M (Q (cz f B O) _ _ (kK hl) λS H A C nt g s nd=>iR g s.one nd)) q⟩
def EV{c f:Str} (hN:X.N[i]?=some x) (hv:Vis X.env.scope x) (hd:(x==("__debug__":Str))=false) (a4:(x==("__classdict__":Str))=false) (hc:Cls X.K (av X.K c)) (hn:NoAttr X.K (av X.K c) f) (L:PDe X e (aF C ma)):
  PDs X W (.AugAssign (.Attribute (.Name x pos') f p2) (opOf o) e pos) (gu C (.agf i c f o ma)):=by
 have J:∀(B:Operator) (g:Int->Int->Int),wO X B (λx y H Q=>∃i j,x=.int i/\y=.int j/\Q (.int (g i j)) H)->(∀a d r,mr o a d=some r->∃k,d=.int k/\r=g a k)->PDs X W (.AugAssign (.Attribute (.Name x pos') f p2) B e pos) (gu C (.agf i c f o ma)):=λB g ho hg=>by
  obtain⟨_,h,s1⟩:=L;refine⟨_,rp (aZ hN hv hd a4) h ho,λb F Y H ρ τ Z Dd D U n R ⟨y,h,q⟩ E=>?_⟩;obtain⟨r,d0,t,z,d,s,f0,I,e2,e3,h⟩:=bn5 h;obtain⟨nr,x1,uu,_,e4,ex,f5,P,h⟩:=bn4 h;have P:=gd_ok P;rw[kG f5]at ex;obtain⟨c2,a8,b0⟩:=uu;simp only at P ex h;have e0:=dq f0;rw[be I]at e0;cases h
  ·have a7:=hg;obtain⟨k,rfl,rfl⟩:=hg _ _ _ e4;obtain⟨g1,g2⟩:=path_at s;obtain⟨v,T,w0⟩:=R.slot (join_some g1);obtain⟨u,ch⟩:=w0.way g2;have hu:=R.tr s T ch (by rw[e0];rfl);obtain⟨r0,k0,z0,I,f2,f3,s⟩:=bn3 s;obtain⟨x0,f4,I⟩:=bnd I;cases I;cases s;simp only[aaM]at ch g2 e0 f2 f3 g1;obtain⟨ns,xs,ey,f7⟩:=ED f2;subst ey;cases ch with
   |cons cd cn=>
    cases cn;cases cd with
    |@obj l dx c' fs _ _ _ _ _ q1 q2 q5 q3 q4=>
     ·cases hu;refine⟨_,T,l,_,dx,fs,.int t,rfl,q1,U▸hc,U▸hn,lookup_at (by rw[q2];exact f7) q3,?_⟩;refine s1 b F Y H ρ τ Z (λr a3=>r=z.1/\a3=z.2) _ U R ⟨z,e2,rfl,rfl⟩ λv1 H1 r b5 R1 hZ=>?_;obtain⟨L,h2⟩:=hZ;subst L h2;have a0:=R1.dt e3;cases a0;refine⟨t,k,rfl,rfl,?_⟩
      ··obtain⟨a6,P⟩:=P
        subst a6;have R2:Rel b F Y H1 z.2 (.int (g t k)::τ) (.val (.fz (.int (g t k)))::Z):=R1.drop.sc (.int _);obtain⟨v',O,w⟩:=Rel.open (us:=[.int (g t k)]) (zs:=[.fz (.int (g t k))]) R2 rfl ex;rw[T]at O;cases O;obtain⟨l2,a5,M,a2,hH,a1,hl,go⟩:=w.mutO (ks:=[]) rfl rfl;cases a2;subst a1;refine⟨a5,M,hH,by omega,?_⟩;exact E.nx Y _ _ (Rel.close R1.drop T (go (cz f _ M) _ _ (kK hl) λS H A C nt L h2 nd=>iR L h2.one nd)) q
 have nil:∀B,(∀a d,mr o a d=none)->PDs X W (.AugAssign (.Attribute (.Name x pos') f p2) B e pos) (gu C (.agf i c f o ma)):=λB hn=>by refine⟨_,lK,λb F Y H ρ τ Z Dd D U n R ⟨y,h,q⟩ E=>?_⟩;obtain⟨r,d0,t,z,dk,s,f0,I,e2,ek,h⟩:=bn5 h;rw[hn]at h;cases h
 cases o with
 |add=>exact J _ _ Az λa d r h=>by cases d<;>cases h;exact⟨_,rfl,rfl⟩
 |sub=>exact J _ _ AA λa d r h=>by cases d<;>cases h;exact⟨_,rfl,rfl⟩
 |_=>exact nil _ λa d=>rfl
end
end
section
section
variable{X:Cx}{C:Ct}{a e e2:Expr}{es:List Expr}{ma mb:E}{mes:Es}{pos p p1 p2 apos:Pos}{x:Str}{i j:Nat}{k n:Nat}{f:Addr}{fd:FuncData}{ps:List Str}{sp:DSp}{c m:Str}{ff:Nat}
def sf{E:XK}(g:tQ sp)(s:vs.length=rs.length)(r:Rel b F σ H ρ1 (vs++τ) (rs++θ))(u:ba ios ρ1 rs=some (xs,ρ2))(h:sp xs P)
  (q:∀x ys v l,P x ys->Rel b F σ l (dZ ios rs ys ρ2) (v::τ) (.val x::θ)->Q v l):toSp b.K sp vs H Q E:=by
 obtain⟨t,e2⟩:=argsR_ok r s u;have z:=((aQ s).mp r.al).1;have w:=t.vals e2;refine w.call e2 g (g _ _ _ (λx ys A d v l B=>q x ys v l A ?_) h);have y:Rel b F σ l ρ2 (v::(vs++τ)) (.val x::(ys.map OR.val++θ)):=by have o:=t.drops (by simpa using e2);refine⟨o.wf,(aQ (by simpa using d)).mpr ⟨fA d,o.al⟩,o.wff,?_⟩;show Wd b l ((v,x)::(stk (vs++τ) (ys.map OR.val++θ)++_));rw[aE (by simpa using d),cB d,aad];exact B
 exact cb z d (Rel.tor y (by simpa using d))
def spC(g:List OD->Option (OD×List OD)):DSp:=λb Q=>∃w,g b=some w/\Q w.1 w.2
def uN(g:List OD->Option (OD×List OD)):tQ (spC g):=λb P R h ⟨w,e,q⟩=>⟨w,e,h _ _ q⟩
def jI{f:Str}:∀{fs:List (Str×V)},f ∉ fs.map (·.1)->fs.lookup f=none
 |[],_=>rfl
 | (g,q)::fs,h=>by
  have b:f≠g:=λe=>h (by simp[e]);have d:(f==g)=false:=by simpa using b
  have:=jI λz=>h (by rw[aaj];exact aah _ z);simp[List.lookup,d,this]
def mH(G:FnD X.prog X.w X.K X.mg X.base k f fd ps (spC (C.call ff)))(s1:tR X.K ta (fG C mes)):cI X.K (sY (av X.K c) m (toSp X.K (spC (C.call ff))) [] E0 (tVar i) ta) (aF C (.meth c m ff i mes)):=λb F J H L τ Z Qd Q A R ⟨y,h,q⟩ kk=>by
 obtain⟨x0,uu,_,M,f0,d,h⟩:=bn3 h;obtain⟨B,d⟩:=gd_ok d;rw[kG f0,B]at M
 ··obtain⟨z,S,h⟩:=bnd h
   obtain⟨o,w,e2,W,h⟩:=bn2 h;cases h;obtain⟨v,D,w0⟩:=R.slot (join_some M);obtain⟨l,O,T,ch,hH,t,hl,go⟩:=Wd.mutO (us:=[]) (zs:=[]) (ks:=[]) w0 rfl rfl;cases ch;rw[<-t]at d;refine⟨.ref l,D,l,O,T,rfl,A▸hH,jI d,?_⟩;have U:Rel b F J H L (.ref l::τ) (.rf i::Z):=⟨R.wf,⟨D,R.al⟩,R.wff,R.wd⟩
   refine s1 b F J H L _ _ (λr s=>r=z.1/\s=z.2) _ A U ⟨z,S,rfl,rfl⟩ λvs H1 rs a0 N Y hZ=>?_;obtain⟨u,g⟩:=hZ;subst u g;rw[aam,<-A];refine sf (P:=λx I=>x=w.1/\I=w.2) G.mono (by simp[N]) (Rel.vv Y N) e2 ⟨w,W,rfl,rfl⟩ λx I v H' hx R'=>?_;obtain⟨u,g⟩:=hx;subst u g;exact kk v H' _ _ R' q
def Hf(d:methodCallForm n args kws=true)(b:(apos.endLine==pos.line)=true):
  methodCall o name apos pos env ov n args kws=(do let (f,first) <-holding [ov] (getMethod ov name (do return (<-importBound o env).getD true));callWith pos f first args kws):=by
 unfold methodCall calleeOf methodCallPos;rw[d,b];rfl
def uO(h:es.any isStar=false)(d:decide (es.length<30)=true)(l:(apos.endLine==pos.line)=true):
  eval (.Call (.Attribute (.Name x p1) m apos) es [] pos) env=(do
   let b <-eval (.Name x p1) env
   standAt apos.atName
   let (f,first) <-holding [b] (getMethod b m (do return (<-importBound (.Name x p1) env).getD true))
   callWith pos f first (backTo pos (starEach es env)) (backToKw pos (keywordEach [] env))):=by
 have q:methodCallForm (es.length+([]:List Keyword).length) (backTo pos (starEach es env)) (backToKw pos (keywordEach [] env))=true:=by
  have o:(backTo pos (starEach es env)).all (λz=>!z.1)=true:=by have:=cf (pos:=pos) (env:=env) h;rw[aba];intro z g;rw[List.any_eq_false]at this;have:=this z g;simpa using this
  unfold methodCallForm;rw[o];simpa[keywordEach,backToKw] using d
 show (eval (.Name x p1) env >>= λb=>standAt apos.atName >>= λ_=>methodCall (.Name x p1) m apos pos env b (es.length+([]:List Keyword).length) (backTo pos (starEach es env)) (backToKw pos (keywordEach [] env)))=_;simp only[Hf q l]
def BH(v:Cls X.K (av X.K c))(l:Meth X.K (av X.K c) m f)(G:FnD X.prog X.w X.K X.mg X.base k f fd ps (spC (C.call ff)))(o:Room k X.A)(u:Binds X.K fd ps [])
  (r:X.N[i]?=some x) (t:Vis X.env.scope x) (q:(x==("__debug__":Str))=false) (d:(x==("__classdict__":Str))=false) (g:isStar e=false) (b:es.any isStar=false) (h:decide ((e::es).length<30)=true) (s:(apos.endLine==pos.line)=true):
  PDa X (e::es) (fG C mes)->PDe X (.Call (.Attribute (.Name x p1) m apos) (e::es) [] pos) (aF C (.meth c m ff i mes))
 |⟨_,h1,s1⟩=>⟨_,wU (E:=E0) (aZ r t q d) v l G.ok o u .nil oN h1 (aA g) (cf b) (uO (by rw[aaP,g,b];rfl) h s),mH G s1⟩
def xS(o:Cls X.K (av X.K c))(v:Meth X.K (av X.K c) m f)(G:FnD X.prog X.w X.K X.mg X.base k f fd ps (spC (C.call ff)))(g:Room k X.A)(l:Binds X.K fd ps [])
  (s:X.N[i]?=some x) (B:Vis X.env.scope x) (z:(x==("__debug__":Str))=false) (d:(x==("__classdict__":Str))=false) (t:(apos.endLine==pos.line)=true):
  PDe X (.Call (.Attribute (.Name x p1) m apos) [] [] pos) (aF C (.meth c m ff i .nil)):=
 ⟨_,sZ (aZ s B z d) o v G.ok g l .nil oN (uO rfl rfl t),mH G λb F M H r L D I Q J R ⟨y,h,q⟩ u=>by
  cases h;exact u [] H [] r rfl R q⟩
def Wd.newObj{p dx:Addr}(w:Wd b H L)(g:H p=none)(h:H dx=none)(q:dx≠p):Wd b (upd (upd H dx (.own p)) p (.ins (av b.K c) dx [])) ((.ref p,.obj c [] [])::L):=by
 obtain⟨A,l,J,t⟩:=w.out;have u:=w.al l g;have y:=w.al l h;have I:=w.rz l;have B:=w.new h (o:=.own p);have s:upd H dx (.own p) p=none:=by rw[upd_ne (λe=>q e.symm)];exact g
 have r:=B.new s (o:=.ins (av b.K c) dx []);have F:Kp (λc=>c∈A\/b.S0 c) H (upd (upd H dx (.own p)) p (.ins (av b.K c) dx [])):=⟨λc o e _=>by
   rw[upd_ne (λz=>by subst z;rw[g]at e;cases e),upd_ne (λz=>by subst z;rw[h]at e;cases e)];exact e,λc e=>by
   by_cases z:c=p
   ·subst z;exact g
   ·rw[upd_ne z]at e;by_cases v:c=dx
    ·subst v;exact h
    ·rw[upd_ne v]at e;exact e⟩
 have n:∀c,(c∈p::dx::A\/b.S0 c)->(c∈A\/b.S0 c)\/H c=none:=λc z=>by
  rcases z with z|z
  ·rcases aab.mp z with rfl|z
   ·exact .inr g
   ·rcases aab.mp z with rfl|z
    ·exact .inr h
    ·exact .inl (.inl z)
  ·exact .inl (.inr z)
 refine⟨⟨p::dx::A,Ows.cons (A:=[p,dx]) (.obj au (by rw[upd_ne q];exact au) rfl rfl .nil) (Ows.step F n I (λa d=>?_) l),aaB.mpr ⟨λz=>?_,aaB.mpr ⟨λz=>y (.inl z),J⟩⟩,λa d=>?_⟩,r.fr,r.s0,r.nt⟩
 ·have D:a≠p:=λe=>u (.inl (e▸d));have e2:a≠dx:=λe=>y (.inl (e▸d));rw[upd_ne D,upd_ne e2]
 ·rcases aab.mp z with z|z
  ·exact q z.symm
  ·exact u (.inl z)
 ·rcases aab.mp d with rfl|d
  ·exact .inl (w.wh g)
  ·rcases aab.mp d with rfl|d
   ·exact .inl (w.wh h)
   ·exact t a d
def uP(G:FnD X.prog X.w X.K X.mg X.base k f fd ps (spC (C.mak ff)))(s1:tR X.K ta (fG C mes)):cI X.K (zf (av X.K c) (toSp X.K (spC (C.mak ff))) [] E0 ta) (aF C (.make c ff mes)):=λb F u H ρ N D Qd Q Y R ⟨y,h,q⟩ kk=>by
 obtain⟨z,o,w,e1,e2,e3,h⟩:=bn3 h;refine s1 b F u H ρ _ _ (λr I=>r=z.1/\I=z.2) _ Y R ⟨z,e1,rfl,rfl⟩ λvs H1 rs a0 W T hZ=>?_;obtain⟨h1,h2⟩:=hZ;subst h1 h2;intro t dx hp hx ne;obtain⟨O,J⟩:=argsR_ok T W e2;have al:=((aQ W).mp T.al).1;have w0:=Wd.newObj (c:=c) O.wd hp hx ne;have R3:Rel b F u _ o.2 (.ref t::(vs++N)) (.val (.obj c [] [])::(o.1.map OR.val++D)):=Rel.push O w0;rw[aam,<-Y];have B:vs.length=o.1.length:=J;have Z:=Rel.vals (vs:=.ref t::vs) (xs:=.obj c [] []::o.1) R3 (by simp[B]);obtain⟨yy,ew,h⟩:=bnd h;obtain⟨L,g⟩:=Br ew;obtain⟨P,l⟩:=yy;simp only at g
 ·cases h;refine Z.call (by simp[B]) G.mono ⟨w,e3,λs v M U=>?_⟩;rw[L,g]at U;rw[g]at s;have d:vs.length=l.length:=by simpa using s
  have A:=O.drops (by simpa using B);have S:Rel b F u M o.2 (v::(.ref t::(vs++N))) (.val (.fz .none)::.val P::(l.map OR.val++D)):=by refine⟨A.wf,(aQ (by simpa using d)).mpr ⟨fA d,A.al⟩,A.wff,?_⟩;show Wd b M ((v,.fz .none)::(.ref t,P)::(stk (vs++N) (l.map OR.val++D)++_));rw[aE (by simpa using d),cB d,aad];exact U
  have hv:=S.dt rfl;cases hv;refine⟨rfl,kk _ M _ _ ?_ q⟩;exact cb al d (Rel.tor S.drop (by simpa using d))
def BI(M:Mk X.K (av X.K c) f) (G:FnD X.prog X.w X.K X.mg X.base k f fd ps (spC (C.mak ff))) (l:Room (k+1) X.A) (h:Gl X x) (g:X.mg x=some (.ref (av X.K c))) (q:Binds X.K fd ps []) (b:(x==("__debug__":Str))=false)
  (o:isStar e=false) (d:es.any isStar=false):PDa X (e::es) (fG C mes)->PDe X (.Call (.Name x p) (e::es) [] pos) (aF C (.make c ff mes))
 |⟨_,h1,s1⟩=>⟨_,wV (E:=E0) M G.ok l h g q .nil oN h1 b (aA o) (cf d),uP G s1⟩
end
def uQ(b:Bs)(a:Addr)(ds:List PyData):kz b (FN b.K a) [.ref a] [.val (.lst (ds.map OD.fz))] ds:=λF t H o s p R k=>by have j:listOf (.lst (ds.map OD.fz))=some ds:=gh ds;obtain⟨q,c,e,r,f,l⟩:=R.wd.ay cT j;cases e;refine⟨λh=>⟨⟨c,c[k]'(by omega),f,aap _⟩,λx n d ⟨g,i⟩ m=>?_⟩,λe=>⟨c,f,by omega⟩⟩;subst g;refine Rel.push R (l.pick (cM (i c f) ?_));rw[aav,m];rfl
section
variable{X:Cx}{C:Ct}{pos p:Pos}{x:Str}{i:Nat}
def xT{o:Tg} (n:X.N[i]?=some x) (hv:Vis X.env.scope x) (P:(x==("__debug__":Str))=false) (M:(x==("__classdict__":Str))=false) (hc:X.calm=true) (S:CompScope N nt fr X.N scope X.env.scope) (hg:∀c:CC,PDg (dn X N scope c) Ff nt tg (ia o)) (ha:∀c:CC,PDc (dn X N scope c) ifs elt (zp C mif me)):
  PDe X (.ListComp elt [⟨tg,.Name x p,ifs,0⟩] scope pos) (aF C (.compB i nt fr o mif me)):=by
 obtain⟨g,l⟩:=PDg.ex (Y:=λc=>dn X N scope c) (λ_=>rfl) hg;obtain⟨tc,m⟩:=PDc.ex (Y:=λc=>dn X N scope c) (λ_=>rfl) ha;refine⟨_,oQ hc S (oI (aZ n hv P M)) (λc=>(l c).1) (λc D=>(m c).1 D) (λ_=>rfl),λb F σ H A τ θ Qd Q O R ⟨y,h,q⟩ k=>?_⟩;obtain⟨x0,xs,j,_,e0,f0,e1,t,h⟩:=bn4 h;have t:=gd_ok t;rw[cP f0]at e0
 ··obtain⟨z,e2,h⟩:=bnd h
   obtain⟨w,e3,h⟩:=bnd h;cases h;have s:=fzL_map e1;subst s;obtain⟨v,W,Z⟩:=R.moved e0;obtain⟨a,us,rfl,el,U,_⟩:=Z.wd.ay (aae _ aai) (gh j);rw[O]at U;refine⟨_,W,a,rfl,⟨us,U⟩,?_⟩;have B:=jD (Iv:=λk e A=>bw (bF C o mif me) (j.drop k) e A=some w) (λc=>(l c).2) (λc=>(m c).2) O rfl (λr hr=>.inl ⟨_,aaz.mp hr⟩) Z (uQ b a j) t e2 e3 (λk d e A P f=>by
    obtain⟨u,L,J⟩:=mD _ _ _ k P f;obtain⟨T,e4,L⟩:=bnd L;exact⟨T,e4,u,L,J⟩) λH' D e I R' f=>by
    have f:bw (bF C o mif me) (j.drop j.length) e I=some w:=f;rw[abE]at f;cases f;exact k _ H' _ _ (Rel.give (Rel.vv (vs:=[.ref D]) (rs:=[.val (.lst (e.map OD.fz))]) R' rfl) W) q
   rw[O]at B;exact B
end
end
section
def bG(e:PySem.Expr):Option (Str):=if h:e.ctorIdx=23 then some (@PySem.Expr.Name.elim (λ_=>Str) e h λx _=>x) else none
def asNm_ok{e:PySem.Expr}{z:Str}(h:bG e=some z):∃p,e=.Name z p:=by
 by_cases a:e.ctorIdx=23
 ·revert h;exact@PySem.Expr.Name.elim (λe=>bG e=some z->∃p,e=.Name z p) e a λx p h=>by cases h;exact⟨p,rfl⟩
 ·rw[bG,dif_neg a]at h;cases h
def iU(e:PySem.Expr):Option (Const):=if h:e.ctorIdx=19 then some (@PySem.Expr.Constant.elim (λ_=>Const) e h λc _ _=>c) else none
def fJ{e:PySem.Expr}{z:Const}(h:iU e=some z):∃j p,e=.Constant z j p:=by
 by_cases a:e.ctorIdx=19
 ·revert h;exact@PySem.Expr.Constant.elim (λe=>iU e=some z->∃j p,e=.Constant z j p) e a λc j p h=>by cases h;exact⟨j,p,rfl⟩
 ·rw[iU,dif_neg a]at h;cases h
def pF(e:PySem.Expr):Option (Expr×Operator×Expr):=if h:e.ctorIdx=2 then some (@PySem.Expr.BinOp.elim (λ_=>Expr×Operator×Expr) e h λx o y _=>(x,o,y)) else none
def uR(h:pF e=some z):∃p,e=.BinOp z.1 z.2.1 z.2.2 p:=by
 by_cases a:e.ctorIdx=2
 ·revert h;exact@PySem.Expr.BinOp.elim (λe=>pF e=some z->∃p,e=.BinOp z.1 z.2.1 z.2.2 p) e a λx o y p h=>by cases h;exact⟨p,rfl⟩
 ·rw[pF,dif_neg a]at h;cases h
def pG(e:PySem.Expr):Option (Expr×List CmpOp×List Expr):=if h:e.ctorIdx=15 then some (@PySem.Expr.Compare.elim (λ_=>Expr×List CmpOp×List Expr) e h λx b a _=>(x,b,a)) else none
def asCmp_ok(h:pG e=some z):∃p,e=.Compare z.1 z.2.1 z.2.2 p:=by
 by_cases a:e.ctorIdx=15
 ·revert h;exact@PySem.Expr.Compare.elim (λe=>pG e=some z->∃p,e=.Compare z.1 z.2.1 z.2.2 p) e a λx b c p h=>by cases h;exact⟨p,rfl⟩
 ·rw[pG,dif_neg a]at h;cases h
def xU(e:PySem.Expr):Option (BoolOp×List Expr×Pos):=if h:e.ctorIdx=0 then some (@PySem.Expr.BoolOp.elim (λ_=>BoolOp×List Expr×Pos) e h λo a p=>(o,a,p)) else none
def xV(h:xU e=some z):e=.BoolOp z.1 z.2.1 z.2.2:=by
 by_cases a:e.ctorIdx=0
 ·revert h;exact@PySem.Expr.BoolOp.elim (λe=>xU e=some z->e=.BoolOp z.1 z.2.1 z.2.2) e a λo b p h=>by cases h;exact rfl
 ·rw[xU,dif_neg a]at h;cases h
def uS(e:PySem.Expr):Option (UnaryOp×Expr):=if h:e.ctorIdx=3 then some (@PySem.Expr.UnaryOp.elim (λ_=>UnaryOp×Expr) e h λo x _=>(o,x)) else none
def pH{e:PySem.Expr}{z:UnaryOp×Expr}(h:uS e=some z):∃p,e=.UnaryOp z.1 z.2 p:=by
 by_cases a:e.ctorIdx=3
 ·revert h;exact@PySem.Expr.UnaryOp.elim (λe=>uS e=some z->∃p,e=.UnaryOp z.1 z.2 p) e a λo x p h=>by cases h;exact⟨p,rfl⟩
 ·rw[uS,dif_neg a]at h;cases h
def uT(e:PySem.Expr):Option (Expr×Expr×Expr):=if h:e.ctorIdx=5 then some (@PySem.Expr.IfExp.elim (λ_=>Expr×Expr×Expr) e h λc a b _=>(c,a,b)) else none
def pI(h:uT e=some z):∃p,e=.IfExp z.1 z.2.1 z.2.2 p:=by
 by_cases d:e.ctorIdx=5
 ·revert h;exact@PySem.Expr.IfExp.elim (λe=>uT e=some z->∃p,e=.IfExp z.1 z.2.1 z.2.2 p) e d λc a b p h=>by cases h;exact⟨p,rfl⟩
 ·rw[uT,dif_neg d]at h;cases h
def cg(e:PySem.Expr):Option (List Expr):=if h:e.ctorIdx=25 then some (@PySem.Expr.Tuple.elim (λ_=>List Expr) e h λa _ _=>a) else none
def asTup_ok(h:cg e=some z):∃k p,e=.Tuple z k p:=by
 by_cases a:e.ctorIdx=25
 ·revert h;exact@PySem.Expr.Tuple.elim (λe=>cg e=some z->∃k p,e=.Tuple z k p) e a λb k p h=>by cases h;exact⟨k,p,rfl⟩
 ·rw[cg,dif_neg a]at h;cases h
def jJ(e:PySem.Expr):Option (List Expr):=if h:e.ctorIdx=24 then some (@PySem.Expr.List.elim (λ_=>List Expr) e h λa _=>a) else none
def iV(h:jJ e=some z):∃p,e=.List z p:=by
 by_cases a:e.ctorIdx=24
 ·revert h;exact@PySem.Expr.List.elim (λe=>jJ e=some z->∃p,e=.List z p) e a λb p h=>by cases h;exact⟨p,rfl⟩
 ·rw[jJ,dif_neg a]at h;cases h
def dN(e:PySem.Expr):Option (Expr×Expr):=if h:e.ctorIdx=21 then some (@PySem.Expr.Subscript.elim (λ_=>Expr×Expr) e h λx y _=>(x,y)) else none
def bI(h:dN e=some z):∃p,e=.Subscript z.1 z.2 p:=by
 by_cases a:e.ctorIdx=21
 ·revert h;exact@PySem.Expr.Subscript.elim (λe=>dN e=some z->∃p,e=.Subscript z.1 z.2 p) e a λx y p h=>by cases h;exact⟨p,rfl⟩
 ·rw[dN,dif_neg a]at h;cases h
def gx(e:PySem.Expr):Option (Expr×List Expr×List Keyword×Pos):=if h:e.ctorIdx=16 then some (@PySem.Expr.Call.elim (λ_=>Expr×List Expr×List Keyword×Pos) e h λf a b p=>(f,a,b,p)) else none
def gy(h:gx e=some z):e=.Call z.1 z.2.1 z.2.2.1 z.2.2.2:=by
 by_cases a:e.ctorIdx=16
 ·revert h;exact@PySem.Expr.Call.elim (λe=>gx e=some z->e=.Call z.1 z.2.1 z.2.2.1 z.2.2.2) e a λf b c p h=>by cases h;exact rfl
 ·rw[gx,dif_neg a]at h;cases h
def gS(e:PySem.Expr):Option (Expr×Str×Pos):=if h:e.ctorIdx=20 then some (@PySem.Expr.Attribute.elim (λ_=>Expr×Str×Pos) e h λo f p=>(o,f,p)) else none
def asAtt_ok(h:gS e=some z):e=.Attribute z.1 z.2.1 z.2.2:=by
 by_cases a:e.ctorIdx=20
 ·revert h;exact@PySem.Expr.Attribute.elim (λe=>gS e=some z->e=.Attribute z.1 z.2.1 z.2.2) e a λo f p h=>by cases h;exact rfl
 ·rw[gS,dif_neg a]at h;cases h
def pJ(e:PySem.Expr):Option (List (Option Expr)×List Expr):=if h:e.ctorIdx=6 then some (@PySem.Expr.Dict.elim (λ_=>List (Option Expr)×List Expr) e h λa b _=>(a,b)) else none
def uU{e:PySem.Expr}{z:List (Option Expr)×List Expr}(h:pJ e=some z):∃p,e=.Dict z.1 z.2 p:=by
 by_cases a:e.ctorIdx=6
 ·revert h;exact@PySem.Expr.Dict.elim (λe=>pJ e=some z->∃p,e=.Dict z.1 z.2 p) e a λb c p h=>by cases h;exact⟨p,rfl⟩
 ·rw[pJ,dif_neg a]at h;cases h
def nZ(e:PySem.Expr):Option (Expr×List Comprehension×Scope×Pos):=if h:e.ctorIdx=8 then some (@PySem.Expr.ListComp.elim (λ_=>Expr×List Comprehension×Scope×Pos) e h λx a s p=>(x,a,s,p)) else none
def pK(h:nZ e=some z):e=.ListComp z.1 z.2.1 z.2.2.1 z.2.2.2:=by
 by_cases a:e.ctorIdx=8
 ·revert h;exact@PySem.Expr.ListComp.elim (λe=>nZ e=some z->e=.ListComp z.1 z.2.1 z.2.2.1 z.2.2.2) e a λx b s p h=>by cases h;exact rfl
 ·rw[nZ,dif_neg a]at h;cases h
def Hg:Const->Option Int|.int k=>some k|_=>none
def Hh:Const->Option Str|.str k=>some k|_=>none
def Hi:Const->Option Bool|.bool k=>some k|_=>none
def Hj:Const->Bool|.none=>true|_=>false
def gT(e:Expr):Option Int:=(iU e).bind Hg
def zt(e:Expr):Option Str:=(iU e).bind Hh
def EW(e:Expr):Option Bool:=(iU e).bind Hi
def zu(e:Expr):Bool:=(iU e).any Hj
def zw(e:Expr):Bool:=(pJ e).any λz=>z.1.isEmpty&&z.2.isEmpty
def isTup(e:Expr):Bool:=(cg e).isSome
def anyT{b:Type}{o:Option b}{p:b->Bool}(h:o.any p=true):∃a,o=some a/\p a=true:=by
 cases o with
 |none=>cases h
 |some a=>exact⟨a,rfl,h⟩
def ay2{α β:Type}{o:Option α}{g1:α->Option β}{f:α->β->Bool}(h:(o.any λa=>(g1 a).any (f a))=true):∃a b,o=some a/\g1 a=some b/\f a b=true:=by obtain⟨a,p0,h⟩:=anyT h;obtain⟨b,p1,h⟩:=anyT h;exact⟨a,b,p0,p1,h⟩
def ay3{α β γ:Type}{o:Option α}{g1:α->Option β}{g2:α->β->Option γ}{f:α->β->γ->Bool}(h:(o.any λa=>(g1 a).any λb=>(g2 a b).any (f a b))=true):∃a b c,o=some a/\g1 a=some b/\g2 a b=some c/\f a b c=true:=by obtain⟨a,p0,h⟩:=anyT h;obtain⟨b,p1,h⟩:=anyT h;obtain⟨c,p2,h⟩:=anyT h;exact⟨a,b,c,p0,p1,p2,h⟩
def ay4{α β γ δ:Type}{o:Option α}{g1:α->Option β}{g2:α->β->Option γ}{g3:α->β->γ->Option δ}{f:α->β->γ->δ->Bool}(h:(o.any λa=>(g1 a).any λb=>(g2 a b).any λc=>(g3 a b c).any (f a b c))=true):∃a b c d,o=some a/\g1 a=some b/\g2 a b=some c/\g3 a b c=some d/\f a b c d=true:=by obtain⟨a,p0,h⟩:=anyT h;obtain⟨b,p1,h⟩:=anyT h;obtain⟨c,p2,h⟩:=anyT h;obtain⟨d,p3,h⟩:=anyT h;exact⟨a,b,c,d,p0,p1,p2,p3,h⟩
def ay5{α β γ δ ε:Type}{o:Option α}{g1:α->Option β}{g2:α->β->Option γ}{g3:α->β->γ->Option δ}{g4:α->β->γ->δ->Option ε}{f:α->β->γ->δ->ε->Bool}(h:(o.any λa=>(g1 a).any λb=>(g2 a b).any λc=>(g3 a b c).any λd=>(g4 a b c d).any (f a b c d))=true):∃a b c d e,o=some a/\g1 a=some b/\g2 a b=some c/\g3 a b c=some d/\g4 a b c d=some e/\f a b c d e=true:=by obtain⟨a,p0,h⟩:=anyT h;obtain⟨b,p1,h⟩:=anyT h;obtain⟨c,p2,h⟩:=anyT h;obtain⟨d,p3,h⟩:=anyT h;obtain⟨e,p4,h⟩:=anyT h;exact⟨a,b,c,d,e,p0,p1,p2,p3,p4,h⟩
def an2{a b:Bool}(h:(a&&b)=true):a=true/\b=true:=abm.mp h
section
variable{e:Expr}
def asInt_ok{k:Int}(h:gT e=some k):∃j p,e=.Constant (.int k) j p:=by obtain⟨c,a,h⟩:=bnd h;obtain⟨j,p,rfl⟩:=fJ a;cases c<;>cases h;exact⟨j,p,rfl⟩
def asStr_ok(h:zt e=some k):∃j p,e=.Constant (.str k) j p:=by obtain⟨c,a,h⟩:=bnd h;obtain⟨j,p,rfl⟩:=fJ a;cases c<;>cases h;exact⟨j,p,rfl⟩
def asBl_ok(h:EW e=some k):∃j p,e=.Constant (.bool k) j p:=by obtain⟨c,a,h⟩:=bnd h;obtain⟨j,p,rfl⟩:=fJ a;cases c<;>cases h;exact⟨j,p,rfl⟩
def mI(h:zu e=true):∃j p,e=.Constant .none j p:=by obtain⟨c,a,h⟩:=anyT h;obtain⟨j,p,rfl⟩:=fJ a;cases c<;>cases h;exact⟨j,p,rfl⟩
def uV(h:zw e=true):∃p,e=.Dict [] [] p:=by obtain⟨z,c,h⟩:=anyT h;obtain⟨p,rfl⟩:=uU c;obtain⟨b,a⟩:=an2 h;rw[abg]at b a;exact⟨p,by rw[b,a]⟩
def fK(h:isTup e=true):∃xs k p,e=.Tuple xs k p:=by obtain⟨z,a⟩:=abc.mp h;obtain⟨k,p,rfl⟩:=asTup_ok a;exact⟨z,k,p,rfl⟩
end
def an3(h:(a&&b&&c)=true):a=true/\b=true/\c=true:=⟨(an2 (an2 h).1).1,(an2 (an2 h).1).2,(an2 h).2⟩
def an4(h:(a&&b&&c&&d)=true):a=true/\b=true/\c=true/\d=true:=⟨(an3 (an2 h).1).1,(an3 (an2 h).1).2.1,(an3 (an2 h).1).2.2,(an2 h).2⟩
def an5(h:(a&&b&&c&&d&&e)=true):a=true/\b=true/\c=true/\d=true/\e=true:=⟨(an4 (an2 h).1).1,(an4 (an2 h).1).2.1,(an4 (an2 h).1).2.2.1,(an4 (an2 h).1).2.2.2,(an2 h).2⟩
def bB(h:(!a)=true):a=false:=by cases a<;>first|rfl|cases h
def kM{a:Type}:List a->Option (a×List a)|x::xs=>some (x,xs)|_=>none
def con1_ok{a:Type}{l:List a}{x:a×List a}(h:kM l=some x):l=x.1::x.2:=by cases l<;>cases h;rfl
structure Tb where
 fn:Nat->Option Str
 me:Nat->Option (Str×Str)
 mk':Nat->Option Str
 gc:Nat->Option Str
 nog:Str->Bool
 fld:Str->Str->Bool
structure Cy (t:Tb)(C:Ct)(X:Cx):Prop where
 calm:X.calm=true
 units:X.A.units+64<cLine
 guards:X.A.guards=some []
 hfn:∀j nm,t.fn j=some nm->∃k fa fd ps,FnD X.prog X.w X.K X.mg X.base k fa fd ps (spC (C.call j))/\Room k X.A/\X.mg nm=some (.ref fa)/\PySem.W.keepIn X.K (.ref fa)=true/\Binds X.K fd ps []
 hme:∀j c m,t.me j=some (c,m)->Cls X.K (av X.K c)/\∃k fa fd ps,Meth X.K (av X.K c) m fa/\FnD X.prog X.w X.K X.mg X.base k fa fd ps (spC (C.call j))/\Room k X.A/\Binds X.K fd ps []
 hmk:∀j c,t.mk' j=some c->∃k fa fd ps,Mk X.K (av X.K c) fa/\FnD X.prog X.w X.K X.mg X.base k fa fd ps (spC (C.mak j))/\Room (k+1) X.A/\X.mg c=some (.ref (av X.K c))/\Binds X.K fd ps []
 hgc:∀g nm,t.gc g=some nm->∃v u,X.mg nm=some u/\RelV v u/\∀S H,Fz X.K S H v (C.gv g)
 hng:∀x,t.nog x=true->X.mg x=none
 hfl:∀c f,t.fld c f=true->Cls X.K (av X.K c)/\NoAttr X.K (av X.K c) f
def Cy.comp(c:Cy t C X):Cy t C (dn X N sc q):=⟨c.calm,c.units,c.guards,c.hfn,c.hme,c.hmk,c.hgc,c.hng,c.hfl⟩
def sEq(x y:Str):Bool:=decide (x=y)
def cj(h:sEq x y=true):x=y:=Daa h
def kindB(sc:Scope)(x:Str)(k:NameKind):Bool:=decide (sc.names.lookup x=some k)
def aI(h:kindB sc x k=true):sc.names.lookup x=some k:=Daa h
def BJ(sc:Scope)(x:Str):Bool:=kindB sc x .local||kindB sc x .cell||kindB sc x .free
def xW(sc:Scope)(x:Str):Bool:=kindB sc x .local||kindB sc x .cell
def xX(h:BJ sc x=true):Vis sc x:=by
 unfold BJ at h;rw[abn,abn]at h;rcases h with (h|h)|h
 ·exact .inl (aI h)
 ·exact .inr (.inl (aI h))
 ·exact .inr (.inr (aI h))
def pL(h:xW sc x=true):Loc sc x:=by
 unfold xW at h;rw[abn]at h;rcases h with h|h
 ·exact .inl (aI h)
 ·exact .inr (aI h)
def okN(x:Str):Bool:=!(x==("__debug__":Str))&&!(x==("__classdict__":Str))
def si(N:List Str)(sc:Scope)(i:Nat)(x:Str):Bool:=decide (N[i]?=some x)&&BJ sc x&&okN x
structure NmX (X:Cx)(i:Nat)(x:Str):Prop where
 n:X.N[i]?=some x
 v:Vis X.env.scope x
 d:(x==("__debug__":Str))=false
 c:(x==("__classdict__":Str))=false
def bh(h:si X.N X.env.scope i x=true):NmX X i x:=by unfold si okN at h;simp only[aaE,abF]at h;exact⟨Daa h.1.1,xX h.1.2,h.2.1,h.2.2⟩
def pM(N:List Str)(sc:Scope)(i:Nat)(e:Expr):Bool:=(bG e).any λx=>si N sc i x
def dw{N:List Str}(h:pM N sc i e=true):∃x p,e=.Name x p/\si N sc i x=true:=by obtain⟨x,a,h⟩:=anyT h;obtain⟨p,rfl⟩:=asNm_ok a;exact⟨x,p,rfl,h⟩
def CQ(sc:Scope)(x:Str):Bool:=kindB sc x .globalImplicit&&!(x==("__debug__":Str))
def en(h:CQ X.env.scope x=true):Gl X x/\(x==("__debug__":Str))=false:=by unfold CQ at h;rw[aaE]at h;exact⟨aI h.1,by simpa using h.2⟩
def uW(t:Tb)(sc:Scope)(x y:Str):Bool:=sEq x y&&CQ sc x&&t.nog x
def blB_ok(c:Cy t C X)(h:uW t X.env.scope x y=true):x=y/\Gl X y/\X.mg y=none:=by unfold uW at h;simp only[aaE]at h;obtain⟨⟨d,b⟩,a⟩:=h;have:=cj d;subst this;exact⟨rfl,(en b).1,c.hng _ a⟩
def FU(o:Bo)(a:Operator):Bool:=decide (a=opOf o)
def n5(h:FU o op=true):op=opOf o:=Daa h
def Hk(o:Co)(a:CmpOp):Bool:=decide (a=coOf o)
def uX(h:Hk o op=true):op=coOf o:=Daa h
def isSet:Expr->Bool
 |.Set _ _ _=>true
 |_=>false
def gz(a:CmpOp)(h:isSet e=false):behindInMarks a e=false:=by cases e<;>first|rfl|cases h
def kN(h:isSet e=false):∀x,foldedSetIterable e env x=pure x:=by cases e<;>first|(intro _;rfl)|cases h
def isCall:Expr->Bool
 |.Call _ _ _ _=>true
 |_=>false
def kO(h:isCall e=false):attributeBase e f env (eval e env)=eval e env:=by cases e<;>first|rfl|cases h
def BK:UnaryOp->Bool|.USub=>true|_=>false
def pN{o:UnaryOp}(h:BK o=true):o=.USub:=by cases o<;>first|rfl|cases h
def HQ(k:Int)(e:Expr):Bool:=((gT e).any λj=>decide (j=k))||(uS e).any λz=>BK z.1&&(gT z.2).any λj=>decide (-j=k)
section
variable{X:Cx}{k:Int}{e:Expr}
def EX{j:Nat}{p a:Pos}:PX X (.UnaryOp .USub (.Constant (.int k) j p) a) (λ_=>some (.int (-k))):=⟨_,y9 sS f6,λb H Q v e q=>by cases e;exact⟨k,rfl,q⟩⟩
def uY(h:HQ k e=true):PX X e (λ_=>some (.int k))/\bU e=false:=by
 rcases Bool.or_eq_true_iff.mp h with h|h
 ·obtain⟨j,a,h⟩:=anyT h;obtain⟨_,_,rfl⟩:=asInt_ok a;have:=Daa h;subst this;exact⟨EC,rfl⟩
 ·obtain⟨z,a,h⟩:=anyT h;obtain⟨p,rfl⟩:=pH a;obtain⟨j,c,b⟩:=anyT (an2 h).2;obtain⟨_,_,d⟩:=asInt_ok c;have:=Daa b;subst this;rw[pN (an2 h).1,d];exact⟨EX,rfl⟩
end
def cF(t:Tb)(N:List Str)(sc:Scope)(i:Nat):List Acc->Expr->Bool
 |[]=>λe=>pM N sc i e
 |.fld c f::ps=>λe=>(gS e).any λz=>sEq z.2.1 f&&t.fld c f&&!isCall z.1&&cF t N sc i ps z.1
 |.ix k::ps=>λe=>(dN e).any λz=>HQ k z.2&&cF t N sc i ps z.1
 |.key j::ps=>λe=>(dN e).any λz=>pM N sc j z.2&&cF t N sc i ps z.1
section
variable{t:Tb}{C:Ct}{X:Cx}{i j:Nat}{e:Expr}
def uZ(h:pM X.N X.env.scope j e=true):PX X e (λσ=>σ[j]?.join)/\bU e=false:=by obtain⟨x,p,rfl,h⟩:=dw h;obtain⟨d,c,b,a⟩:=bh h;exact⟨G2 d c b a,rfl⟩
def Hl(h:bU e=false):NoSl e:=by cases e<;>first|exact λ_ _=>rfl|cases h
def aV(c:Cy t C X):∀(ps:List Acc) (e:Expr),cF t X.N X.env.scope i ps e=true->PDp X e i ps
 |[],e,h=>by obtain⟨x,p,rfl,h⟩:=dw h;obtain⟨b,m,l,g⟩:=bh h;exact G3 b m l g
 |.fld cn f::ps,e,h=>by obtain⟨z,b,k⟩:=anyT h;obtain⟨a,d,o,n⟩:=an4 k;rw[asAtt_ok b,cj a];exact EE (kO (bB o)) (c.hfl _ _ d).1 (c.hfl _ _ d).2 (aV c ps _ n)
 |.ix k::ps,e,h=>by obtain⟨z,b,k⟩:=anyT h;obtain⟨a,d⟩:=an2 k;obtain⟨p,rfl⟩:=bI b;exact G4 (kJ (uY (X:=X) a).2) (aV c ps _ d) (uY a).1
 |.key j::ps,e,h=>by obtain⟨z,b,k⟩:=anyT h;obtain⟨a,d⟩:=an2 k;obtain⟨p,rfl⟩:=bI b;exact EG (by have:=c.units;omega) (Hl (uZ a).2) (aV c ps _ d) (uZ a).1
end
def kP(a:Nat->Bool)(N:List Str)(sc:Scope)(fn:Bool)(m i:Nat)(x:Str):Bool:=decide (N[i]?=some x)&&xW sc x&&(fn||kindB sc x .local)&&decide (i<m)&&a i
def u6(a:Nat->Bool)(N:List Str)(sc:Scope)(fn:Bool)(m:Nat):List Nat->List Expr->Bool
 |[]=>λes=>es.isEmpty
 |i::is=>λes=>(kM es).any λz=>(bG z.1).any λx=>kP a N sc fn m i x&&u6 a N sc fn m is z.2
def so(c:Nat->Bool)(N:List Str)(sc:Scope)(fn:Bool)(m:Nat):Tg->Expr->Bool
 |.nm i=>λe=>(bG e).any λx=>kP c N sc fn m i x
 |.tp ts=>λe=>(cg e).any λes=>u6 c N sc fn m ts es
 |.sb i k l=>λe=>(cg e).any λes=>(hX es).any λw=>(dN w.1).any λu=>(dN w.2).any λv=>(bG u.1).any λx=>(bG v.1).any λy=>(gT u.2).any λa=>(gT v.2).any λb=>decide (x=y)&&decide (a=k)&&decide (b=l)&&si N sc i x&&decide (i<m)
section
variable{X:Cx}{W:Nat->Prop}{ok:Nat->Bool}{fn:Bool}{m:Nat}
def dz{i:Nat}{x:Str}(g:fn=true->∀x,X.fn x=true)(d:∀i,ok i=true->¬ W i)(h:kP ok X.N X.env.scope fn m i x=true):Sto X W m i x:=by unfold kP at h;simp only[aaE,abn]at h;obtain⟨⟨⟨⟨f,c⟩,b⟩,a⟩,e⟩:=h;exact⟨Daa f,pL c,b.imp (λz=>g z x) aI,Daa a,d i e⟩
def mJ(b:fn=true->∀x,X.fn x=true)(a:∀i,ok i=true->¬ W i):∀(ts:List Nat) (es:List Expr),u6 ok X.N X.env.scope fn m ts es=true->Stos X W m ts es
 |[],es,h=>by
  cases es with
  |nil=>exact .nil
  |cons _ _=>cases h
 |i::is,es,h=>by obtain⟨z,x,e,c,k⟩:=ay2 h;obtain⟨p,d⟩:=asNm_ok c;rw[con1_ok e,d];exact .cons (dz b a (an2 k).1) (mJ b a is _ (an2 k).2)
def eO{f:Tg}{e:Expr}(g:X.calm=true)(j:X.N.Nodup)(n:fn=true->∀x,X.fn x=true)(o:∀i,ok i=true->¬ W i)(h:so ok X.N X.env.scope fn m f e=true):PDg X W m e (ia f):=by
 cases f with
 |nm i=>obtain⟨x,d,k⟩:=anyT h;obtain⟨p,rfl⟩:=asNm_ok d;exact GW j (dz n o k)
 |tp ts=>obtain⟨L,d,k⟩:=anyT h;obtain⟨_,_,rfl⟩:=asTup_ok d;exact GX g j (mJ n o _ _ k)
 |sb i k l=>obtain⟨L,w,u,v,x,d,t,q,I,F,c⟩:=ay5 h;obtain⟨y,a,b,J,H,s,c⟩:=ay3 c;obtain⟨c,T⟩:=an2 c;obtain⟨c,M⟩:=an2 c;obtain⟨c,z⟩:=an2 c;obtain⟨O,A⟩:=an2 c;obtain⟨_,_,rfl⟩:=asTup_ok d;obtain⟨_,D⟩:=bI q;obtain⟨_,C⟩:=bI I;obtain⟨_,Y⟩:=asNm_ok F;obtain⟨_,r⟩:=asNm_ok J;obtain⟨_,_,Z⟩:=asInt_ok H;obtain⟨_,_,S⟩:=asInt_ok s;obtain⟨B,Q,U,P⟩:=bh M;rw[two2_ok t,D,C,Y,r,Z,S,Daa A,Daa z,<-Daa O];exact He g B Q U P (Daa T)
end
def kQ(sc a:Scope):Scope:={ sc with names:=sc.names.map λ(n,k)=>if (k==NameKind.free&&a.kind==.function&&a.names.lookup n==some .cell) then (n,NameKind.cell) else (n,k) }
def xY:Expr->List Str
 |.Name x _=>[x]
 |.Tuple [.Name x _,.Tuple es _ _] _ _=>x::es.filterMap fun|.Name x _=>some x|_=>none
 |.Tuple es _ _=>es.filterMap fun|.Name x _=>some x|_=>none
 |_=>[]
def u7(N:List Str)(nt:Nat)(b:List Str)(sc a:Scope):Nat->List Nat->Bool
 |_,[]=>true
 |i,j::fr=>(match N[nt+i]? with
  |some x=>decide (b[j]?=some x)&&kindB a x .cell&&kindB sc x .free
  |none=>false)&&u7 N nt b sc a (i+1) fr
def compB(N:List Str)(nt:Nat)(fr:List Nat)(b:List Str)(sc a:Scope):Bool:=
 decide (sc.kind=.function)&&sc.names.all (λx=>!decide (x.2=.cell))&&sc.names.all (λx=>!decide (x.2=.local)||kindB sc x.1 .local)&&decide (N.length=nt+fr.length)&&u7 N nt b sc a 0 fr &&
  sc.names.all (λx=>!decide (x.2=.free)||(kindB a x.1 .cell&&kindB sc x.1 .free))
def pO:∀{fr:List Nat}{a:Nat},u7 N nt ON sc osc a fr=true->∀(i j:Nat),fr[i]?=some j->∃x,N[nt+(a+i)]?=some x/\ON[j]?=some x/\osc.names.lookup x=some .cell/\sc.names.lookup x=some .free
 |[],_,_,i,j,e=>by simp at e
 |j0::fr,a,h,0,j,e=>by
  simp at e;subst e;simp only[u7,aaE]at h;obtain⟨h,_⟩:=h;split at h
  ·rename_i x c;simp only[aaE]at h;exact⟨x,c,Daa h.1.1,aI h.1.2,aI h.2⟩
  ·cases h
 |j0::fr,a,h,i+1,j,e=>by simp only[u7,aaE]at h;obtain⟨x,d,b⟩:=pO h.2 i j (by simpa using e);exact⟨x,by rw[show a+(i+1)=a+1+i by omega];exact d,b⟩
def fL(h:compB N nt fr ON sc osc=true):CompScope N nt fr ON sc osc:=by
 unfold compB at h;simp only[aaE,aba,abn,abF,decide_eq_false_iff_not,decide_eq_true_eq]at h;obtain⟨⟨⟨⟨⟨k,g⟩,d⟩,c⟩,f⟩,b⟩:=h;refine⟨k,λx a=>g x a,λx a e=>?_,c,λi j e=>?_,λx a e=>?_,λx a e=>?_⟩
 ·exact(d x a).elim (λz=>absurd e z) aI
 ·have:=pO f i j e;rwa [aaO]at this
 ·exact(b x a).elim (λz=>absurd e z) λz=>aI z.1
 ·exact(b x a).elim (λz=>absurd e z) λz=>aI z.2
end
section
abbrev Ck:=List Str->Scope->Expr->Bool
def gA(f:Ck):Ck×Ck:=(f,λN a e=>plainT e&&f N a e)
def IC:Bn->Str
 |.list=>"list" |.tuple=>"tuple" |.sorted=>"sorted"
def ID:Knd->Str
 |.int=>"int" |.bool=>"bool" |.str=>"str" |.list=>"list" |.tuple=>"tuple" |.seq=>"list"
def xZ(e:Expr):Option (Str×List Expr):=(gx e).bind λz=>(bG z.1).bind λx=>if z.2.2.1.isEmpty then some (x,z.2.1) else none
def kR{z}(h:xZ e=some z):∃p a,e=.Call (.Name z.1 p) z.2 [] a:=by
 obtain⟨c,x,g,b,h⟩:=bn2 h;obtain⟨f,i,d,a⟩:=c;cases d with
 |cons _ _=>cases h
 |nil=>cases h;obtain⟨p,rfl⟩:=asNm_ok b;exact⟨p,a,gy g⟩
def x9(e:Expr):Option (Expr×CmpOp×Expr):=(pG e).bind λz=>(fF z.2.1).bind λo=>(fF z.2.2).bind λy=>some (z.1,o,y)
def ij{z}(h:x9 e=some z):∃p,e=.Compare z.1 [z.2.1] [z.2.2] p:=by obtain⟨c,o,y,g,f,d,h⟩:=bn3 h;cases h;obtain⟨x,i,j⟩:=c;obtain⟨p,rfl⟩:=asCmp_ok g;have a:=one1_ok f;have b:=one1_ok d;simp only at a b;subst a b;exact⟨p,rfl⟩
def EY(neg:Bool):CmpOp->Bool
 |.Is=>!neg|.IsNot=>neg|_=>false
def pP(h:EY neg o=true):o=if neg then .IsNot else .Is:=by cases o<;>cases neg<;>first|rfl|cases h
def BL:BoolOp->Bool|.And=>true|_=>false
def pQ(h:BL o=true):o=.And:=by cases o<;>first|rfl|cases h
def Hm:BoolOp->Bool|.Or=>true|_=>false
def u9(h:Hm o=true):o=.Or:=by cases o<;>first|rfl|cases h
def BM:UnaryOp->Bool|.Not=>true|_=>false
def pR(h:BM o=true):o=.Not:=by cases o<;>first|rfl|cases h
def EZ:Operator->Bool|.Add=>true|_=>false
def ya(h:EZ o=true):o=.Add:=by cases o<;>first|rfl|cases h
def E3(e:Expr):Option (Str×Str×List Expr×Pos×Pos):=(gx e).bind λz=>(gS z.1).bind λa=>(bG a.1).bind λx=>if z.2.2.1.isEmpty then some (x,a.2.1,z.2.1,a.2.2,z.2.2.2) else none
def yb{z}(h:E3 e=some z):∃p,e=.Call (.Attribute (.Name z.1 p) z.2.1 z.2.2.2.1) z.2.2.1 [] z.2.2.2.2:=by
 obtain⟨c,a,x,k,i,g,h⟩:=bn3 h;obtain⟨f,l,j,q⟩:=c;obtain⟨o,m,n⟩:=a;cases j with
 |cons _ _=>cases h
 |nil=>cases h;obtain⟨p,d⟩:=asNm_ok g;have b:=asAtt_ok i;simp only at b d;subst d;subst b;exact⟨p,gy k⟩
def yc(e:PySem.Expr):Option (Expr×Expr×List Comprehension×Scope×Pos):=if h:e.ctorIdx=10 then some (@PySem.Expr.DictComp.elim (λ_=>Expr×Expr×List Comprehension×Scope×Pos) e h λk x a s p=>(k,x,a,s,p)) else none
def yd(h:yc e=some z):e=.DictComp z.1 z.2.1 z.2.2.1 z.2.2.2.1 z.2.2.2.2:=by
 by_cases a:e.ctorIdx=10
 ·revert h;exact@PySem.Expr.DictComp.elim (λe=>yc e=some z->e=.DictComp z.1 z.2.1 z.2.2.1 z.2.2.2.1 z.2.2.2.2) e a λk x b s p h=>by cases h;exact rfl
 ·rw[yc,dif_neg a]at h;cases h
def zx(e:Expr):Option (Expr×Expr×Expr×Expr×List Expr×Scope×Pos):=(yc e).bind λz=>(fF z.2.2.1).bind λg=>if g.is_async=0 then some (z.1,z.2.1,g.target,g.iter,g.ifs,z.2.2.2.1,z.2.2.2.2) else none
def vc{z}(h:zx e=some z):e=.DictComp z.1 z.2.1 [⟨z.2.2.1,z.2.2.2.1,z.2.2.2.2.1,0⟩] z.2.2.2.2.2.1 z.2.2.2.2.2.2:=by
 obtain⟨c,g,i,d,h⟩:=bn2 h;obtain⟨k,x,j,m,p⟩:=c;obtain⟨l,o,n,f⟩:=g;simp only at h;by_cases a:f=0
 ·subst a;rw[if_pos rfl]at h;cases h;have b:=one1_ok d;simp only at b;rw[yd i,b]
 ·rw[if_neg a]at h;cases h
def vd(e:Expr):Option (Expr×Expr×Expr×List Expr×Scope×Pos):=(nZ e).bind λz=>(fF z.2.1).bind λg=>if g.is_async=0 then some (z.1,g.target,g.iter,g.ifs,z.2.2.1,z.2.2.2) else none
def iW{z}(h:vd e=some z):e=.ListComp z.1 [⟨z.2.1,z.2.2.1,z.2.2.2.1,0⟩] z.2.2.2.2.1 z.2.2.2.2.2:=by
 obtain⟨c,g,i,d,h⟩:=bn2 h;obtain⟨x,j,l,p⟩:=c;obtain⟨k,n,m,f⟩:=g;simp only at h;by_cases a:f=0
 ·subst a;rw[if_pos rfl]at h;cases h;have b:=one1_ok d;simp only at b;subst b;exact pK i
 ·rw[if_neg a]at h;cases h
end
section
section
variable(t:Tb)
def iX(o:Co)(f g:Ck):Ck:=λN a e=>(x9 e).any λz=>Hk o z.2.1&&!isSet z.2.2&&f N a z.1&&g N a z.2.2
def zy(neg:Bool)(f:Ck):Ck:=λN a e=>(x9 e).any λz=>EY neg z.2.1&&zu z.2.2&&f N a z.1
def vf(b:BoolOp->Bool)(f g:Ck):Ck:=λN a e=>(xU e).any λz=>b z.1&&((kM z.2.1).any λx=>(kM x.2).any λy=>f N a x.1&&bif y.2.isEmpty then g N a y.1 else g N a (.BoolOp z.1 x.2 z.2.2))
def ye(b:UnaryOp->Bool)(f:Ck):Ck:=λN a e=>(uS e).any λz=>b z.1&&f N a z.2
def vg(b:Operator->Bool)(f g:Ck):Ck:=λN a e=>(pF e).any λz=>b z.2.1&&f N a z.1&&g N a z.2.2
def kS(p:Str->Bool)(f:List Str->Scope->List Expr->Bool):Ck:=λN a e=>(xZ e).any λz=>p z.1&&CQ a z.1&&!z.2.isEmpty&&!z.2.any isStar&&f N a z.2
def fc(p:Str)(f:Ck):Ck:=λN a e=>(xZ e).any λz=>(fF z.2).any λx=>uW t a z.1 p&&!isStar x&&f N a x
def n6(p:Str)(f g:Ck):Ck:=λN a e=>(xZ e).any λz=>(hX z.2).any λx=>uW t a z.1 p&&!isStar x.1&&!isStar x.2&&f N a x.1&&g N a x.2
def E4(k:Knd):Ck:=λN a e=>match k with
 |.seq=>(cg e).any λz=>(hX z).any λw=>((bG w.1).any λu=>uW t a u "list")&&(bG w.2).any λv=>uW t a v "tuple"
 |k=>(bG e).any λu=>uW t a u (ID k)
def vh(i:Nat):Ck:=λN a e=>(x9 e).any λz=>Hk .ne z.2.1&&pM N a i z.1&&(jJ z.2.2).any λl=>l.isEmpty
mutual
def aY:E->Ck×Ck
 |.nm i=>gA λN sc e=>pM N sc i e
 |.mv i=>gA λN sc e=>pM N sc i e
 |.int k=>gA λN sc e=>(gT e).any λj=>decide (j=k)
 |.str k=>gA λN sc e=>(zt e).any λj=>sEq j k
 |.bl k=>gA λN sc e=>(EW e).any λj=>decide (j=k)
 |.gc g=>gA λN sc e=>(bG e).any λx=>decide (t.gc g=some x)&&CQ sc x
 |.bop o a b=>gA (vg (FU o) (aY a).1 (aY b).1)
 |.cat a b=>gA (vg EZ (aY a).1 (aY b).1)
 |.cmp o a b=>(iX o (aY a).1 (aY b).1,iX o (aY a).1 (aY b).1)
 |.isn neg a=>(zy neg (aY a).1,zy neg (aY a).1)
 |.and a b=>(vf BL (aY a).1 (aY b).1,vf BL (aY a).2 (aY b).2)
 |.or a b=>(vf Hm (aY a).1 (aY b).1,vf Hm (aY a).2 (aY b).2)
 |.not a=>(ye BM (aY a).1,ye BM (aY a).2)
 |.neg a=>gA (ye BK (aY a).1)
 |.ife c a b=>gA λN sc e=>(uT e).any λz=>(aY c).2 N sc z.1&&(aY a).1 N sc z.2.1&&(aY b).1 N sc z.2.2
 |.tup es=>gA λN sc e=>(cg e).any λxs=>ic es N sc xs
 |.lst es=>gA λN sc e=>(jJ e).any λxs=>ic es N sc xs
 |.ix a b=>gA λN sc e=>(dN e).any λz=>!bU z.2&&(aY a).1 N sc z.1&&(aY b).1 N sc z.2
 |.call f es=>gA (kS (λx=>decide (t.fn f=some x)) (ic es))
 |.blt f es=>gA (kS (λx=>sEq x (Bv f)&&t.nog x) (ic es))
 |.bnw f a=>gA (fc t (IC f) (aY a).1)
 |.isi k a=>gA (n6 t "isinstance" (aY a).1 (E4 t k))
 |.sdd i=>gA (fc t "sorted" λN sc e=>pM N sc i e)
 |.ln i=>gA (fc t "len" λN sc e=>pM N sc i e)
 |.nen i=>(vh i,vh i)
 |.dnew=>gA λN sc e=>zw e
 |.pg i ps=>gA λN sc e=>cF t N sc i ps e
 |.pf i ps=>gA λN sc e=>cF t N sc i ps e
 |.pl i ps=>gA (fc t "len" λN sc e=>cF t N sc i ps e)
 |.pt i ps=>(λ_ _ _=>false,λN sc e=>plainT e&&cF t N sc i ps e)
 |.pin neg a i ps=>(iX (if neg then .nin else .inn) (aY a).1 λN sc e=>cF t N sc i ps e,iX (if neg then .nin else .inn) (aY a).1 λN sc e=>cF t N sc i ps e)
 |.din neg a i ps=>(iX (if neg then .nin else .inn) (aY a).1 λN sc e=>cF t N sc i ps e,iX (if neg then .nin else .inn) (aY a).1 λN sc e=>cF t N sc i ps e)
 |.comp nt fr it tg ifs elt=>gA λN sc e=>(vd e).any λz=>(λd=>compB d nt fr N z.2.2.2.2.1 sc&&decide d.Nodup&&!isSet z.2.2.1&&yf it N sc z.2.1 z.2.2.1&&(so (λ_=>true) d (kQ z.2.2.2.2.1 sc) false nt tg z.2.1&&BN ifs d (kQ z.2.2.2.2.1 sc) z.2.2.2.1&&(aY elt).1 d (kQ z.2.2.2.2.1 sc) z.1)) (xY z.2.1++fr.filterMap λj=>N[j]?)
 |.compB i nt fr tg ifs elt=>gA λN sc e=>(vd e).any λz=>(λd=>compB d nt fr N z.2.2.2.2.1 sc&&decide d.Nodup&&pM N sc i z.2.2.1&&(so (λ_=>true) d (kQ z.2.2.2.2.1 sc) false nt tg z.2.1&&BN ifs d (kQ z.2.2.2.2.1 sc) z.2.2.2.1&&(aY elt).1 d (kQ z.2.2.2.2.1 sc) z.1)) (xY z.2.1++fr.filterMap λj=>N[j]?)
 |.meth c m f i es=>gA λN sc e=>(E3 e).any λz=>decide (t.me f=some (c,m))&&sEq z.2.1 m&&si N sc i z.1&&!z.2.2.1.any isStar&&(decide (z.2.2.1.length<30)&&(z.2.2.2.1.endLine==z.2.2.2.2.line)&&ic es N sc z.2.2.1)
 |.make c f es=>gA (kS (λx=>decide (t.mk' f=some c)&&sEq x c) (ic es))
def ic:Es->List Str->Scope->List Expr->Bool
 |.nil=>λN sc xs=>xs.isEmpty
 |.cons a es=>λN sc xs=>(kM xs).any λz=>!isStar z.1&&(aY a).1 N sc z.1&&ic es N sc z.2
def BN:Eo->List Str->Scope->List Expr->Bool
 |.none=>λN sc o=>o.isEmpty
 |.some a=>λN sc o=>(fF o).any λx=>(aY a).2 N sc x
def yf:It'->List Str->Scope->Expr->Expr->Bool
 |.seq a=>λN sc g e=>(aY a).1 N sc e
 |.rg1 a=>λN sc g e=>fc t "range" (aY a).1 N sc e
 |.enm a=>λN sc g e=>isTup g&&fc t "enumerate" (aY a).1 N sc e
 |.zip a b=>λN sc g e=>isTup g&&n6 t "zip" (aY a).1 (aY b).1 N sc e
end
end
def yg:Expr->Bool
 |.BoolOp _ _ _=>true
 |_=>false
structure EOk (t:Tb)(C:Ct)(m:E):Prop where
 v:∀X e,Cy t C X->(aY t m).1 X.N X.env.scope e=true->PDe X e (aF C m)
 w:∀X e,Cy t C X->yg e=true->(aY t m).2 X.N X.env.scope e=true->PDw X e (gp C m)
 t:∀X e,Cy t C X->(aY t m).2 X.N X.env.scope e=true->PDt X e (gp C m)
section
variable{t:Tb}{C:Ct}{X:Cx}{e:Expr}
def kT(h:yg e=true):∃o xs p,e=.BoolOp o xs p:=by cases e<;>first|exact⟨_,_,_,rfl⟩|cases h
def aG{m:E}(b:(aY t m).2=λN sc e=>plainT e&&(aY t m).1 N sc e)(d:aT C m=(vt (ev C m)).2)(a:∀X e,Cy t C X->(aY t m).1 X.N X.env.scope e=true->PDe X e (aF C m)):EOk t C m:=
 ⟨a,λX e c f h=>by
  rw[b]at h;obtain⟨o,g,p,rfl⟩:=kT f;exact absurd h aaf,
  λX e c h=>by
  rw[b]at h;exact Ei d (an2 h).1 (a X e c (an2 h).2)⟩
def gB{m:E}(a:∀(X:Cx) e,yg e=true->(aY t m).2 X.N X.env.scope e=false)(d:∀X e,Cy t C X->(aY t m).1 X.N X.env.scope e=true->PDe X e (aF C m))(b:∀X e,Cy t C X->(aY t m).2 X.N X.env.scope e=true->PDt X e (gp C m)):EOk t C m:=
 ⟨d,λX e c f h=>absurd h (by rw[a X e f];exact aaf),b⟩
def sq{f:Ck}{N:List Str}{sc:Scope}(a:yg e=true)(h:∀o xs p,f N sc (.BoolOp o xs p)=false):f N sc e=false:=by obtain⟨o,xs,p,rfl⟩:=kT a;exact h o xs p
def ckBin_ok{b:Operator->Bool}{f g:Ck}{N:List Str}{sc:Scope}(h:vg b f g N sc e=true):∃x o y p,e=.BinOp x o y p/\b o=true/\f N sc x=true/\g N sc y=true:=by obtain⟨z,a,h⟩:=anyT h;obtain⟨p,rfl⟩:=uR a;exact⟨_,_,_,p,rfl,an3 h⟩
def ckUn_ok{b:UnaryOp->Bool}{f:Ck}{N:List Str}{sc:Scope}(h:ye b f N sc e=true):∃o x p,e=.UnaryOp o x p/\b o=true/\f N sc x=true:=by obtain⟨z,a,h⟩:=anyT h;obtain⟨p,rfl⟩:=pH a;exact⟨_,_,p,rfl,an2 h⟩
def cU{o:Co}{f g:Ck}{N:List Str}{sc:Scope}(h:iX o f g N sc e=true):∃x y p,e=.Compare x [coOf o] [y] p/\isSet y=false/\f N sc x=true/\g N sc y=true:=by obtain⟨z,a,h⟩:=anyT h;obtain⟨p,rfl⟩:=ij a;obtain⟨a,d,c,b⟩:=an4 h;exact⟨_,_,p,by rw[uX a],bB d,c,b⟩
def mK{X:Cx}{i:Nat}(h:vh i X.N X.env.scope e=true):∃x q p r,e=.Compare (.Name x q) [.NotEq] [.List [] p] r/\si X.N X.env.scope i x=true:=by obtain⟨z,j,h⟩:=anyT h;obtain⟨p,rfl⟩:=ij j;obtain⟨c,d,k⟩:=an3 h;obtain⟨x,q,a,m⟩:=dw d;obtain⟨l,g,b⟩:=anyT k;obtain⟨r,f⟩:=iV g;exact⟨x,q,r,p,by rw[uX c,a,f,abg.mp b];rfl,m⟩
def gC{p:Str->Bool}{f:List Str->Scope->List Expr->Bool}{N:List Str}{sc:Scope}(h:kS p f N sc e=true):∃x z zs q a,e=.Call (.Name x q) (z::zs) [] a/\p x=true/\CQ sc x=true/\isStar z=false/\zs.any isStar=false/\f N sc (z::zs)=true:=by
 obtain⟨z,b,h⟩:=anyT h;obtain⟨q,a,rfl⟩:=kR b;obtain⟨b,i,g,d,k⟩:=an5 h;obtain⟨x,c⟩:=z;cases c with
 |nil=>cases g
 |cons y j=>have:=bB d;rw[aaP,ab5]at this;exact⟨x,y,j,q,a,rfl,b,i,this.1,this.2,k⟩
def cy{p:Str}{f:Ck}{N:List Str}{sc:Scope}(h:fc t p f N sc e=true):∃x z q a,e=.Call (.Name x q) [z] [] a/\uW t sc x p=true/\isStar z=false/\f N sc z=true:=by obtain⟨z,w,c,b,h⟩:=ay2 h;obtain⟨q,a,rfl⟩:=kR c;obtain⟨x,g⟩:=z;have:=one1_ok b;simp only at this;subst this;obtain⟨c,b,d⟩:=an3 h;exact⟨x,w,q,a,rfl,c,bB b,d⟩
def jK{p:Str}{f g:Ck}{N:List Str}{sc:Scope}(h:n6 t p f g N sc e=true):∃x z w q a,e=.Call (.Name x q) [z,w] [] a/\uW t sc x p=true/\isStar z=false/\isStar w=false/\f N sc z=true/\g N sc w=true:=by obtain⟨z,w,c,b,h⟩:=ay2 h;obtain⟨q,a,rfl⟩:=kR c;obtain⟨x,k⟩:=z;have:=two2_ok b;simp only at this;subst this;obtain⟨c,b,i,d,j⟩:=an5 h;exact⟨x,_,_,q,a,rfl,c,bB b,bB i,d,j⟩
def ckBo_ok{b:BoolOp->Bool}{f g:Ck}{N:List Str}{sc:Scope}(h:vf b f g N sc e=true):∃o x y es p,e=.BoolOp o (x::y::es) p/\b o=true/\f N sc x=true/\((es=[]/\g N sc y=true)\/g N sc (.BoolOp o (y::es) p)=true):=by
 obtain⟨z,n,h⟩:=anyT h;have:=xV n;subst this;obtain⟨i,h⟩:=an2 h;obtain⟨x,y,k,m,h⟩:=ay2 h;obtain⟨j,h⟩:=an2 h;obtain⟨o,q,p⟩:=z;obtain⟨x,l⟩:=x;obtain⟨y,es⟩:=y;have c:=con1_ok k;have d:=con1_ok m;simp only at c d;subst d;subst c;cases es with
 |nil=>exact⟨o,x,y,[],p,rfl,i,j,.inl ⟨rfl,h⟩⟩
 |cons a es=>exact⟨o,x,y,a::es,p,rfl,i,j,.inr h⟩
def n9{x:Str}{T:String}{p:Pos} (c:Gl X x) (b:X.mg x=none) (f:bootBuiltins x=some (.type T)) (a:x≠"__name__") (d:(x==("__debug__":Str))=false):PE X (.Name x p) (tC (.ty T)):=wI c b f rfl a d
def BO{z w:Expr}{x:Str}{q H:Pos}{k:Knd}{y:E} (c:Cy t C X) (O:uW t X.env.scope x "isinstance"=true) (i:isStar z=false) (f:E4 t k X.N X.env.scope w=true) (j:PDe X z (aF C y)):PDe X (.Call (.Name x q) [z,w] [] H) (aF C (.isi k y)):=by
 obtain⟨D,g,l⟩:=blB_ok c O;subst D;have d:∀{T:Str},((bG w).any λu=>uW t X.env.scope u T)=true->∃p,w=.Name T p/\Gl X T/\X.mg T=none:=λ{T} h=>by obtain⟨u,m,n⟩:=anyT h;obtain⟨p,rfl⟩:=asNm_ok m;obtain⟨o,b,a⟩:=blB_ok c n;subst o;exact⟨p,rfl,b,a⟩
 cases k with
 |int=>obtain⟨p,rfl,b,a⟩:=d f;exact iQ (T:="int") rfl (n9 b a tH (by decide) (by decide)) g l i rfl j
 |bool=>obtain⟨p,rfl,b,a⟩:=d f;exact iQ (T:="bool") rfl (n9 b a wZ (by decide) (by decide)) g l i rfl j
 |str=>obtain⟨p,rfl,b,a⟩:=d f;exact iQ (T:="str") rfl (n9 b a AM (by decide) (by decide)) g l i rfl j
 |list=>obtain⟨p,rfl,b,a⟩:=d f;exact iQ (T:="list") rfl (n9 b a kj (by decide) (by decide)) g l i rfl j
 |tuple=>obtain⟨p,rfl,b,a⟩:=d f;exact iQ (T:="tuple") rfl (n9 b a iF (by decide) (by decide)) g l i rfl j
 |seq=>obtain⟨zs,M,m,n,f⟩:=ay2 f;obtain⟨B,I⟩:=an2 f;obtain⟨u,L,F⟩:=anyT B;obtain⟨v,A,S⟩:=anyT I;obtain⟨Y,Z,rfl⟩:=asTup_ok m;have:=two2_ok n;subst this;obtain⟨U,W⟩:=M;obtain⟨p2,r⟩:=asNm_ok L;obtain⟨p3,s⟩:=asNm_ok A;simp only at r s;subst r s;obtain⟨o,b,a⟩:=blB_ok c F;obtain⟨J,P,Q⟩:=blB_ok c S;subst o J;exact By (n9 b a kj (by decide) (by decide)) (n9 P Q iF (by decide) (by decide)) g l i rfl rfl j
mutual
def bt:∀m:E,EOk t C m
 |.nm i=>aG rfl rfl λX e c h=>by obtain⟨x,p,rfl,h⟩:=dw h;obtain⟨d,n,l,A⟩:=bh h;exact GQ d n l A
 |.mv i=>aG rfl rfl λX e c h=>by obtain⟨x,p,rfl,h⟩:=dw h;obtain⟨d,n,l,A⟩:=bh h;exact GR d n l A
 |.int k=>aG rfl rfl λX e c h=>by obtain⟨j,d,h⟩:=anyT h;obtain⟨_,_,rfl⟩:=asInt_ok d;have:=Daa h;subst this;exact Ea
 |.str k=>aG rfl rfl λX e c h=>by obtain⟨j,d,h⟩:=anyT h;obtain⟨_,_,rfl⟩:=asStr_ok d;have:=cj h;subst this;exact Eb
 |.bl k=>aG rfl rfl λX e c h=>by obtain⟨j,d,h⟩:=anyT h;obtain⟨_,_,rfl⟩:=asBl_ok d;have:=Daa h;subst this;exact GS
 |.gc g=>aG rfl rfl λX e c h=>by obtain⟨x,d,h⟩:=anyT h;obtain⟨_,rfl⟩:=asNm_ok d;obtain⟨v,u,H,D,F⟩:=c.hgc _ _ (Daa (an2 h).1);exact GT (en (an2 h).2).1 H D F (en (an2 h).2).2
 |.bop o a b=>aG rfl rfl λX e c h=>by obtain⟨x,o',y,p,rfl,d,n,l⟩:=ckBin_ok h;have:=n5 d;subst this;exact D7 ((bt a).v X _ c n) ((bt b).v X _ c l)
 |.cat a b=>aG rfl rfl λX e c h=>by obtain⟨x,o',y,p,rfl,d,n,l⟩:=ckBin_ok h;have:=ya d;subst this;exact El ((bt a).v X _ c n) ((bt b).v X _ c l)
 |.cmp o a b=>gB (λX e I=>sq (f:=(aY t (.cmp o a b)).2) I λ_ _ _=>rfl) (λX e c h=>by
  obtain⟨x,y,p,rfl,n,l,A⟩:=cU h;exact D8 c.units (gz _ n) ((bt a).v X _ c l) ((bt b).v X _ c A)) λX e c h=>by
  obtain⟨x,y,p,rfl,n,l,A⟩:=cU h;exact D9 c.units (gz _ n) ((bt a).v X _ c l) ((bt b).v X _ c A)
 |.isn neg a=>gB (λX e I=>sq (f:=(aY t (.isn neg a)).2) I λ_ _ _=>rfl) (λX e c h=>by
  obtain⟨z,d,h⟩:=anyT h;obtain⟨p,rfl⟩:=ij d;obtain⟨J,L,M⟩:=an3 h;obtain⟨_,_,e2⟩:=mI L;rw[pP J,e2];exact Ec ((bt a).v X _ c M)) λX e c h=>by
  obtain⟨z,d,h⟩:=anyT h;obtain⟨p,rfl⟩:=ij d;obtain⟨J,L,M⟩:=an3 h;obtain⟨_,_,e2⟩:=mI L;rw[pP J,e2];exact Ed ((bt a).v X _ c M)
 |.and a b=>by
  have hw:∀X e,Cy t C X->(aY t (.and a b)).2 X.N X.env.scope e=true->PDw X e (gp C (.and a b)):=λX e c h=>by
   obtain⟨o,x,y,B,p,rfl,d,n,l⟩:=ckBo_ok h;have:=pQ d;subst this;refine Ef ((bt a).t X _ c n) ?_;rcases l with ⟨rfl,l⟩|l
   ·exact tX ((bt b).t X _ c l)
   ·exact(bt b).w X _ c rfl l
  refine⟨λX e c h=>?_,λX e c _ h=>hw X e c h,λX e c h=>(hw X e c h).pt⟩;obtain⟨o,x,y,B,p,rfl,d,n,l⟩:=ckBo_ok h;have:=pQ d;subst this;refine v_and ((bt a).v X _ c n) ?_;rcases l with ⟨rfl,l⟩|l
  ·exact tV ((bt b).v X _ c l)
  ·exact(bt b).v X _ c l
 |.or a b=>by
  have hw:∀X e,Cy t C X->(aY t (.or a b)).2 X.N X.env.scope e=true->PDw X e (gp C (.or a b)):=λX e c h=>by
   obtain⟨o,x,y,B,p,rfl,d,n,l⟩:=ckBo_ok h;have:=u9 d;subst this;refine GU ((bt a).t X _ c n) ?_;rcases l with ⟨rfl,l⟩|l
   ·exact xq ((bt b).t X _ c l)
   ·exact(bt b).w X _ c rfl l
  refine⟨λX e c h=>?_,λX e c _ h=>hw X e c h,λX e c h=>(hw X e c h).pt⟩;obtain⟨o,x,y,B,p,rfl,d,n,l⟩:=ckBo_ok h;have:=u9 d;subst this;refine v_or ((bt a).v X _ c n) ?_;rcases l with ⟨rfl,l⟩|l
  ·exact tV ((bt b).v X _ c l)
  ·exact(bt b).v X _ c l
 |.not a=>gB (λX e I=>sq (f:=(aY t (.not a)).2) I λ_ _ _=>rfl) (λX e c h=>by
  obtain⟨o,x,p,rfl,d,n⟩:=ckUn_ok h;have:=pR d;subst this;exact v_not ((bt a).v X _ c n)) λX e c h=>by
  obtain⟨o,x,p,rfl,d,n⟩:=ckUn_ok h;have:=pR d;subst this;exact Eg ((bt a).t X _ c n)
 |.neg a=>aG rfl rfl λX e c h=>by obtain⟨o,x,p,rfl,d,n⟩:=ckUn_ok h;have:=pN d;subst this;exact Ee ((bt a).v X _ c n)
 |.ife z a b=>aG rfl rfl λX e c h=>by obtain⟨q,d,h⟩:=anyT h;obtain⟨p,rfl⟩:=pI d;obtain⟨J,L,M⟩:=an3 h;exact Eh ((bt z).t X _ c J) ((bt a).v X _ c L) ((bt b).v X _ c M)
 |.tup B=>aG rfl rfl λX e c h=>by obtain⟨q,d,h⟩:=anyT h;obtain⟨_,_,rfl⟩:=asTup_ok d;exact Ej (yh B X _ c h)
 |.lst B=>aG rfl rfl λX e c h=>by obtain⟨q,d,h⟩:=anyT h;obtain⟨_,rfl⟩:=iV d;exact Ek (yh B X _ c h)
 |.ix a b=>aG rfl rfl λX e c h=>by obtain⟨q,d,h⟩:=anyT h;obtain⟨_,rfl⟩:=bI d;obtain⟨J,L,M⟩:=an3 h;exact GV (bB J) ((bt a).v X _ c L) ((bt b).v X _ c M)
 |.call f B=>aG rfl rfl λX e c h=>by obtain⟨x,z,zs,q,W,rfl,d,n,l,A,U⟩:=gC (p:=λx=>decide (t.fn f=some x)) (f:=ic t B) (N:=X.N) (sc:=X.env.scope) (e:=e) h;obtain⟨k,fa,fd,s,H,D,F,g4,g5⟩:=c.hfn _ _ (Daa d);exact Bt H D (en n).1 F g4 g5 (en n).2 l A (yh B X _ c U)
 |.blt f B=>aG rfl rfl λX e c h=>by obtain⟨x,z,zs,q,W,rfl,d,n,l,A,U⟩:=gC (p:=λx=>sEq x (Bv f)&&t.nog x) (f:=ic t B) (N:=X.N) (sc:=X.env.scope) (e:=e) h;have:=cj (an2 d).1;subst this;exact Em c.calm (en n).1 (c.hng _ (an2 d).2) l A (yh B X _ c U)
 |.bnw f a=>aG rfl rfl λX e c h=>by
  obtain⟨x,z,q,W,rfl,d,n,l⟩:=cy h;obtain⟨H,D,F⟩:=blB_ok c d;subst H;cases f with
  |list=>exact Bw D F n ((bt a).v X _ c l)
  |tuple=>exact xN D F n ((bt a).v X _ c l)
  |sorted=>exact uF D F n ((bt a).v X _ c l)
 |.isi k a=>aG rfl rfl λX e c h=>by obtain⟨x,z,w,q,W,rfl,d,n,l,A,U⟩:=jK h;exact BO c d n U ((bt a).v X _ c A)
 |.sdd i=>aG rfl rfl λX e c h=>by obtain⟨x,z,q,W,rfl,d,n,l⟩:=cy (t:=t) (p:="sorted") (f:=λN sc e=>pM N sc i e) (N:=X.N) (sc:=X.env.scope) (e:=e) h;obtain⟨H,D,F⟩:=blB_ok c d;obtain⟨y,p,e0,T⟩:=dw l;obtain⟨O,Q,S,P⟩:=bh T;subst H;rw[e0];exact EK c.calm D F O Q S P
 |.ln i=>aG rfl rfl λX e c h=>by obtain⟨x,z,q,W,rfl,d,n,l⟩:=cy (t:=t) (p:="len") (f:=λN sc e=>pM N sc i e) (N:=X.N) (sc:=X.env.scope) (e:=e) h;obtain⟨H,D,F⟩:=blB_ok c d;obtain⟨y,p,e0,T⟩:=dw l;obtain⟨O,Q,S,P⟩:=bh T;subst H;rw[e0];exact Hd D F O Q S P
 |.nen i=>gB (λX e I=>sq (f:=(aY t (.nen i)).2) I λ_ _ _=>rfl) (λX e c h=>by
  obtain⟨x,q,p,r,rfl,T⟩:=mK (X:=X) h;obtain⟨O,Q,S,P⟩:=bh T;exact EL c.units O Q S P) λX e c h=>by
  obtain⟨x,q,p,r,rfl,T⟩:=mK (X:=X) h;obtain⟨O,Q,S,P⟩:=bh T;exact EM c.units O Q S P
 |.dnew=>aG rfl rfl λX e c h=>by obtain⟨_,rfl⟩:=uV h;exact Bu
 |.pg i s=>aG rfl rfl λX e c h=>G5 (aV c s _ h)
 |.pf i s=>aG rfl rfl λX e c h=>G6 (aV c s _ h)
 |.pl i s=>aG rfl rfl λX e c h=>by obtain⟨x,z,q,W,rfl,d,n,l⟩:=cy (t:=t) (p:="len") (f:=λN sc e=>cF t N sc i s e) (N:=X.N) (sc:=X.env.scope) (e:=e) h;obtain⟨H,D,F⟩:=blB_ok c d;subst H;exact G7 D F n (aV c s _ l)
 |.pt i s=>⟨λX e c h=>absurd h aaf,λX e c I h=>by
   obtain⟨o,xs,p,rfl⟩:=kT I;exact absurd h aaf,λX e c h=>G8 (an2 h).1 (aV c s _ (an2 h).2)⟩
 |.pin neg a i s=>gB (λX e I=>sq (f:=(aY t (.pin neg a i s)).2) I λ_ _ _=>rfl) (λX e c h=>by
  obtain⟨x,y,p,rfl,n,l,A⟩:=cU (o:=if neg then .nin else .inn) (f:=(aY t a).1) (g:=λN sc e=>cF t N sc i s e) (N:=X.N) (sc:=X.env.scope) (e:=e) h;exact(uI c.units (gz _ n) ((bt a).v X _ c l) (aV c s _ A)).1) λX e c h=>by
  obtain⟨x,y,p,rfl,n,l,A⟩:=cU (o:=if neg then .nin else .inn) (f:=(aY t a).1) (g:=λN sc e=>cF t N sc i s e) (N:=X.N) (sc:=X.env.scope) (e:=e) h;exact(uI c.units (gz _ n) ((bt a).v X _ c l) (aV c s _ A)).2
 |.din neg a i s=>gB (λX e I=>sq (f:=(aY t (.din neg a i s)).2) I λ_ _ _=>rfl) (λX e c h=>by
  obtain⟨x,y,p,rfl,n,l,A⟩:=cU (o:=if neg then .nin else .inn) (f:=(aY t a).1) (g:=λN sc e=>cF t N sc i s e) (N:=X.N) (sc:=X.env.scope) (e:=e) h;exact(uJ (by have:=c.units;omega) (gz _ n) ((bt a).v X _ c l) (aV c s _ A)).1) λX e c h=>by
  obtain⟨x,y,p,rfl,n,l,A⟩:=cU (o:=if neg then .nin else .inn) (f:=(aY t a).1) (g:=λN sc e=>cF t N sc i s e) (N:=X.N) (sc:=X.env.scope) (e:=e) h;exact(uJ (by have:=c.units;omega) (gz _ n) ((bt a).v X _ c l) (aV c s _ A)).2
 |.comp nt fr it tg ifs elt=>aG rfl rfl λX e c h=>by obtain⟨z,d,h⟩:=anyT h;have:=iW d;subst this;obtain⟨J,L,M,a4,a5⟩:=an5 h;obtain⟨b1,Z,Y⟩:=an3 a5;exact BB c.calm (fL J) (kN (bB M)) (FV it X _ _ c a4) (λq=>eO (X:=dn X _ z.2.2.2.2.1 q) (fn:=false) c.calm (Daa L) (λz=>by cases z) (λ_ _ z=>z) b1) λq=>Hn ifs (dn X _ z.2.2.2.2.1 q) _ _ c.comp (bt elt) Z Y
 |.compB i nt fr tg ifs elt=>aG rfl rfl λX e c h=>by obtain⟨z,d,h⟩:=anyT h;have:=iW d;subst this;obtain⟨J,L,M,a5⟩:=an4 h;obtain⟨b1,Z,Y⟩:=an3 a5;obtain⟨x,p,e0,T⟩:=dw M;obtain⟨O,Q,S,P⟩:=bh T;rw[e0];exact xT O Q S P c.calm (fL J) (λq=>eO (X:=dn X _ z.2.2.2.2.1 q) (fn:=false) c.calm (Daa L) (λz=>by cases z) (λ_ _ z=>z) b1) λq=>Hn ifs (dn X _ z.2.2.2.2.1 q) _ _ c.comp (bt elt) Z Y
 |.meth cn m f i B=>aG rfl rfl λX e c h=>by
  obtain⟨z,d,h⟩:=anyT h;obtain⟨p,rfl⟩:=yb d;obtain⟨J,L,M,a4,a5⟩:=an5 h;obtain⟨b1,Z,Y⟩:=an3 a5;obtain⟨x,m',zs,ap,q⟩:=z;have:=cj L;simp only at this;subst this;obtain⟨g0,k,fa,fd,s,H,D,F,g4⟩:=c.hme _ _ _ (Daa J);obtain⟨O,Q,S,P⟩:=bh M;cases zs with
  |nil=>
   cases B with
   |nil=>exact xS g0 H D F g4 O Q S P Z
   |cons a B=>cases Y
  |cons z zs=>have:=bB a4;rw[aaP,ab5]at this;exact BH g0 H D F g4 O Q S P this.1 this.2 b1 Z (yh B X _ c Y)
 |.make cn f B=>aG rfl rfl λX e c h=>by obtain⟨x,z,zs,q,W,rfl,d,n,l,A,U⟩:=gC (p:=λx=>decide (t.mk' f=some cn)&&sEq x cn) (f:=ic t B) (N:=X.N) (sc:=X.env.scope) (e:=e) h;have:=cj (an2 d).2;subst this;obtain⟨k,fa,fd,s,H,D,F,g4,g5⟩:=c.hmk _ _ (Daa (an2 d).1);exact BI H D F (en n).1 g4 g5 (en n).2 l A (yh B X _ c U)
def yh:∀(m:Es) X xs,Cy t C X->ic t m X.N X.env.scope xs=true->PDa X xs (fG C m)
 |.nil,X,xs,c,h=>by
  cases xs with
  |nil=>exact gq
  |cons _ _=>cases h
 |.cons a es,X,xs,c,h=>by obtain⟨z,f,h⟩:=anyT h;have:=con1_ok f;subst this;obtain⟨b,d,g⟩:=an3 h;exact dr (bB b) ((bt a).v X _ c d) (yh es X _ c g)
def Hn:∀(m:Eo) {b:E} X fs x,Cy t C X->EOk t C b->BN t m X.N X.env.scope fs=true->(aY t b).1 X.N X.env.scope x=true->PDc X fs x (zp C m b)
 |.none,b,X,fs,x,c,he,h,h'=>by
  cases fs with
  |nil=>exact xO (he.v X _ c h')
  |cons _ _=>cases h
 |.some a,b,X,fs,x,c,he,h,h'=>by obtain⟨z,d,h⟩:=anyT h;have:=one1_ok d;subst this;exact BA ((bt a).t X _ c h) (he.v X _ c h')
def FV:∀(m:It') X g e,Cy t C X->yf t m X.N X.env.scope g e=true->PDi X g e (iP C m)
 |.seq a,X,g,e,c,h=>Ep ((bt a).v X _ c h)
 |.rg1 a,X,g,e,c,h=>by obtain⟨x,z,q,r,rfl,l,j,d⟩:=cy h;obtain⟨f,i,n⟩:=blB_ok c l;subst f;exact Er i n j ((bt a).v X _ c d)
 |.enm a,X,g,e,c,h=>by obtain⟨o,h⟩:=an2 h;obtain⟨u,k,p,rfl⟩:=fK o;obtain⟨x,z,q,r,rfl,l,j,d⟩:=cy h;obtain⟨f,i,n⟩:=blB_ok c l;subst f;exact Et i n j ((bt a).v X _ c d)
 |.zip a b,X,g,e,c,h=>by obtain⟨o,h⟩:=an2 h;obtain⟨u,k,p,rfl⟩:=fK o;obtain⟨x,z,w,q,r,rfl,l,j,d,y,s⟩:=jK h;obtain⟨f,i,n⟩:=blB_ok c l;subst f;exact Eu i n j d ((bt a).v X _ c y) ((bt b).v X _ c s)
end
end
end
section
def bkS(sc:Scope):ScopeKind:=if sc.kind.isAnnotationScope then .function else sc.kind
def sr(ts:List Expr)(sc:Scope):List Str:=ts.filterMap fun
  |.Name id pos=>if sc.names.lookup id==some .local&&pos.line==(ts.head?.map (·.pos.line)).getD 0 then some id else none
  |_=>none
def FW(ts vs:List Expr)(sc:Scope):Option (Option (List Str)):=
 if !(ts.length==2||ts.length==3)||vs.length !=ts.length||bkS sc !=.function then some none
 else if (vs.any fun|.Starred ..=>true|_=>false) then some none
 else if (sr ts sc).length !=ts.length||(sr ts sc).eraseDups.length !=(sr ts sc).length then some none
 else if vs.all (foldedForSure 8) then some none
 else if vs.all (constantsAlone 8) then none
 else some (some (sr ts sc))
def oa(h:FW ts vs env.scope=some r):swappedStores [.Tuple ts k p] (.Tuple vs k2 p2) env=pure r:=by
 unfold FW at h;unfold swappedStores;split at h
 ·rename_i e;cases h;show (if (!(ts.length==2||ts.length==3)||vs.length !=ts.length||env.blockKind !=.function)=true then _ else _)=_;rw[if_pos (show (!(ts.length==2||ts.length==3)||vs.length !=ts.length||env.blockKind !=.function)=true from e)]
 ·rename_i e;show (if (!(ts.length==2||ts.length==3)||vs.length !=ts.length||env.blockKind !=.function)=true then _ else _)=_;rw[if_neg (show ¬ (!(ts.length==2||ts.length==3)||vs.length !=ts.length||env.blockKind !=.function)=true from e)];split at h
  ·rename_i a;cases h;show (if (vs.any fun|.Starred ..=>true|_=>false)=true then _ else _)=_;rw[if_pos a]
  ·rename_i a;show (if (vs.any fun|.Starred ..=>true|_=>false)=true then _ else _)=_;rw[if_neg a];split at h
   ·rename_i b;cases h;show (if ((sr ts env.scope).length !=ts.length||(sr ts env.scope).eraseDups.length !=(sr ts env.scope).length)=true then _ else _)=_;rw[if_pos b]
   ·rename_i b;show (if ((sr ts env.scope).length !=ts.length||(sr ts env.scope).eraseDups.length !=(sr ts env.scope).length)=true then _ else _)=_;rw[if_neg b];split at h
    ·rename_i c;cases h;show (if vs.all (foldedForSure 8)=true then _ else _)=_;rw[if_pos c]
    ·rename_i c;show (if vs.all (foldedForSure 8)=true then _ else _)=_;rw[if_neg c];split at h
     ·cases h
     ·rename_i d;cases h;show (if vs.all (constantsAlone 8)=true then _ else _)=_;rw[if_neg d];rfl
def zz(a e:Expr)(sc:Scope):Bool:=(cg a).any λb=>(cg e).all λc=>decide (FW b c sc=some none)
def vj(h:zz tg e env.scope=true):swappedStores [tg] e env=pure none:=by
 obtain⟨f,c,b⟩:=anyT h;clear h;obtain⟨k,p,rfl⟩:=asTup_ok c;cases a:cg e with
 |some g=>obtain⟨i,d,rfl⟩:=asTup_ok a;rw[a]at b;exact oa (Daa b)
 |none=>cases e<;>first|rfl|cases a
def swC(sc:Scope)(t:Str)(pos p:Pos)(s:Scope):Bool:=bkS sc==.function&&sc.names.lookup t==some .local&&pos.line==p.line&&!(s.names.any λ(n,k)=>n==t&&(k==.local||k==.cell))
def vk:swapsWith (.ListComp elt gs s p) (some (.Name t pos)) l env=pure (swC env.scope t pos p s):=rfl
inductive PDx (X:Cx)(i:Nat)(st:Stmt)(de:DE):Prop|mk (te:TE) (h:PS X st (sM te (lL i))) (s:cI X.K te de)
section
variable{X:Cx}{W:Nat->Prop}{m:Nat}{C:Ct}{e:Expr}{ma:E}{pos p p1 p2 p3 pos' spos py:Pos}{x y:Str}{i:Nat}{st:Stmt}
def PDx.imp:PDx X i st d->(∀ρ Q,d' ρ Q->d ρ Q)->PDx X i st d'
 |⟨te,h,s⟩,f=>⟨te,h,λb F σ H ρ τ θ c Q a R g q=>s b F σ H ρ τ θ c Q a R (f _ _ g) q⟩
def BP{d:Tg}(o:X.N.Nodup)(k:X.N[i]?=some y)(q:X.env.scope.names.lookup y=some .local)(j:X.calm=true)(S:CompScope N nt fr X.N scope X.env.scope)(h:∀x,foldedSetIterable iter X.env x=pure x)(u:PDi X tg iter (iP C mi))(l:∀c:CC,PDg (dn X N scope c) Ff nt tg (ia d))(n:∀c:CC,PDc (dn X N scope c) ifs elt (zp C mif me))
  (f:swapsWith (.ListComp elt [⟨tg,iter,ifs,0⟩] scope pos) (some (.Name y py)) spos.line X.env=pure true):PDx X i (.Assign [.Name y py] (.ListComp elt [⟨tg,iter,ifs,0⟩] scope pos) spos) (aF C (.comp nt fr mi d mif me)):=by
 have t:PDx X i (.Assign [.Name y py] (.ListComp elt [⟨tg,iter,ifs,0⟩] scope pos) spos) (oZ (iP C mi) nt fr (ia d) (zp C mif me)):=by obtain⟨w,s,r⟩:=u;obtain⟨g,a⟩:=PDg.ex (Y:=λc=>dn X N scope c) (λ_=>rfl) l;obtain⟨v,b⟩:=PDc.ex (Y:=λc=>dn X N scope c) (λ_=>rfl) n;exact⟨_,wW o k q j S s (λc=>(a c).1) (λc D=>(b c).1 D) h f,ml r (λc=>(a c).2) λc=>(b c).2⟩
 exact t.imp (pj C)
def BQ(t:¬ W i):PDx X i st (aF C ma)->PDs X W st (gu C (.set i ma))
 |⟨_,h,s⟩=>⟨_,h,λb F σ H ρ τ θ A D l n R ⟨y,h,q⟩ E=>by
  obtain⟨z,o,_,c,d,k,h⟩:=bn3 h;cases h;refine s b F σ H ρ τ θ (λr a=>r=z.1/\a=z.2) _ l R ⟨z,c,rfl,rfl⟩ λv w r a j u=>?_;obtain⟨g,f⟩:=u;subst g f;exact E.nx _ w _ ((j.own1 d).store n (gd_ok k) t) q⟩
end
def Wd.closeAt(w:Wd b H ([u].zip [y]++((v,x)::L)))(e:x.at ks=some (.hole u)):Wd b H ((v,OD.put y ks x)::L):=by
 obtain⟨S,q,B,C,p,h,g,j,l,o,i,n,f⟩:=Wd.mutC w rfl e;cases h with
 |hole k=>subst k;exact f (λ_ _=>rfl) (λc a=>by cases a) (by simpa using j) (λc a=>.inr a) λm d _=>Ow.sub i d g.one
def Wd.hole(w:Wd b H L):Wd b H ((u,.hole u)::L):=by obtain⟨A,d,c,a⟩:=w.out;exact⟨⟨A,Ows.cons (.hole rfl) d,c,a⟩,w.fr,w.s0,w.nt⟩
def Rel.fill(R:Rel b F σ H ρ (u::τ) (.rf j::θ))(h:uC i ks j u ρ ρ'):Rel b F σ H ρ' τ θ:=by obtain⟨x,y,d,e,l,g,f⟩:=h;subst f;obtain⟨m,a,c⟩:=R.drop.moved l;have k:σ[j]?=some (some u):=R.al.1;rw[k]at a;cases a;obtain⟨v,a,w⟩:=Rel.open (us:=[u]) (zs:=[y]) c rfl (by rw[aaS g];exact d);exact Rel.close (Rel.rest (us:=[u]) (zs:=[y]) c rfl) a (w.closeAt e)
section
variable{X:Cx}{W:Nat->Prop}{C:Ct}{e:Expr}{pos pos' apos cpos:Pos}{x:Str}{i j:Nat}{ps:List Acc}{sts:List Stmt}{mss:Ss}
def BR(hb:attributeBase e "append" X.env (eval e X.env)=eval e X.env) (g:(apos.endLine==cpos.line)=true) (hN:X.N[j]?=some x) (hv:Vis X.env.scope x) (hd:(x==("__debug__":Str))=false) (M:(x==("__classdict__":Str))=false):
  PDp X e i ps->PDss X (λk=>W k\/k=j) sts (ib C mss)->PDss X W (.Expr (.Call (.Attribute e "append" apos) [.Name x pos'] [] cpos) pos::sts) (ib C (.ali i ps j mss))
 |⟨_,h0,s0⟩,⟨_,f,s2⟩=>⟨_,ip (ie (tm ab8 ab9 aca eG h0 (aO (aZ hN hv hd M) bo (aA rfl)) hb (BG rfl) g (aA rfl) (cf rfl)) rfl) f,λb F σ H ρ τ θ Dd D T n R ⟨z,h,q⟩ E=>by
  obtain⟨r,P,h⟩:=bnd h;obtain⟨xs,Y,Z,a1,⟨o,U⟩,ha⟩:=mw h;obtain⟨S,I⟩:=path_at P;refine s0 b F σ H ρ τ θ _ r T R P λv u Q L=>?_;rw[Y]at I L;obtain⟨l0,O,rfl,J⟩:=R.cell S I Q L;refine⟨.inl ⟨rfl,O,SqL.of J⟩,?_⟩;obtain⟨A,t⟩:=R.wf.get (join_some U);obtain⟨vs,hH,hl,y⟩:=Rel.za (Rel.push R R.wd.hole) S I Q L Z;refine⟨A,t,l0,vs,A,rfl,rfl,hH,hl,?_⟩;obtain⟨d,e2,w⟩:=ha A;obtain⟨s,a0⟩:=z;refine s2 b F σ _ _ (A::τ) (.rf j::θ) ⟨λa=>s=.nx/\a=d,λo a=>s=.rt o/\a=d,λa=>s=.bk/\a=d,λa=>s=.ct/\a=d⟩ _ T (λr B=>?_) ⟨y.wf,⟨t,y.al⟩,y.wff,y.wd⟩ ⟨(s,d),e2,by cases s<;>exact⟨rfl,rfl⟩⟩ ⟨λc p a m ⟨l,f⟩=>?_,λc p a m ⟨l,f⟩=>?_,λc p a m ⟨l,f⟩=>?_,λc p a v o m ⟨l,f⟩=>?_⟩
  ·rcases aab.mp B with rfl|B
   ·exact .inr ⟨j,.inr rfl,rfl⟩
   ·exact(n r B).imp id λ⟨k,wk,ek⟩=>⟨k,.inl wk,ek⟩
  ·subst l f;exact E.nx c p _ (m.fill w) q
  ·subst l f;exact E.bk c p _ (m.fill w) q
  ·subst l f;exact E.ct c p _ (m.fill w) q
  ·subst l f;exact E.rt c p _ v o (Rel.fill (Rel.vv (vs:=[v]) (rs:=[.val o]) m rfl) w) q⟩
end
def Wd.openAt(w:Wd b H ((v,x)::L))(e:x.at ks=some y):∃u,Chn b H v x ks u y/\Wd b H ((u,y)::(v,OD.put (.hole u) ks x)::L):=by
 obtain⟨s,i,p,g⟩:=w.out;have d:=w.rz i;cases i with
 |@cons _ _ A _ _ E r t=>
  obtain⟨u,B,C,o,m,n,j⟩:=Ow.path r e;obtain⟨a,q,k⟩:=j (Kp.refl _ _) (λc z=>.inl z) d (λ_ _=>rfl) (.hole rfl);have h:(A++E).Perm (B++(a++E)):=by rw[<-aad];exact(n.trans (aaZ _ (by simpa using k.symm))).append_right _
  have f:∀c,(c∈B++(a++E)\/b.S0 c)->(c∈A++E\/b.S0 c):=λc z=>z.imp h.mem_iff.mpr id;exact⟨u,o,⟨B++(a++E),Ows.cons (Ow.sub d f m) (Ows.cons (Ow.sub d f q) (Ows.sub d f t)),h.nodup_iff.mp p,λc l=>g c (h.mem_iff.mpr l)⟩,w.fr,w.s0,w.nt⟩
def Rel.takeOut(R:Rel b F σ H ρ τ θ)(d:ρ[i]?.join=some x)(f:x.at ks=some y)(ev:σ[i]?=some (some v))(ch:Chn b H v x ks u y):Rel b F σ H (ρ.set i (some (OD.put (.hole u) ks x))) (u::τ) (.val y::θ):=by obtain⟨g,a,w⟩:=Rel.open (us:=[]) (zs:=[]) R rfl d;rw[ev]at a;cases a;obtain⟨h,c,e⟩:=Wd.openAt w f;obtain⟨rfl,_⟩:=ch.det c;exact Rel.back R.wf R.al R.wff ev (e.perm (List.Perm.swap _ _ _))
section
variable{X:Cx}{W:Nat->Prop}{C:Ct}{c a1 a2:Expr}{pos p0 p1 p2 p3 p4 p5 q1 q2:Pos}{x y:Str}{i j k m:Nat}{ps qs:List Acc}{sts:List Stmt}{mc:E}{mss:Ss}
def BS{k1 k2 k3 jj}(hc:X.calm=true)(hN:X.N.Nodup)(P:Sto X W m j x)(O:Sto X W m k y)(n1:isStar a1=false)(n2:isStar a2=false):
  PDt X c (gp C mc)->PDp X a1 i ps->PDp X a2 i qs->PDss X (λl=>W l\/l=j) sts (ib C mss)->PDss X W (.Assign [.Tuple [.Name x q1,.Name y q2] k1 p0] (.IfExp c (.Tuple [a1,a2] k2 p1) (.Tuple [.List [] p2,.Constant (.int 0) jj p3] k3 p4) p5) pos::sts) (ib C (.alo mc i ps qs j k mss))
 |⟨_,h0,s0⟩,⟨_,w,s1⟩,⟨_,A,s2⟩,⟨_,h3,s3⟩=>⟨_,ip (nh (lI h0 (iz (aO w (aO A bo (aA n2)) (aA n1))) (iz (aO (kb bo) (aO f6 bo)))) (sJ hc (iq (j7 hN P.hN P.loc P.fn) (iq (j7 hN O.hN O.loc O.fn) oH)))) h3,λb F σ H ρ τ θ Dd D M n R ⟨z,h,q⟩ E=>by
  obtain⟨t,_,e0,hg,h⟩:=bn2 h;obtain⟨g1,g2,g3,g4,g5⟩:=gd_ok hg;refine s0 b F σ H ρ τ θ (λk a=>k=t.1/\a=t.2) _ M R ⟨t,e0,rfl,rfl⟩ λb0 Y a5 Q hZ=>?_;obtain⟨rfl,rfl⟩:=hZ;have n':NoRf (λl=>W l\/l=j) θ:=λr f=>(n r f).imp id λ⟨k,wk,ek⟩=>⟨k,.inl wk,ek⟩
  by_cases ht:t.1=true
  ·rw[if_pos ht]at h ⊢;obtain⟨p,ys,r,d,e1,e2,e3,e4,h⟩:=bn4 h;obtain⟨f1,f2⟩:=path_at e1;refine s1 b F σ Y _ τ θ _ p M Q e1 λv u ev ch=>?_;refine s2 b F σ Y _ τ θ _ r M Q e3 λv' S a0 a3=>?_;refine⟨by show 2<=sizeLine;decide,λT hp=>⟨T,[u,S],rfl,?_,rfl,u,[S],rfl,S,[],rfl,rfl,?_⟩⟩
   ·exact SqT.of au
   ·have Z:=Q.xr e3 a0 a3 (dq e4);have s:=Z.takeOut f1 f2 ev ch;rw[cP e2]at s;have R4:Rel b F σ (upd Y T (.tup [u,S])) _ _ _:=⟨s.wf,s.al,s.wff,s.wd.new hp⟩
    have R5:=Rel.store R4 (λr f=>by rcases aab.mp f with rfl|f;exact .inl ⟨_,rfl⟩;exact n r f) (by rw[aaN];exact g4) P.nw;have U:=Rel.store R5 n (by rw[aaN,aaN];exact g5) O.nw;obtain⟨g,e5,B⟩:=holRun_some h u;have es:((σ.set j (some u)).set k (some S))[j]?=some (some u):=by rw[aaS (aaG g3),aaR];rw[Q.wf.len];exact g4
    obtain⟨L,a4⟩:=z;refine s3 b F _ _ _ (u::τ) (.rf j::θ) ⟨λa=>L=.nx/\a=g,λo a=>L=.rt o/\a=g,λa=>L=.bk/\a=g,λa=>L=.ct/\a=g⟩ _ M (λr f=>?_) ⟨U.wf,⟨es,U.al⟩,U.wff,U.wd⟩ ⟨(L,g),e5,by cases L<;>exact⟨rfl,rfl⟩⟩ ⟨λe I a J ⟨w,A⟩=>?_,λe I a J ⟨w,A⟩=>?_,λe I a J ⟨w,A⟩=>?_,λe I a v o J ⟨w,A⟩=>?_⟩
    ·rcases aab.mp f with rfl|f
     ·exact .inr ⟨j,.inr rfl,rfl⟩
     ·exact n' r f
    ·subst w A;exact E.nx e I _ (J.fill B) q
    ·subst w A;exact E.bk e I _ (J.fill B) q
    ·subst w A;exact E.ct e I _ (J.fill B) q
    ·subst w A;exact E.rt e I _ v o (Rel.fill (Rel.vv (vs:=[v]) (rs:=[.val o]) J rfl) B) q
  ·rw[if_neg ht]at h ⊢;refine⟨aaH _,λl hl=>⟨by show 2<=sizeLine;decide,λT hp=>⟨T,[.ref l,.int 0],rfl,SqT.of au,rfl,.ref l,[.int 0],rfl,.int 0,[],rfl,rfl,?_⟩⟩⟩;have Z:=Q.sc (.int 0);have s:=Z.push (Z.wd.eu (vs:=[]) (xs:=[]) rfl hl);have R4:Rel b F σ (upd (upd Y l (.lst [])) T (.tup [.ref l,.int 0])) _ _ _:=⟨s.wf,s.al,s.wff,s.wd.new hp⟩
   have R5:=Rel.store R4 (λr f=>by rcases aab.mp f with rfl|f;exact .inl ⟨_,rfl⟩;exact n r f) g4 P.nw;exact s3 b F _ _ _ τ θ _ _ M n' (Rel.store R5 n (by rw[aaN];exact g5) O.nw) ⟨z,h,q⟩ E⟩
end
def PDe.ex{K:Waa}{Y:CC->Cx}(a:∀c,(Y c).K=K)(h:∀c,PDe (Y c) e d):∃g:CC->TE,∀c,PE (Y c) e (g c)/\cI K (g c) d:=
 ab3 (r:=λc g=>PE (Y c) e g/\cI K g d) λc=>(by obtain⟨i,f,b⟩:=h c;exact⟨i,f,a c▸b⟩)
def Dt.sc{K:Waa}(h:Dt K H v d)(e:HK d=true):Sc v d:=by cases h<;>first|constructor|cases e
def Rel.growD(R:Rel b F σ H ρ (v::(vs++[.ref D])) (.val (.fz d)::(rs++[.val (.dic ks xs)])))(f:vs.length=rs.length):
  ∃ws,H D=some (.dK ws)/\ws.length=xs.length/\Rel b F σ (upd H D (.dK (putK ws kk v))) ρ (vs++[.ref D]) (rs++[.val (.dic (bf kk d ks xs).1 (bf kk d ks xs).2)]):=by
 have c:=R.drop;have g:∀y:OD,stk (vs++[.ref D]) (rs++[.val y])=stk vs rs++[(.ref D,y)]:=λy=>by rw[aE f];rfl
 have w:Wd b H ((v,.fz d)::((stk vs rs++[(.ref D,.dic ks xs)])++(flat σ ρ++ff F))):=by have:=R.wd;simp only[stk]at this;rw[g]at this;exact this
 have j:Wd b H ([v].zip [OD.fz d]++((.ref D,.dic ks xs)::(stk vs rs++(flat σ ρ++ff F)))):=w.perm (by
  refine List.Perm.cons _ ?_;rw[aad];exact aas)
 obtain⟨a,ws,m,p,e,h,i⟩:=j.u3 (ks:=[]) rfl rfl;cases m;subst e;refine⟨ws,p,h,c.wf,?_,c.wff,?_⟩
 ·obtain⟨l,_⟩:=(aQ f).mp c.al;exact(aQ f).mpr ⟨l,trivial⟩
 ·rw[g];refine(i (putK ws kk v) _ _ (kL (d:=d) h) λS H A C q o k n=>iS o k n).perm ?_;rw[aad];exact aas.symm
section
variable{X:Cx}{W:Nat->Prop}{C:Ct}{y:Str}{i nt:Nat}{fr:List Nat}{N:List Str}{scope:Scope}{kx vx iter tg:Expr}{pos py spos:Pos}{mi:It'}{mt:Tg}{mk' mv':E}
def vl(step:List Key×List OD->PyData->DEnv->Option ((List Key×List OD)×DEnv))(ds:List PyData)(w:(List Key×List OD)×DEnv)(k:Nat)(a:ds[k]?=some d)(h:gR step (ds.drop k) out ρ=some w):∃z,step out d ρ=some z/\gR step (ds.drop (k+1)) z.1 z.2=some w:=by
 have b:=(aar.mp a).1;have e:ds.drop k=d::ds.drop (k+1):=by rw[ab6 b,(aar.mp a).2]
 rw[e]at h;exact bnd h
def yi{K:Waa}(s1:cI K tk (aF C mk'))(m:cI K tv (aF C mv')):D4 (λz:List Key×List OD=>.dic z.1 z.2) (λz=>z.2.length) K (AO tk tv) (λo ρ Q=>∃w,dAct C mk' mv' o ρ=some w/\Q w.1 w.2):=by
 intro b F l H ρ vs rs D a Qd Q k S p R h q;obtain⟨w,h,P⟩:=h;obtain⟨x,y,Z,f,t,n,s,v,u,e5,h⟩:=bn5 h;obtain⟨_,d,h⟩:=bnd h;cases h;refine s1 b F l H ρ _ _ (λr c=>r=x.1/\c=x.2) _ k R ⟨x,n,rfl,rfl⟩ λT L r Y B g=>?_;obtain⟨rfl,rfl⟩:=g;refine m b F l L _ _ _ (λr c=>r=y.1/\c=y.2) _ k B ⟨y,s,rfl,rfl⟩ λv2 H2 r O j g=>?_;obtain⟨rfl,rfl⟩:=g;have A:=j.dt2 v;have e:T=kV f:=by cases Z<;>cases u<;>cases A<;>rfl
 subst e;obtain⟨I,U,hl,J⟩:=Rel.growD (j.drop.drop.sc ((j.dt e5).sc (gd_ok d))) S;have M:a.2.length<1000000:=p;exact⟨_,⟨I,f,U,rfl,aat (by omega) (by decide:1000001<=sizeLine),rfl⟩,q _ _ _ J (by
  show (bf f t a.1 a.2).2.length<=a.2.length+1;unfold bf;split
  ·rw[acb];omega
  ·rw[aal];exact aag _) P⟩
def E5(hw:¬ W i)(hN:X.N.Nodup)(hy:X.N[i]?=some y)(hl:X.env.scope.names.lookup y=some .local)(hc:X.calm=true)(S:CompScope N nt fr X.N scope X.env.scope)(T:∀x,foldedSetIterable iter X.env x=pure x)
  (I:swapsWith (.DictComp kx vx [⟨tg,iter,[],0⟩] scope pos) (some (.Name y py)) spos.line X.env=pure true) (p:∀c:CC,(dn X N scope c).A.units+1<cLine) (B:PDi X tg iter (iP C mi)) (hg:∀c:CC,PDg (dn X N scope c) Ff nt tg (ia mt)) (hk:∀c:CC,PDe (dn X N scope c) kx (aF C mk')) (U:∀c:CC,PDe (dn X N scope c) vx (aF C mv')):PDs X W (.Assign [.Name y py] (.DictComp kx vx [⟨tg,iter,[],0⟩] scope pos) spos) (gu C (.sdc i nt fr mi mt mk' mv')):=by
 obtain⟨wi,h1,s1⟩:=B;obtain⟨g,m⟩:=PDg.ex (Y:=λc=>dn X N scope c) (λ_=>rfl) hg;obtain⟨tk,l⟩:=PDe.ex (Y:=λc=>dn X N scope c) (λ_=>rfl) hk;obtain⟨tv,j⟩:=PDe.ex (Y:=λc=>dn X N scope c) (λ_=>rfl) U;refine⟨_,tN hN hy hl hc S h1 (λc=>(m c).1) (λc D=>nM (p c) (l c).1 (j c).1) T I,λb F P H s τ θ Dd D O n R ⟨z,h,q⟩ E=>?_⟩;obtain⟨w,_,ca,o,_,Z,hz,e2,e3,B,h⟩:=bn5 h;cases h;refine s1 b F P H s τ θ (λL e=>L=w.1/\e=w.2) _ O R ⟨w,Z,rfl,rfl⟩ λJ M L r vs rs v nr R1 it hZ=>?_;obtain⟨rfl,rfl⟩:=hZ;refine mj (Q:=λx M=>D.nx (P.set i (some x)) M) (a0:=([],[])) (Iv:=λk a s=>gR (mx C mt mk' mv') (w.1.drop k) a s=some o) (λw h=>w.z4 h) rfl (λc=>(m c).2) (λc=>yi (l c).2 (j c).2) O v nr R1 it (gd_ok hz) e2 e3 (λk d a s hd f=>by
  obtain⟨u,p,t⟩:=vl _ _ _ k hd f;obtain⟨r,e4,p⟩:=bnd p;exact⟨r,e4,u,p,t⟩) λH' D' a e R' f=>by
  have f:gR (mx C mt mk' mv') (w.1.drop w.1.length) a e=some o:=f;rw[abE]at f;cases f;exact E.nx _ _ _ (Rel.store (Rel.drops (Rel.tor R' v) v) n (gd_ok B) hw) q
end
end
section
section
variable(t:Tb)
mutual
def vm:E->Ck
 |.nm i=>λN sc e=>pM N sc i e
 |.int k=>λN sc e=>(gT e).any λj=>decide (j=k)
 |.ix a b=>λN sc e=>(dN e).any λz=>!bU z.2&&vm a N sc z.1&&vm b N sc z.2
 |.tup es=>λN sc e=>(cg e).any λxs=>vn es N sc xs
 |.pg i ps=>λN sc e=>cF t N sc i ps e
 |_=>λ_ _ _=>false
def vn:Es->List Str->Scope->List Expr->Bool
 |.nil=>λN sc xs=>xs.isEmpty
 |.cons a es=>λN sc xs=>(kM xs).any λz=>!isStar z.1&&vm a N sc z.1&&vn es N sc z.2
end
end
section
variable{t:Tb}{C:Ct}
mutual
def FX:∀(m:E) X e,Cy t C X->vm t m X.N X.env.scope e=true->PDq X e (jr C m)
 |.nm i,X,e,c,h=>by obtain⟨x,p,rfl,h⟩:=dw h;obtain⟨d,n,g,f⟩:=bh h;exact Ha d n g f
 |.int k,X,e,c,h=>by obtain⟨j,d,h⟩:=anyT h;obtain⟨_,_,rfl⟩:=asInt_ok d;have:=Daa h;subst this;exact EI
 |.ix a b,X,e,c,h=>by obtain⟨q,d,h⟩:=anyT h;obtain⟨_,rfl⟩:=bI d;obtain⟨l,o,r⟩:=an3 h;exact Hc (kJ (bB l)) (FX a X _ c o) (FX b X _ c r)
 |.tup es,X,e,c,h=>by obtain⟨q,d,h⟩:=anyT h;obtain⟨_,_,rfl⟩:=asTup_ok d;exact EJ (E6 es X _ c h)
 |.pg i ps,X,e,c,h=>Hb (aV c ps _ h)
 |.mv _,X,e,c,h|.str _,X,e,c,h|.bl _,X,e,c,h|.gc _,X,e,c,h|.bop _ _ _,X,e,c,h|.cat _ _,X,e,c,h|.cmp _ _ _,X,e,c,h|.isn _ _,X,e,c,h|.and _ _,X,e,c,h|.or _ _,X,e,c,h|.not _,X,e,c,h|.neg _,X,e,c,h|.ife _ _ _,X,e,c,h|.lst _,X,e,c,h|.call _ _,X,e,c,h|.blt _ _,X,e,c,h|.bnw _ _,X,e,c,h|.isi _ _,X,e,c,h|.sdd _,X,e,c,h|.ln _,X,e,c,h|.nen _,X,e,c,h|.dnew,X,e,c,h|.pf _ _,X,e,c,h|.pl _ _,X,e,c,h|.pt _ _,X,e,c,h|.pin _ _ _ _,X,e,c,h|.din _ _ _ _,X,e,c,h|.comp _ _ _ _ _ _,X,e,c,h|.compB _ _ _ _ _ _,X,e,c,h|.meth _ _ _ _ _,X,e,c,h|.make _ _ _,X,e,c,h=>absurd h aaf
def E6:∀(m:Es) X xs,Cy t C X->vn t m X.N X.env.scope xs=true->PDqs X xs (nV C m)
 |.nil,X,xs,c,h=>by
  cases xs with
  |nil=>exact BF
  |cons _ _=>cases h
 |.cons a es,X,xs,c,h=>by obtain⟨z,e,h⟩:=anyT h;have:=con1_ok e;subst this;obtain⟨b,d,f⟩:=an3 h;exact xR (bB b) (FX a X _ c d) (E6 es X _ c f)
end
end
def vo(e:PySem.Stmt):Option (Expr):=if h:e.ctorIdx=24 then some (@PySem.Stmt.Expr.elim (λ_=>Expr) e h λx _=>x) else none
def pS(h:vo e=some z):∃p,e=.Expr z p:=by
 by_cases a:e.ctorIdx=24
 ·revert h;exact@PySem.Stmt.Expr.elim (λe=>vo e=some z->∃p,e=.Expr z p) e a λx p h=>by cases h;exact⟨p,rfl⟩
 ·rw[vo,dif_neg a]at h;cases h
def yj(e:PySem.Stmt):Option (List Expr×Expr):=if h:e.ctorIdx=5 then some (@PySem.Stmt.Assign.elim (λ_=>List Expr×Expr) e h λa x _=>(a,x)) else none
def asAs_ok(h:yj e=some z):∃p,e=.Assign z.1 z.2 p:=by
 by_cases a:e.ctorIdx=5
 ·revert h;exact@PySem.Stmt.Assign.elim (λe=>yj e=some z->∃p,e=.Assign z.1 z.2 p) e a λb x p h=>by cases h;exact⟨p,rfl⟩
 ·rw[yj,dif_neg a]at h;cases h
def vp(e:PySem.Stmt):Option (Expr×Operator×Expr):=if h:e.ctorIdx=7 then some (@PySem.Stmt.AugAssign.elim (λ_=>Expr×Operator×Expr) e h λt o x _=>(t,o,x)) else none
def asAu_ok(h:vp e=some z):∃p,e=.AugAssign z.1 z.2.1 z.2.2 p:=by
 by_cases a:e.ctorIdx=7
 ·revert h;exact@PySem.Stmt.AugAssign.elim (λe=>vp e=some z->∃p,e=.AugAssign z.1 z.2.1 z.2.2 p) e a λt o x p h=>by cases h;exact⟨p,rfl⟩
 ·rw[vp,dif_neg a]at h;cases h
def yk(e:PySem.Stmt):Option (Option Expr):=if h:e.ctorIdx=3 then some (@PySem.Stmt.Return.elim (λ_=>Option Expr) e h λo _=>o) else none
def yl(h:yk e=some z):∃p,e=.Return z p:=by
 by_cases a:e.ctorIdx=3
 ·revert h;exact@PySem.Stmt.Return.elim (λe=>yk e=some z->∃p,e=.Return z p) e a λo p h=>by cases h;exact⟨p,rfl⟩
 ·rw[yk,dif_neg a]at h;cases h
def ym(e:PySem.Stmt):Option (Expr×List Stmt×List Stmt):=if h:e.ctorIdx=12 then some (@PySem.Stmt.If.elim (λ_=>Expr×List Stmt×List Stmt) e h λc a b _=>(c,a,b)) else none
def yn(h:ym e=some z):∃p,e=.If z.1 z.2.1 z.2.2 p:=by
 by_cases d:e.ctorIdx=12
 ·revert h;exact@PySem.Stmt.If.elim (λe=>ym e=some z->∃p,e=.If z.1 z.2.1 z.2.2 p) e d λc a b p h=>by cases h;exact⟨p,rfl⟩
 ·rw[ym,dif_neg d]at h;cases h
def yo(e:PySem.Stmt):Option (Expr×List Stmt×List Stmt):=if h:e.ctorIdx=11 then some (@PySem.Stmt.While.elim (λ_=>Expr×List Stmt×List Stmt) e h λc a b _=>(c,a,b)) else none
def yp(h:yo e=some z):∃p,e=.While z.1 z.2.1 z.2.2 p:=by
 by_cases d:e.ctorIdx=11
 ·revert h;exact@PySem.Stmt.While.elim (λe=>yo e=some z->∃p,e=.While z.1 z.2.1 z.2.2 p) e d λc a b p h=>by cases h;exact⟨p,rfl⟩
 ·rw[yo,dif_neg d]at h;cases h
def yq(e:PySem.Stmt):Option (Expr×Expr×List Stmt×List Stmt):=if h:e.ctorIdx=9 then some (@PySem.Stmt.For.elim (λ_=>Expr×Expr×List Stmt×List Stmt) e h λg i a b _=>(g,i,a,b)) else none
def yr(h:yq e=some z):∃p,e=.For z.1 z.2.1 z.2.2.1 z.2.2.2 p:=by
 by_cases c:e.ctorIdx=9
 ·revert h;exact@PySem.Stmt.For.elim (λe=>yq e=some z->∃p,e=.For z.1 z.2.1 z.2.2.1 z.2.2.2 p) e c λg i a b p h=>by cases h;exact⟨p,rfl⟩
 ·rw[yq,dif_neg c]at h;cases h
def E7(s:Stmt):Bool:=decide (s.ctorIdx=27)
def yt(h:E7 s=true):∃p,s=.Continue p:=@Stmt.Continue.elim (λs=>∃p,s=.Continue p) s (Daa h) λp=>⟨p,rfl⟩
def E8(s:Stmt):Bool:=decide (s.ctorIdx=26)
def yu(h:E8 s=true):∃p,s=.Break p:=@Stmt.Break.elim (λs=>∃p,s=.Break p) s (Daa h) λp=>⟨p,rfl⟩
def ju(s:Stmt):Option (Expr×Expr):=(yj s).bind λz=>(fF z.1).bind λt=>some (t,z.2)
def asg1_ok{z}(h:ju s=some z):∃p,s=.Assign [z.1] z.2 p:=by obtain⟨c,t,b,a,h⟩:=bn2 h;cases h;obtain⟨d,e⟩:=c;obtain⟨p,rfl⟩:=asAs_ok b;have:=one1_ok a;simp only at this;subst this;exact⟨p,rfl⟩
def pT(s:Stmt):Option (Expr×Expr×Pos×Pos):=(vo s).bind λe=>(gx e).bind λz=>(gS z.1).bind λa=>(fF z.2.1).bind λx=>if z.2.2.1.isEmpty&&sEq a.2.1 "append" then some (a.1,x,a.2.2,z.2.2.2) else none
def iY{z}(h:pT s=some z):∃p,s=.Expr (.Call (.Attribute z.1 "append" z.2.2.1) [z.2.1] [] z.2.2.2) p:=by
 obtain⟨e,c,a,x,n,k,j,l,h⟩:=bn4 h;obtain⟨f,t,d,q⟩:=c;obtain⟨o,m,u⟩:=a;cases b:(d.isEmpty&&sEq m "append") with
 |false=>simp only[b]at h;cases h
 |true=>
  simp only[b]at h;cases h;have i:=asAtt_ok j;have g:=one1_ok l;have r:=cj (an2 b).2;cases d with
  |cons _ _=>cases b
  |nil=>simp only at i g;subst r;subst g;subst i;obtain⟨p,rfl⟩:=pS n;exact⟨p,by rw[gy k]⟩
def cmpE:E->Bool
 |.comp _ _ _ _ _ _=>true|_=>false
def setB(t:Tb)(a:Nat->Bool)(N:List Str)(sc:Scope)(i:Nat)(m:E)(x:Str)(p:Pos)(e:Expr):Bool:=kP a N sc true N.length i x&&(aY t m).1 N sc e&&match nZ e with
 |some z=>!swC sc x p z.2.2.2 z.2.2.1||cmpE m
 |none=>!ei e
def vq(e:PySem.Expr):Option (Str×Pos):=if h:e.ctorIdx=23 then some (@PySem.Expr.Name.elim (λ_=>Str×Pos) e h λx p=>(x,p)) else none
def pU(h:vq e=some z):e=.Name z.1 z.2:=by
 by_cases a:e.ctorIdx=23
 ·revert h;exact@PySem.Expr.Name.elim (λe=>vq e=some z->e=.Name z.1 z.2) e a λx p h=>by cases h;exact rfl
 ·rw[vq,dif_neg a]at h;cases h
section
variable(t:Tb)
mutual
def E9(d:Nat->Bool):S'->List Str->Scope->Stmt->Bool
 |.ex m=>λN sc s=>(vo s).any λe=>!ei e&&(aY t m).1 N sc e
 |.set i m=>λN sc s=>(ju s).any λz=>(vq z.1).any λx=>setB t d N sc i m x.1 x.2 z.2
 |.asg g m=>λN sc s=>(ju s).any λz=>isTup z.1&&zz z.1 z.2 sc&&(aY t m).1 N sc z.2&&so d N sc true N.length g z.1
 |.par is ms=>λN sc s=>(ju s).any λz=>(cg z.1).any λts=>(cg z.2).any λvs=>ic t ms N sc vs&&decide (FW ts vs sc=some (some (sr ts sc)))&&(match is with
  |[i,j]=>(hX ts).any λw=>(hX vs).any λ_=>(bG w.1).any λx=>(bG w.2).any λy=>decide (sr ts sc=[x,y])&&decide (i≠j)&&(decide (N[i]?=some x)&&decide (N[j]?=some y))&&(kindB sc x .local&&kindB sc y .local)&&(d i&&d j)
  |[i,j,k]=>(Bp ts).any λw=>(Bp vs).any λ_=>(bG w.1).any λx=>(bG w.2.1).any λy=>(bG w.2.2).any λz=>decide (sr ts sc=[x,y,z])&&(decide (i≠j)&&decide (i≠k)&&decide (j≠k))&&(decide (N[i]?=some x)&&decide (N[j]?=some y)&&decide (N[k]?=some z))&&(kindB sc x .local&&kindB sc y .local&&kindB sc z .local)&&(d i&&d j&&d k)
  |_=>false)
 |.aug i o m=>λN sc s=>(vp s).any λz=>(bG z.1).any λx=>FU o z.2.1&&kP d N sc true N.length i x&&(aY t m).1 N sc z.2.2
 |.ret m=>λN sc s=>(yk s).any λo=>o.any λe=>(aY t m).1 N sc e
 |.iff c a b=>λN sc s=>(ym s).any λz=>(aY t c).2 N sc z.1&&fM d a N sc z.2.1&&fM d b N sc z.2.2
 |.whl c b=>λN sc s=>(yo s).any λz=>(aY t c).2 N sc z.1&&fM d b N sc z.2.1&&z.2.2.isEmpty
 |.fr g it b=>λN sc s=>(yq s).any λz=>!isSet z.2.1&&yf t it N sc z.1 z.2.1&&so d N sc true N.length g z.1&&fM d b N sc z.2.2.1&&z.2.2.2.isEmpty
 |.cont=>λN sc s=>E7 s
 |.brk=>λN sc s=>E8 s
 |.app i m=>λN sc s=>(pT s).any λz=>(bG z.1).any λx=>si N sc i x&&(z.2.2.1.endLine==z.2.2.2.line)&&!isStar z.2.1&&(aY t m).1 N sc z.2.1
 |.apd i ps m=>λN sc s=>(pT s).any λz=>!isCall z.1&&(z.2.2.1.endLine==z.2.2.2.line)&&!isStar z.2.1&&cF t N sc i ps z.1&&vm t m N sc z.2.1
 |.sti i k m=>λN sc s=>(ju s).any λz=>(dN z.1).any λw=>(bG w.1).any λx=>si N sc i x&&!bU w.2&&!ei z.2&&(aY t m).1 N sc z.2&&(aY t k).1 N sc w.2
 |.sdk i k m=>λN sc s=>(ju s).any λz=>(dN z.1).any λw=>(bG w.1).any λx=>si N sc i x&&!ei z.2&&(aY t m).1 N sc z.2&&(aY t k).1 N sc w.2
 |.std i ps j m=>λN sc s=>(ju s).any λz=>(dN z.1).any λw=>!ei z.2&&cF t N sc i ps w.1&&pM N sc j w.2&&(aY t m).1 N sc z.2
 |.sdc i nt fr it tg ke ve=>λN sc s=>(ju s).any λz=>(vq z.1).any λx=>(zx z.2).any λw=>(λh=>kP d N sc true N.length i x.1&&compB h nt fr N w.2.2.2.2.2.1 sc&&!isSet w.2.2.2.1&&yf t it N sc w.2.2.1 w.2.2.2.1&&swC sc x.1 x.2 w.2.2.2.2.2.2 w.2.2.2.2.2.1&&(decide h.Nodup&&w.2.2.2.2.1.isEmpty&&so (λ_=>true) h (kQ w.2.2.2.2.2.1 sc) false nt tg w.2.2.1&&(aY t ke).1 h (kQ w.2.2.2.2.2.1 sc) w.1&&(aY t ve).1 h (kQ w.2.2.2.2.2.1 sc) w.2.1)) (xY w.2.2.1++fr.filterMap λj=>N[j]?)
 |.stf i c f m=>λN sc s=>(ju s).any λz=>(gS z.1).any λw=>(bG w.1).any λx=>sEq w.2.1 f&&si N sc i x&&t.fld c f&&!ei z.2&&(aY t m).1 N sc z.2
 |.agf i c f o m=>λN sc s=>(vp s).any λz=>(gS z.1).any λw=>(bG w.1).any λx=>sEq w.2.1 f&&FU o z.2.1&&si N sc i x&&t.fld c f&&(aY t m).1 N sc z.2.2
def fM(a:Nat->Bool):Ss->List Str->Scope->List Stmt->Bool
 |.nil=>λN sc s=>s.isEmpty
 |.cons m ms=>λN sc s=>(kM s).any λz=>E9 a m N sc z.1&&fM a ms N sc z.2
 |.alo m i ps qs j k ms=>λN sc s=>(kM s).any λy=>(ju y.1).any λz=>(cg z.1).any λts=>(hX ts).any λn=>(bG n.1).any λx=>(bG n.2).any λe=>(uT z.2).any λw=>(cg w.2.1).any λc=>(hX c).any λp=>(cg w.2.2).any λb=>(hX b).any λo=>(jJ o.1).any λls=>(gT o.2).any λd=>(kP a N sc true N.length j x&&kP a N sc true N.length k e&&(ls.isEmpty&&decide (d=0))&&(!isStar p.1&&!isStar p.2)&&(aY t m).2 N sc w.1)&&cF t N sc i ps p.1&&cF t N sc i qs p.2&&fM (λl=>a l&&!decide (l=j)) ms N sc y.2
 |.ali i ps j ms=>λN sc s=>(kM s).any λy=>(pT y.1).any λz=>(bG z.2.1).any λx=>!isCall z.1&&(z.2.2.1.endLine==z.2.2.2.line)&&cF t N sc i ps z.1&&si N sc j x&&fM (λk=>a k&&!decide (k=j)) ms N sc y.2
end
end
structure Cs (t:Tb)(C:Ct)(W:Nat->Prop)(ok:Nat->Bool)(X:Cx):Prop where
 c:Cy t C X
 nd:X.N.Nodup
 fn:∀x,X.fn x=true
 pass:PassesOwn (model X.prog X.w) X.A X.env X.xe
 hw:∀i,ok i=true->¬ W i
section
variable{t:Tb}{C:Ct}
def Fb:swappedStores [.Subscript o i p] e env=pure none:=by cases e<;>rfl
def pV{b:Stmt}(h:PDs X W b (Bf is (fG C ms))):PDs X W b (gu C (.par is ms)):=h.imp λD e ⟨y,h,q⟩=>by obtain⟨z,o,_,c,d,a,h⟩:=bn3 h;have a:=gd_ok a;cases h;exact⟨z,c,o.1,o.2,d,a.1,a.2,q⟩
def BU(c:Cs t C W ok X){z}(n:nZ e=some z)(s:Sto X W X.N.length i x)(a:swC X.env.scope x p z.2.2.2 z.2.2.1=true)
  (h:(aY t (.comp nt fr it tg ifs el)).1 X.N X.env.scope e=true):PDx X i (.Assign [.Name x p] e pos) (aF C (.comp nt fr it tg ifs el)):=by
 have o:X.env.scope.names.lookup x=some .local:=by unfold swC at a;have:=(an4 a).2.1;simpa using this
 obtain⟨w,r,h⟩:=anyT h;have d:=iW r;subst d;cases n;obtain⟨l,m,u,j,g⟩:=an5 h;obtain⟨f,k,b⟩:=an3 g;exact BP c.nd s.hN o c.c.calm (fL l) (kN (bB u)) (FV it X _ _ c.c j) (λq=>eO c.c.calm (Daa m) (λz=>by cases z) (λ_ _ z=>z) f) (λq=>Hn ifs (dn X _ w.2.2.2.2.1 q) _ _ c.c.comp (bt el) k b) (by rw[vk,a])
def yv{X:Cx}{W:Nat->Prop}{g:Nat->Bool}(c:Cs t C W g X){i:Nat}{m:E}{x:Str}{p pos:Pos}{e:Expr}(h:setB t g X.N X.env.scope i m x p e=true):PDs X W (.Assign [.Name x p] e pos) (gu C (.set i m)):=by
 obtain⟨l,f,a⟩:=an3 h;have s:=dz (W:=W) (λ_=>c.fn) c.hw l;cases d:nZ e with
 |none=>rw[d]at a;exact zq c.nd s (gw (bB a)) ((bt m).v X _ c.c f)
 |some z=>
  rw[d]at a;cases b:swC X.env.scope x p z.2.2.2 z.2.2.1 with
  |false=>have j:=pK d;exact zq c.nd s (by rw[j,vk,b]) ((bt m).v X _ c.c f)
  |true=>
   have a:(!swC X.env.scope x p z.2.2.2 z.2.2.1||cmpE m)=true:=a;rw[b]at a;have a:cmpE m=true:=a;cases m with
   |comp q u o n k r=>exact BQ s.nw (BU c d s b f)
   |_=>cases a
mutual
def IE{W:Nat->Prop}{ok:Nat->Bool}:∀(m:S') X s,Cs t C W ok X->E9 t ok m X.N X.env.scope s=true->PDs X W s (gu C m)
 |.ex m,X,s,c,h=>by obtain⟨e,l,d⟩:=anyT h;obtain⟨p,rfl⟩:=pS l;exact GZ (bB (an2 d).1) ((bt m).v X _ c.c (an2 d).2)
 |.set i m,X,s,c,h=>by obtain⟨z,x,l,B,d⟩:=ay2 h;obtain⟨p,rfl⟩:=asg1_ok l;rw[pU B];exact yv c d
 |.asg g m,X,s,c,h=>by
  obtain⟨z,l,d⟩:=anyT h;obtain⟨p,rfl⟩:=asg1_ok l;obtain⟨n,r,D,F⟩:=an4 d;refine Ez ?_ (vj r) ?_ ((bt m).v X _ c.c D) (eO c.c.calm c.nd (λ_=>c.fn) c.hw F)
  ·obtain⟨_,_,_,e⟩:=fK n;rw[e];cases z.2<;>rfl
  obtain⟨_,_,_,e⟩:=fK n;rw[e];rfl
 |.par is ms,X,s,c,h=>by
  obtain⟨z,ts,vs,l,B,H,d⟩:=ay3 h;obtain⟨p,rfl⟩:=asg1_ok l;obtain⟨z1,z2⟩:=z;obtain⟨k1,p1,e1⟩:=asTup_ok B;obtain⟨k2,p2,e2⟩:=asTup_ok H;simp only at e1 e2;subst e1 e2;obtain⟨n,A,d⟩:=an3 d;have M:=Daa A
  match is,d with
  |[i,j],d=>
   obtain⟨w,u,x,y,b1,Z,b3,b4,d⟩:=ay4 d;have S:=two2_ok b1;have Y:=two2_ok Z;obtain⟨w1,w2⟩:=w;obtain⟨q1,T⟩:=asNm_ok b3;obtain⟨q2,U⟩:=asNm_ok b4;simp only at S Y T U;subst T U;subst S Y;obtain⟨c1,c2,c3,c4,c5⟩:=an5 d;rw[Daa c1]at M;refine pV (xC (λk O=>?_) c.c.calm c.nd (Daa (an2 c3).1) (Daa (an2 c3).2) (Daa c2) (aI (an2 c4).1) (aI (an2 c4).2) (oa M) rfl (yh ms X _ c.c n));rcases aab.mp O with rfl|O
   ·exact c.hw _ (an2 c5).1
   ·rw[aaz.mp O];exact c.hw _ (an2 c5).2
  |[i,j,k],d=>
   obtain⟨w,u,x,y,z,b1,Z,b3,b4,b5,d⟩:=ay5 d;have S:=thr3_ok b1;have Y:=thr3_ok Z;obtain⟨w1,w2,w3⟩:=w;obtain⟨q1,T⟩:=asNm_ok b3;obtain⟨q2,U⟩:=asNm_ok b4;obtain⟨q3,e7⟩:=asNm_ok b5;simp only at S Y T U e7;subst T U e7;subst S Y;obtain⟨c1,c2,c3,c4,c5⟩:=an5 d;obtain⟨d1,d2,d3⟩:=an3 c2;obtain⟨d4,d5,d6⟩:=an3 c3;obtain⟨d7,d8,d9⟩:=an3 c4;obtain⟨f1,f2,f3⟩:=an3 c5;rw[Daa c1]at M;refine pV (ug (λk O=>?_) c.c.calm c.nd (Daa d4) (Daa d5) (Daa d6) (Daa d1) (Daa d2) (Daa d3) (aI d7) (aI d8) (aI d9) (oa M) rfl (yh ms X _ c.c n));rcases aab.mp O with rfl|O
   ·exact c.hw _ f1
   ·rcases aab.mp O with rfl|O
    ·exact c.hw _ f2
    ·rw[aaz.mp O];exact c.hw _ f3
  |[],d=>exact absurd d aaf
  |[_],d=>exact absurd d aaf
  |_::_::_::_::_,d=>exact absurd d aaf
 |.aug i o m,X,s,c,h=>by obtain⟨z,x,l,B,d⟩:=ay2 h;obtain⟨p,rfl⟩:=asAu_ok l;obtain⟨q,e⟩:=asNm_ok B;obtain⟨n,A,r⟩:=an3 d;rw[e,n5 n];exact EB c.nd (dz (λ_=>c.fn) c.hw A) ((bt m).v X _ c.c r)
 |.ret m,X,s,c,h=>by obtain⟨o,e,l,B,d⟩:=ay2 h;obtain⟨p,rfl⟩:=yl l;subst B;exact Ey ((bt m).v X _ c.c d)
 |.iff z a b,X,s,c,h=>by obtain⟨q,l,d⟩:=anyT h;obtain⟨p,rfl⟩:=yn l;obtain⟨n,A,r⟩:=an3 d;exact G0 ((bt z).t X _ c.c n) (mL a X _ c A) (mL b X _ c r)
 |.whl z b,X,s,c,h=>by
  obtain⟨q,l,d⟩:=anyT h;obtain⟨p,rfl⟩:=yp l;obtain⟨n,A,r⟩:=an3 d;obtain⟨q1,q2,q3⟩:=q;cases q3 with
  |nil=>exact xQ c.pass ((bt z).t X _ c.c n) (mL b X _ c A)
  |cons _ _=>cases r
 |.fr g it b,X,s,c,h=>by
  obtain⟨q,l,d⟩:=anyT h;obtain⟨p,rfl⟩:=yr l;obtain⟨n,A,r,D,F⟩:=an5 d;obtain⟨q1,q2,q3,q4⟩:=q;cases q4 with
  |nil=>exact EA c.pass c.c.calm (kN (bB n)) (FV it X _ _ c.c A) (eO c.c.calm c.nd (λ_=>c.fn) c.hw r) (mL b X _ c D)
  |cons _ _=>cases F
 |.cont,X,s,c,h=>by obtain⟨p,rfl⟩:=yt h;exact BD
 |.brk,X,s,c,h=>by obtain⟨p,rfl⟩:=yu h;exact Ex
 |.app i m,X,s,c,h=>by obtain⟨z,x,l,B,d⟩:=ay2 h;obtain⟨p,rfl⟩:=iY l;obtain⟨q,e⟩:=asNm_ok B;obtain⟨n,A,r,D⟩:=an4 d;obtain⟨P,L,I,J⟩:=bh n;rw[e];exact EN P L I J A (bB r) ((bt m).v X _ c.c D)
 |.apd i ps m,X,s,c,h=>by obtain⟨z,l,d⟩:=anyT h;obtain⟨p,rfl⟩:=iY l;obtain⟨n,A,r,D,F⟩:=an5 d;exact EO (kO (bB n)) A (bB r) (aV c.c ps _ D) (FX m X _ c.c F)
 |.sti i k m,X,s,c,h=>by obtain⟨z,w,x,l,B,H,d⟩:=ay3 h;obtain⟨p,rfl⟩:=asg1_ok l;obtain⟨q,e⟩:=bI B;obtain⟨q',Q⟩:=asNm_ok H;obtain⟨n,A,r,D,F⟩:=an5 d;obtain⟨P,L,I,J⟩:=bh n;rw[e,Q];exact ER P L I J (bB A) (gw (bB r)) Fb ((bt m).v X _ c.c D) ((bt k).v X _ c.c F)
 |.sdk i k m,X,s,c,h=>by obtain⟨z,w,x,l,B,H,d⟩:=ay3 h;obtain⟨p,rfl⟩:=asg1_ok l;obtain⟨q,e⟩:=bI B;obtain⟨q',Q⟩:=asNm_ok H;obtain⟨n,A,r,D⟩:=an4 d;obtain⟨P,L,I,J⟩:=bh n;rw[e,Q];exact ES (by have:=c.c.units;omega) P L I J (gw (bB A)) ((bt m).v X _ c.c r) ((bt k).v X _ c.c D)
 |.std i ps j m,X,s,c,h=>by obtain⟨z,w,l,B,d⟩:=ay2 h;obtain⟨p,rfl⟩:=asg1_ok l;obtain⟨q,e⟩:=bI B;obtain⟨n,A,r,D⟩:=an4 d;rw[e];exact ET (by have:=c.c.units;omega) (gw (bB n)) (aV c.c ps _ A) (uZ r).1 ((bt m).v X _ c.c D)
 |.sdc i nt fr it tg ke ve,X,s,c,h=>by
  obtain⟨z,x,w,l,B,H,d⟩:=ay3 h;obtain⟨p,rfl⟩:=asg1_ok l;obtain⟨k0,k1⟩:=an2 d;obtain⟨n,A,r,D,F⟩:=an5 k0;obtain⟨b1,Z,b3,b4,b5⟩:=an5 k1;have s:=dz (W:=W) (λ_=>c.fn) c.hw n;have hl:X.env.scope.names.lookup x.1=some .local:=by unfold swC at F;have:=(an4 F).2.1;simpa using this
  rw[pU B,vc H,abg.mp Z];exact E5 s.nw c.nd s.hN hl c.c.calm (fL A) (kN (bB r)) (by show pure (swC X.env.scope x.1 x.2 w.2.2.2.2.2.2 w.2.2.2.2.2.1)=_;rw[F]) (λq=>by have:=(c.c.comp (q:=q) (N:=xY w.2.2.1++fr.filterMap λj=>X.N[j]?) (sc:=w.2.2.2.2.2.1)).units;omega) (FV it X _ _ c.c D) (λq=>eO (X:=dn X _ w.2.2.2.2.2.1 q) (fn:=false) c.c.calm (Daa b1) (λz=>by cases z) (λ_ _ z=>z) b3) (λq=>(bt ke).v (dn X _ w.2.2.2.2.2.1 q) _ c.c.comp b4) λq=>(bt ve).v (dn X _ w.2.2.2.2.2.1 q) _ c.c.comp b5
 |.stf i cn f m,X,s,c,h=>by obtain⟨z,w,x,l,B,H,d⟩:=ay3 h;obtain⟨p,rfl⟩:=asg1_ok l;have e:=asAtt_ok B;obtain⟨q',Q⟩:=asNm_ok H;obtain⟨n,A,r,D,F⟩:=an5 d;obtain⟨P,L,I,J⟩:=bh A;rw[e,Q,cj n];exact EU P L I J (c.c.hfl _ _ r).1 (c.c.hfl _ _ r).2 (gw (bB D)) ((bt m).v X _ c.c F)
 |.agf i cn f o m,X,s,c,h=>by obtain⟨z,w,x,l,B,H,d⟩:=ay3 h;obtain⟨p,rfl⟩:=asAu_ok l;have e:=asAtt_ok B;obtain⟨q',Q⟩:=asNm_ok H;obtain⟨n,A,r,D,F⟩:=an5 d;obtain⟨P,L,I,J⟩:=bh r;rw[e,Q,cj n,n5 A];exact EV P L I J (c.c.hfl _ _ D).1 (c.c.hfl _ _ D).2 ((bt m).v X _ c.c F)
def mL:∀(m:Ss) X s,Cs t C W ok X->fM t ok m X.N X.env.scope s=true->PDss X W s (ib C m)
 |.nil,X,s,c,h=>by
  cases s with
  |nil=>exact BC
  |cons _ _=>cases h
 |.cons m ms,X,s,c,h=>by obtain⟨z,f,a⟩:=anyT h;have:=con1_ok f;subst this;exact xP (IE m X _ c (an2 a).1) (mL ms X _ c (an2 a).2)
 |.alo m i ps qs j k ms,X,s,c,h=>by obtain⟨y,z,ts,n,x,A,f,l,H,h4,a⟩:=ay5 h;obtain⟨x',w,pq,p,lr,Z,h6,h7,P,h9,a⟩:=ay5 a;obtain⟨o,ls,d,T,i2,J,a⟩:=ay3 a;obtain⟨u,v,B,r⟩:=an4 a;obtain⟨M,b2,D,F,Q⟩:=an5 u;have:=con1_ok A;subst this;obtain⟨_,g⟩:=asg1_ok f;obtain⟨_,_,O⟩:=asTup_ok l;obtain⟨_,Y⟩:=asNm_ok h4;obtain⟨_,e5⟩:=asNm_ok Z;obtain⟨_,L⟩:=pI h6;obtain⟨_,_,e7⟩:=asTup_ok h7;obtain⟨_,_,I⟩:=asTup_ok h9;obtain⟨_,f2⟩:=iV i2;obtain⟨_,_,f3⟩:=asInt_ok J;rw[g,O,two2_ok H,Y,e5,L,e7,two2_ok P,I,two2_ok T,f2,f3,abg.mp (an2 D).1,Daa (an2 D).2];exact BS c.c.calm c.nd (dz (λ_=>c.fn) c.hw M) (dz (λ_=>c.fn) c.hw b2) (bB (an2 F).1) (bB (an2 F).2) ((bt m).t X _ c.c Q) (aV c.c ps _ v) (aV c.c qs _ B) (mL ms X _ ⟨c.c,c.nd,c.fn,c.pass,λk b z=>z.elim (c.hw k (an2 b).1) (Dad (bB (an2 b).2))⟩ r)
 |.ali i ps j ms,X,s,c,h=>by obtain⟨y,z,x,A,f,l,a⟩:=ay3 h;have:=con1_ok A;subst this;obtain⟨p,g⟩:=iY f;obtain⟨q,e⟩:=asNm_ok l;obtain⟨u,v,B,r,S⟩:=an5 a;obtain⟨U,n2,n3,n4⟩:=bh r;rw[g,e];exact BR (kO (bB u)) v U n2 n3 n4 (aV c.c ps _ B) (mL ms X _ ⟨c.c,c.nd,c.fn,c.pass,λk b z=>z.elim (c.hw k (an2 b).1) (Dad (bB (an2 b).2))⟩ S)
end
end
end
section
structure Df where
 name:Str
 qual:Str
 st:Stmt
 ps:List Str
 N:List Str
 fn:Fn
def BV(N ps:List Str)(sc:Scope):Bool:=decide (sc.kind=.function)&&!sc.isCoroutine&&!sc.isGenerator&&decide N.Nodup&&decide (N.take ps.length=ps)&&ps.all (λx=>xW sc x)&&sc.names.all λy=>!decide (y.2=.free)
def yw(h:BV N ps sc=true):FnScope N ps sc:=by unfold BV at h;simp only[aaE,aba,abF,decide_eq_true_eq,decide_eq_false_iff_not]at h;obtain⟨⟨⟨⟨⟨⟨g,d⟩,c⟩,b⟩,f⟩,a⟩,i⟩:=h;exact⟨g,d,c,b,f,λx e=>pL (a x e),i⟩
def og(ios:List Bool)(i:Nat):Bool:=!decide (ios[i]?=some true)
def yx(t:Tb)(d:Df):Bool:=BV d.N d.ps (aL d.st)&&decide (d.fn.io.length=d.ps.length)&&decide (d.fn.n=d.N.length)&&fM t (og d.fn.io) d.fn.body d.N (aL d.st) (cv d.st)
structure Md (K:Waa)(mg:Str->Option Value)(t:Tb)(p:Pg)(D:Nat->Option Df):Prop where
 df:∀j d,D j=some d->p.F j=some d.fn/\yx t d=true/\∃f fd,Fun K d.name d.qual d.st f fd/\Binds K fd d.ps [] /\
  (∀nm,t.fn j=some nm->mg nm=some (.ref f)/\PySem.W.keepIn K (.ref f)=true)/\(∀c m,t.me j=some (c,m)->Cls K (av K c)/\Meth K (av K c) m f)/\(∀c,t.mk' j=some c->Mk K (av K c) f/\mg c=some (.ref (av K c)))
 all:∀j,((t.fn j).isSome||(t.me j).isSome||(t.mk' j).isSome)=true->(D j).isSome=true
 gc:∀g nm,t.gc g=some nm->∃v u,mg nm=some u/\RelV v u/\∀S H,Fz K S H v (p.gv g)
 ng:∀x,t.nog x=true->mg x=none
 fl:∀c f,t.fld c f=true->Cls K (av K c)/\NoAttr K (av K c) f
section
variable{P:Program}{w:World}{K:Waa}{mg:Str->Option Value}{base:Heap}{t:Tb}{p:Pg}{D:Nat->Option Df}
def mM(h:∀xs Q,¬ sp xs Q):FnD P w K mg base k f fd ps sp:=by have c:∀a H Q E,¬ toSp K sp a H Q E:=λa H Q E ⟨S,xs,A,_,_,_,_,z⟩=>h _ _ z;exact⟨⟨λa H Q E z=>(c _ _ _ _ z).elim,λA b s H d e a Q E _ _ _ _ z=>(c _ _ _ _ z).elim⟩,λxs P R _ z=>(h _ _ z).elim⟩
def mN(h:∀xs,g xs=none):∀xs Q,¬ spC g xs Q:=λxs Q ⟨w,e,_⟩=>by rw[h]at e;cases e
def Md.ok(M:Md K mg t p D):∀(n:Nat),(∀(j:Nat) (d:Df),D j=some d->∀(f:Addr) (r:FuncData),Fun K d.name d.qual d.st f r->FnD P w K mg base (n+1) f r d.ps (spC (p.call n j))) /\
  (∀(j:Nat) (d:Df),D j=some d->∀(f:Addr) (r:FuncData),Fun K d.name d.qual d.st f r->FnD P w K mg base n f r d.ps (spC (p.mak n j)))
 |0=>⟨λj d _ f r _=>mM (mN λ_=>rfl),λj d _ f r _=>mM (mN λ_=>rfl)⟩
 |n+1=>by
  obtain⟨v,W⟩:=Md.ok M n;refine⟨λj d T f r F=>?_,λj d T f r F=>v j d T f r F⟩;obtain⟨h1,O,_⟩:=M.df j d T;unfold yx at O;simp only[aaE,decide_eq_true_eq]at O;obtain⟨⟨⟨g1,Z⟩,g3⟩,g4⟩:=O;have S:=yw g1;refine F.okD S (uN _) Z (λxs Q ⟨z,e,_⟩=>?_) λI A k s H E y xs Q ⟨z,e,q⟩=>?_
  ·rw[Pg.fy,h1]at e;simp only at e;split at e
   ·rename_i hl;rw[hl];exact Z
   ·cases e
  ·have c:Cy t (p.ct n) (kc CX0 P w K mg base d.N d.qual (aL d.st) f I A k s H E).nox:=by
    refine⟨rfl,y.units,y.gd,λl nm h=>?_,λl c m h=>?_,λl c h=>?_,M.gc,M.ng,M.fl⟩
    ·obtain⟨g,b⟩:=abc.mp (M.all l (by rw[h];rfl));obtain⟨_,_,u,a,C,B,q1,_,_⟩:=M.df l g b;exact⟨n+1,u,a,g.ps,v l g b u a C,y,(q1 nm h).1,(q1 nm h).2,B⟩
    ·obtain⟨g,b⟩:=abc.mp (M.all l (by rw[h];simp));obtain⟨_,_,u,a,C,B,_,X,_⟩:=M.df l g b;exact⟨(X c m h).1,n+1,u,a,g.ps,(X c m h).2,v l g b u a C,y,B⟩
    ·obtain⟨g,b⟩:=abc.mp (M.all l (by rw[h];simp));obtain⟨_,_,u,a,C,B,_,_,q3⟩:=M.df l g b;exact⟨n,u,a,g.ps,(q3 c h).1,W l g b u a C,y,(q3 c h).2,B⟩
   have cs:Cs t (p.ct n) (WS d.fn.io) (og d.fn.io) (kc CX0 P w K mg base d.N d.qual (aL d.st) f I A k s H E).nox:=
    ⟨c,S.nd,λ_=>rfl,PassesOwn.never,λi U z=>by
     unfold og at U;simp only[abF,decide_eq_false_iff_not]at U;exact U z⟩
   refine⟨_,mL d.fn.body _ _ cs g4,?_⟩;rw[Pg.fy,h1]at e;simp only at e;split at e
   ·unfold uD at e;obtain⟨x,Y,e⟩:=bnd e;rw[g3]at Y;refine⟨x,Y,?_⟩;obtain⟨fl,ρ⟩:=x;cases fl with
    |nx=>obtain⟨J,L,e⟩:=bnd e;cases e;exact⟨J,L,q⟩
    |rt o=>obtain⟨J,L,e⟩:=bnd e;cases e;exact⟨J,L,q⟩
    |bk=>cases e
    |ct=>cases e
   ·cases e
def Md.law(M:Md K mg t p D)(k:D j=some d)(F:Fun K d.name d.qual d.st f fd)
  (h:∀ns:List Int,ns.length<=63->∃ys,p.call n j [.fz (.list (ns.map PyData.int))]=some (.fz (.bool true),ys)):
  FnOk P w K mg base CX0 (n+1) f fd d.ps (λvs H Q _=>∃(a:Addr) (ns:List Int),vs=[.ref a]/\SqL K H a (ns.map V.int)/\ns.length<=63/\∀b,Q (.bl true) b):=by
 refine((M.ok n).1 j d k f fd F).ok.imp λvs H Q E e=>?_;obtain⟨a,ns,rfl,i,l,q⟩:=e;obtain⟨ys,g⟩:=h ns l;refine⟨λ_=>False,[.fz (.list (ns.map PyData.int))],[],λa z=>z.elim,λ_ _ _ z=>z,Ows.cons (.fz ((Fz.of0 (.lst i (DtAll.ints ns))).sub λc z=>z.elim (λz=>by cases z) id)) .nil,abB,_,g,λv b B _ m _ _=>?_⟩;cases m with
 |cons r _=>
  cases r with
  |fz f=>cases f;exact q b
end
end
section
inductive Kd where|fn|me (c:Str)|ini (c:Str)
def Kd.fn?(d:Df):Kd->Option Str|.fn=>some d.name|_=>none
def Kd.me?(d:Df):Kd->Option (Str×Str)|.me c=>some (c,d.name)|_=>none
def Kd.ini?:Kd->Option Str|.ini c=>some c|_=>none
structure Pl where
 ds:List (Df×Kd)
 cs:List (Str×PyData)
 nog:List Str
 fld:List (Str×Str)
def Pl.tb(P:Pl):Tb where
 fn j:=(P.ds[j]?).bind λz=>z.2.fn? z.1
 me j:=(P.ds[j]?).bind λz=>z.2.me? z.1
 mk' j:=(P.ds[j]?).bind λz=>z.2.ini?
 gc g:=(P.cs[g]?).map (·.1)
 nog x:=P.nog.any λy=>sEq x y
 fld c f:=P.fld.any λy=>sEq c y.1&&sEq f y.2
def Pl.pg(P:Pl):Pg where
 F j:=(P.ds[j]?).map (·.1.fn)
 gv g:=((P.cs[g]?).map (·.2)).getD .none
 wf:=100000
def Pl.D(P:Pl)(j:Nat):Option Df:=(P.ds[j]?).map (·.1)
def Fc(K:Waa)(a:Str->Option Value)(d:Df)(f:Addr):Kd->Prop
 |.fn=>a d.name=some (.ref f)/\PySem.W.keepIn K (.ref f)=true
 |.me c=>Cls K (av K c)/\Meth K (av K c) d.name f
 |.ini c=>Mk K (av K c) f/\a c=some (.ref (av K c))
def zA(K:Waa)(b:Str->Option Value)(z:Df×Kd):Prop:=∃f a,Fun K z.1.name z.1.qual z.1.st f a/\Binds K a z.1.ps []/\Fc K b z.1 f z.2
section
variable{K:Waa}{mg:Str->Option Value}{P:Pl}
def mp{d c:Type}{o:Option d}{f:d->c}{b:c}(h:o.map f=some b):∃a,o=some a/\f a=b:=by
 cases o with
 |none=>cases h
 |some a=>exact⟨a,rfl,aaD h⟩
def Pl.md(L:(P.ds.all λz=>yx P.tb z.1)=true)(t:∀z∈P.ds,zA K mg z)(q:∀z∈P.cs,∃v u,mg z.1=some u/\RelV v u/\∀S H,Fz K S H v z.2)(C:∀x∈P.nog,mg x=none)(B:∀z∈P.fld,Cls K (av K z.1)/\NoAttr K (av K z.1) z.2):Md K mg P.tb P.pg P.D where
 df j d hj:=by
  obtain⟨z,b,i⟩:=mp hj;subst i;have p:=abd b;obtain⟨f,w,I,J,n⟩:=t z p;refine⟨by show (P.ds[j]?).map _=_;rw[b];rfl,aba.mp L z p,f,w,I,J,λo a=>?_,λc m a=>?_,λc a=>?_⟩
  ·have a:((P.ds[j]?).bind λz=>z.2.fn? z.1)=some o:=a;rw[b]at a;obtain⟨d,k⟩:=z;cases k<;>cases a;exact n
  ·have a:((P.ds[j]?).bind λz=>z.2.me? z.1)=some (c,m):=a;rw[b]at a;obtain⟨d,k⟩:=z;cases k<;>cases a;exact n
  ·have a:((P.ds[j]?).bind λz=>z.2.ini?)=some c:=a;rw[b]at a;obtain⟨d,k⟩:=z;cases k<;>cases a;exact n
 all j h:=by
  show ((P.ds[j]?).map _).isSome=true;cases e:P.ds[j]? with
  |none=>have h:((((P.ds[j]?).bind λz=>z.2.fn? z.1).isSome||((P.ds[j]?).bind λz=>z.2.me? z.1).isSome)||((P.ds[j]?).bind λz=>z.2.ini?).isSome)=true:=h;rw[e]at h;cases h
  |some z=>rfl
 gc g o h:=by
  obtain⟨z,b,i⟩:=mp h;subst i;obtain⟨v,u,s,F,r⟩:=q z (abd b);have A:P.pg.gv g=z.2:=by show ((P.cs[g]?).map _).getD _=_;rw[b];rfl
  rw[A];exact⟨v,u,s,F,r⟩
 ng x h:=by obtain⟨y,l,e⟩:=abG.mp h;rw[cj e];exact C y l
 fl c f h:=by obtain⟨y,l,e⟩:=abG.mp h;rw[cj (an2 e).1,cj (an2 e).2];exact B y l
end
end
end L2
namespace L2
open PySem
def bs{a b:Type}{o:Option a}{f:a->Option b}{x:a}{r:Option b}(h:o=some x)(k:f x=r):o.bind f=r:=by rw[h];exact k
def IF[Decidable c](h:c):gd c=some ():=if_pos h
def bg{a:Type}[Decidable c]{f:Unit->Option a}{r:Option a}(h:c)(k:f ()=r):(gd c).bind f=r:=bs (IF h) k
section
variable{C:Ct}{a b c e:E}{es:Es}{ρ ρ1 ρ2 ρ3:DEnv}{x y:OR}{dx dy d:PyData}{k k1:Bool}{i j f:Nat}{n:Int}{rs:List OR}{xs ys zs:List OD}{z w:OD}{ds:List PyData}{s:S'}{ss sa sb:Ss}{fl:Fl}{r:Option (Fl×DEnv)}{rv:Option (OR×DEnv)}{rt:Option (Bool×DEnv)}{ps:List Acc}
def ag{o:Bo}(m:ev C a ρ=some (x,ρ1))(g:ev C b ρ1=some (y,ρ2))(l:aJ ρ2 x=some dx)(p:aJ ρ2 y=some dy)(h:xK o dx dy=some d):ev C (.bop o a b) ρ=some (.val (.fz d),ρ2):=bs m (bs g (bs l (bs p (bs h rfl))))
def ar{o:Co}(m:ev C a ρ=some (x,ρ1))(g:ev C b ρ1=some (y,ρ2))(l:aJ ρ2 x=some dx)(p:aJ ρ2 y=some dy)(h:mo o dx dy=some k):ev C (.cmp o a b) ρ=some (.val (.fz (.bool k)),ρ2):=bs m (bs g (bs l (bs p (bs h rfl))))
def aN(l:ev C a ρ=some (x,ρ1))(g:ev C b ρ1=some (y,ρ2))(m:aJ ρ2 y=some (.int n))(h:bu ρ2 x n=some (z,ρ3)):ev C (.ix a b) ρ=some (.val z,ρ3):=bs l (bs g (bs m (bs rfl (bs h rfl))))
def ae(l:evs C es ρ=some (rs,ρ1))(g:ba (C.io f) ρ1 rs=some (xs,ρ2))(m:C.call f xs=some (w,ys))(h:dZ (C.io f) rs ys ρ2=ρ3):ev C (.call f es) ρ=some (.val w,ρ3):=bs l (bs g (bs m (by rw[<-h])))
def fe{ns:List Str}(q:ρ[i]?.join=some (.obj cn ns zs))(l:m ∉ ns)(p:evs C es ρ=some (rs,ρ1))(o:ba (C.io f) ρ1 (.rf i::rs)=some (xs,ρ2))(h:C.call f xs=some (w,ys))(g:dZ (C.io f) (.rf i::rs) ys ρ2=ρ3):ev C (.meth cn m f i es) ρ=some (.val w,ρ3):=bs q (bs rfl (bg ⟨rfl,l⟩ (bs p (bs o (bs h (by rw[<-g]))))))
def BW{g:Str}(o:evs C es ρ=some (rs,ρ1))(m:ba (C.io f).tail ρ1 rs=some (xs,ρ2))(l:C.mak f (.obj g [] []::xs)=some (.fz .none,w::ys))(h:dZ (C.io f).tail rs ys ρ2=ρ3):ev C (.make g f es) ρ=some (.val w,ρ3):=bs o (bs m (bs l (bs rfl (by rw[<-h]))))
def cG(h:evs C es ρ=some (rs,ρ1))(l:Nat.ble rs.length 1000000=true)(g:mapR own1 ρ1 rs=some (zs,ρ2)):ev C (.lst es) ρ=some (.val (.lst zs),ρ2):=bs h (bs g (bg (Nat.ble_eq.mp l) rfl))
def bM(h:evs C es ρ=some (rs,ρ1))(m:Nat.ble rs.length 1000000=true)(g:mapR own1 ρ1 rs=some (zs,ρ2))(l:mkTup zs=z):ev C (.tup es) ρ=some (.val z,ρ2):=bs h (bs g (bg (Nat.ble_eq.mp m) (by rw[<-l])))
def af:evs C .nil ρ=some ([],ρ):=rfl
def aa(h:ev C e ρ=some (x,ρ1))(g:evs C es ρ1=some (rs,ρ2)):evs C (.cons e es) ρ=some (x::rs,ρ2):=bs h (bs g rfl)
def fN(h:aT C c ρ=some (true,ρ1))(k:ev C a ρ1=rv):ev C (.ife c a b) ρ=rv:=bs h k
def jL(h:aT C c ρ=some (false,ρ1))(k:ev C b ρ1=rv):ev C (.ife c a b) ρ=rv:=bs h k
def aX{g:Bl}(l:evs C es ρ=some (rs,ρ1))(h:iL ρ1 rs=some ds)(m:CP g ds=some d):ev C (.blt g es) ρ=some (.val (.fz d),ρ1):=bs l (bs h (bs m rfl))
def pW(h:ev C e ρ=some (x,ρ1))(g:(dW ρ1 x).bind listOf=some ds):ev C (.bnw .tuple e) ρ=some (.val (.fz (.tuple ds)),ρ1):=bs h (bs g rfl)
def vu{ns:List Int}(m:ev C e ρ=some (x,ρ1))(h:aJ ρ1 x=some (.list ds))(g:jF ds=some ns)(l:ns.length<64):ev C (.bnw .sorted e) ρ=some (.val (.lst ((sortI ns).map λi=>.fz (.int i))),ρ1):=bs m (bs h (bs rfl (bs g (bg l rfl))))
def pX{dx dy:List PyData}(m:ev C a ρ=some (x,ρ1))(g:ev C b ρ1=some (y,ρ2))(h:zk ρ2 x=some dx)(o:zk ρ2 y=some dy)(l:dx.length+dy.length<=1000000):ev C (.cat a b) ρ=some (.val (.lst ((dx++dy).map OD.fz)),ρ2):=bs m (bs g (bs h (bs o (bg l rfl))))
def aj{o:Co}(h:ev C (.cmp o a b) ρ=some (.val (.fz (.bool k)),ρ1)):aT C (.cmp o a b) ρ=some (k,ρ1):=bs h rfl
def bp(h:ev C (.call f es) ρ=some (.val (.fz (.bool k)),ρ1)):aT C (.call f es) ρ=some (k,ρ1):=bs h rfl
def oh{g m:Str}(h:ev C (.meth g m f i es) ρ=some (.val (.fz (.bool k)),ρ1)):aT C (.meth g m f i es) ρ=some (k,ρ1):=bs h rfl
def t_andT(h:aT C a ρ=some (true,ρ1))(k:aT C b ρ1=rt):aT C (.and a b) ρ=rt:=bs h k
def eA(h:aT C a ρ=some (false,ρ1)):aT C (.and a b) ρ=some (false,ρ1):=bs h rfl
def jM(h:aT C a ρ=some (true,ρ1)):aT C (.or a b) ρ=some (true,ρ1):=bs h rfl
def cH(h:aT C a ρ=some (false,ρ1))(k:aT C b ρ1=rt):aT C (.or a b) ρ=rt:=bs h k
def eB(h:aT C a ρ=some (k,ρ1)):aT C (.not a) ρ=some (!k,ρ1):=bs h rfl
def oi(h:ev C a ρ=some (.val (.fz (.bool true)),ρ1))(k:ev C b ρ1=rv):ev C (.and a b) ρ=rv:=bs h (bs rfl (bs rfl k))
def oj(h:ev C a ρ=some (.val (.fz (.bool false)),ρ1)):ev C (.and a b) ρ=some (.val (.fz (.bool false)),ρ1):=bs h rfl
def pY(h:ev C a ρ=some (.val (.fz (.bool true)),ρ1)):ev C (.or a b) ρ=some (.val (.fz (.bool true)),ρ1):=bs h rfl
def pZ(h:ev C a ρ=some (.val (.fz (.bool false)),ρ1))(k:ev C b ρ1=rv):ev C (.or a b) ρ=rv:=bs h (bs rfl (bs rfl k))
def ck{p:OD×List Nat×OD}(h:ak ρ i ps=some p)(g:p.2.2=.fz d):ev C (.pg i ps) ρ=some (.val (.fz d),ρ):=bs h (bs (show sd p.2.2=some d by rw[g];rfl) rfl)
variable{p:OD×List Nat×OD}{cn fl':Str}{ns ns':List Str}{xs':List OD}
def BX(h:ak ρ i ps=some p)(g:p.2.2.dat=some d)(l:ρ.set i (some (OD.put (.fz d) p.2.1 p.1))=ρ1):ev C (.pf i ps) ρ=some (.val (.fz d),ρ1):=bs h (bs g (by rw[<-l]))
def BY{m:Nat}(h:ak ρ i ps=some p)(g:p.2.2.dat=some d)(l:iM d=some m):ev C (.pl i ps) ρ=some (.val (.fz (.int m)),ρ):=bs h (bs g (bs l rfl))
def jN(h:ak ρ i ps=some p)(g:p.2.2.dat=some d)(l:kE d=some k):aT C (.pt i ps) ρ=some (k,ρ):=bs h (bs g (bs l rfl))
def om{neg:Bool}(m:ev C e ρ=some (x,ρ1))(l:aJ ρ1 x=some dx)(h:ak ρ1 i ps=some p)(g:p.2.2.dat=some d)(o:mo (if neg then .nin else .inn) dx d=some k):aT C (.pin neg e i ps) ρ=some (k,ρ1):=bs (bs m (bs l (bs h (bs g (bs o rfl))))) rfl
def kU(h:ak ρ i ps=some p)(m:jr C e ρ=some d)(l:p.2.2=.lst xs)(o:xs.length<1000000)(g:ρ.set i (some (OD.put (.lst (xs++[.fz d])) p.2.1 p.1))=ρ1):cK C (.apd i ps e) ρ=some (.nx,ρ1):=bs h (bs m (bs (show nS p.2.2=some xs by rw[l];rfl) (bg o (by rw[<-g]))))
def vw(o:ev C e ρ=some (x,ρ1))(u:frz1 ρ1 x=some (d,ρ2))(h:ak ρ2 i ps=some p)(g:ρ2[j]?.join=some (.fz kd))(hk:keyOf kd=some kk)(m:p.2.2=.dic ks xs)(t:xs.length<1000000)(q:bf kk d ks xs=(ks',xs'))(l:ρ2.set i (some (OD.put (.dic ks' xs') p.2.1 p.1))=ρ3):cK C (.std i ps j e) ρ=some (.nx,ρ3):=bs o (bs u (bs h (bs g (bs rfl (bs hk (bs (by rw[m];rfl) (bg t (by rw[<-l];simp only[q]))))))))
def cm(l:ev C e ρ=some (x,ρ1))(q:own1 ρ1 x=some (z,ρ2))(o:ρ2[i]?.join=some (.obj cn ns xs))(h:Nat.blt xs.length 1000=true)(m:bx fl' z ns xs=(ns',xs'))(g:ρ2.set i (some (.obj cn ns' xs'))=ρ3):cK C (.stf i cn fl' e) ρ=some (.nx,ρ3):=bs l (bs q (bs o (bs rfl (bg ⟨rfl,abH.mp h⟩ (by rw[<-g];simp only[m])))))
def vy{a r:Int}(h:ak ρ i [.fld cn fl']=some p)(m:p.2.2=.fz (.int a))(t:ev C e ρ=some (x,ρ1))(q:aJ ρ1 x=some d)(g:mr o a d=some r)(A:ρ1[i]?.join=some (.obj cn ns xs))(u:Nat.blt xs.length 1000=true)(v:bx fl' (.fz (.int r)) ns xs=(ns',xs'))(l:ρ1.set i (some (.obj cn ns' xs'))=ρ3):cK C (.agf i cn fl' o e) ρ=some (.nx,ρ3):=bs h (bs (show sd p.2.2=some (.int a) by rw[m];rfl) (bs rfl (bs t (bs q (bs g (bs A (bs rfl (bg ⟨rfl,abH.mp u⟩ (by rw[<-l];simp only[v])))))))))
def ab(h:cK C s ρ=some (.nx,ρ1))(k:aw C ss ρ1=r):aw C (.cons s ss) ρ=r:=bs h k
def aC(h:cK C s ρ=some (.rt z,ρ1)):aw C (.cons s ss) ρ=some (.rt z,ρ1):=bs h rfl
def Ho(h:cK C s ρ=some (.ct,ρ1)):aw C (.cons s ss) ρ=some (.ct,ρ1):=bs h rfl
def ah(h:ev C e ρ=some (x,ρ1))(l:own1 ρ1 x=some (z,ρ2))(m:Nat.blt i ρ2.length=true)(g:ρ2.set i (some z)=ρ3):cK C (.set i e) ρ=some (.nx,ρ3):=bs h (bs l (bg (abH.mp m) (by rw[<-g])))
def fg{is:List Nat}(h:evs C es ρ=some (rs,ρ1))(m:mapR own1 ρ1 rs=some (zs,ρ2))(g:(zs.length==is.length&&is.all λi=>Nat.blt i ρ2.length)=true)(l:dY is zs ρ2=ρ3):cK C (.par is es) ρ=some (.nx,ρ3):=bs h (bs m (bg (by rw[aaE,aba]at g;exact⟨eq_of_beq g.1,λi o=>abH.mp (g.2 i o)⟩) (by rw[<-l])))
def vz(h:ev C e ρ=some (x,ρ1)):cK C (.ex e) ρ=some (.nx,ρ1):=bs h rfl
def aq(h:ev C e ρ=some (x,ρ1))(g:mv1 ρ1 x=some (z,ρ2)):cK C (.ret e) ρ=some (.rt z,ρ2):=bs h (bs g rfl)
def aH(h:aT C c ρ=some (true,ρ1))(k:aw C sa ρ1=r):cK C (.iff c sa sb) ρ=r:=bs h k
def az(h:aT C c ρ=some (false,ρ1))(k:aw C sb ρ1=r):cK C (.iff c sa sb) ρ=r:=bs h k
def bP(o:ρ[i]?.join=some (.lst ys))(h:ev C e ρ=some (x,ρ1))(q:own1 ρ1 x=some (z,ρ2))(m:ρ2[i]?.join=some (.lst xs))(l:xs.length<1000000)(g:ρ2.set i (some (.lst (xs++[z])))=ρ3):cK C (.app i e) ρ=some (.nx,ρ3):=bs o (bs rfl (bs h (bs q (bs m (bs rfl (bg l (by rw[<-g])))))))
def kW(h:ev C e ρ=some (x,ρ1))(t:own1 ρ1 x=some (z,ρ2))(q:ρ2[i]?.join=some (.lst ys))(hk:ev C ke ρ2=some (y,ρ3))(m:aJ ρ3 y=some (.int n))(o:ρ3[i]?.join=some (.lst xs))(g:ixN xs.length n=some jj)(l:ρ3.set i (some (.lst (xs.set jj z)))=ρ4):cK C (.sti i ke e) ρ=some (.nx,ρ4):=bs h (bs t (bs q (bs rfl (bs hk (bs m (bs rfl (bs o (bs rfl (bs g (by rw[<-l]))))))))))
def cp(h:sF C it ρ=some (ds,ρ1))(k:bE (λd g=>(aW t (.fz d) g).bind λρ1=>aw C ss ρ1) ds ρ1=r):cK C (.fr t it ss) ρ=r:=bs h k
def dA(h:ev C e ρ=some (x,ρ1))(g:aJ ρ1 x=some (.int n))(l:-(2^62)<=n/\n<2^62):sF C (.rg1 e) ρ=some (cC 0 n.toNat,ρ1):=bs h (bs g (bs rfl (bg l rfl)))
def bQ(h:ev C e ρ=some (x,ρ1))(g:frz1 ρ1 x=some (d,ρ2))(l:uB d=some ds):sF C (.seq e) ρ=some (ds,ρ2):=bs h (bs g (bs l rfl))
def oo(h:ev C e ρ=some (x,ρ1))(g:frz1 ρ1 x=some (.list ds,ρ2)):sF C (.enm e) ρ=some (eU ds,ρ2):=bs h (bs g (bs rfl rfl))
def vA(h:ev C a ρ=some (x,ρ1))(h':ev C b ρ1=some (y,ρ2))(o:frz1 ρ2 x=some (dx,ρ3))(g:frz1 ρ3 y=some (dy,ρ4))(m:uB dx=some ds)(l:uB dy=some es'):sF C (.zip a b) ρ=some (gk ds es',ρ4):=bs h (bs h' (bs o (bs g (bs m (bs l rfl)))))
def cQ(m:sF C it ρ=some (ds,ρ1))(h:ds.length<1000000)(o:cJ ρ1 fr=some zc)(l:bw (bF C tg ifs elt) ds [] (List.replicate nt none++zc.1)=some (out,ρ'))(g:eR zc.2 fr (ρ'.drop nt)=ρ2):ev C (.comp nt fr it tg ifs elt) ρ=some (.val (.lst (out.map OD.fz)),ρ2):=bs m (bg h (bs o (bs l (by rw[<-g]))))
def yz(o:ρ[i]?.join=some (.lst (ds.map OD.fz)))(h:ds.length<1000000)(m:cJ (ρ.set i none) fr=some zc)(l:bw (bF C tg ifs elt) ds [] (List.replicate nt none++zc.1)=some (out,ρ'))(g:(eR zc.2 fr (ρ'.drop nt)).set i (some (.lst (ds.map OD.fz)))=ρ2):ev C (.compB i nt fr tg ifs elt) ρ=some (.val (.lst (out.map OD.fz)),ρ2):=bs o (bs rfl (bs (gh ds) (bg h (bs m (bs l (by rw[<-g]))))))
def yA(m:aW tg (.fz d) ρ=some ρ1)(h:aT C ifs ρ1=some (true,ρ2))(g:ev C elt ρ2=some (x,ρ3))(l:frz1 ρ3 x=some (dx,ρ4)):bF C tg (.some ifs) elt d ρ=some ([dx],ρ4):=bs m (bs h (bs g (bs l rfl)))
def yB(h:aW tg (.fz d) ρ=some ρ1)(g:aT C ifs ρ1=some (false,ρ2)):bF C tg (.some ifs) elt d ρ=some ([],ρ2):=bs h (bs g rfl)
def su(l:aW tg (.fz d) ρ=some ρ1)(g:ev C elt ρ1=some (x,ρ3))(h:frz1 ρ3 x=some (dx,ρ4)):bF C tg .none elt d ρ=some ([dx],ρ4):=bs l (bs rfl (bs g (bs h rfl)))
end
def gF{step:PyData->DEnv->Option (Fl×DEnv)}(P:List PyData->DEnv->Prop)(h:∀d ds ρ,P (d::ds) ρ->∃b a,step d ρ=some (b,a)/\(b=.nx\/b=.ct)/\P ds a):∀{ds:List PyData}{ρ:DEnv},P ds ρ->∃a,bE step ds ρ=some (.nx,a)/\P [] a:=by
 intro ds;induction ds with
 |nil=>exact λ{ρ} f=>⟨ρ,rfl,f⟩
 |cons d ds k=>
  intro ρ f;obtain⟨b,l,j,m,c⟩:=h d ds ρ f;obtain⟨g,i,e⟩:=k c;refine⟨g,bs j ?_,e⟩;rcases m with rfl|rfl
  ·exact i
  ·exact i
def ai{p:Pg}(b:p.F j=some fn)(a:xs.length=fn.io.length)(h:aw (p.ct n) fn.body (fb fn.n xs)=some (.rt r,ρ))(c:aU 0 fn.io xs ρ=some ys):p.call (n+1) j xs=some (r,ys):=by rw[Pg.fy,b];show (if xs.length=fn.io.length then uD (p.ct n) fn xs else none)=_;rw[if_pos a];exact bs h (bs c rfl)
def dB{p:Pg}(b:p.F j=some fn)(a:xs.length=fn.io.length)(h:aw (p.ct n) fn.body (fb fn.n xs)=some (.nx,ρ))(c:aU 0 fn.io xs ρ=some ys):p.call (n+1) j xs=some (.fz .none,ys):=by rw[Pg.fy,b];show (if xs.length=fn.io.length then uD (p.ct n) fn xs else none)=_;rw[if_pos a];exact bs h (bs c rfl)
def fO(h:k<n):ixN n (k:Int)=some k:=by unfold ixN;rw[if_pos (by omega),if_pos (by omega)];rfl
def jO{a:Type}{xs:List a}{k:Nat}{x:a}(h:xs[k]?=some x):atI xs (k:Int)=some x:=bs (fO (aar.mp h).1) h
def qa{b:Type}{xs:List b}{i:Int}(d:0<=i)(c:i<xs.length):∃x,x∈xs/\atI xs i=some x:=by
 have e:i=(i.toNat:Int):=by omega
 have a:i.toNat<xs.length:=by omega
 refine⟨xs[i.toNat],List.getElem_mem a,?_⟩;have:=jO (aap a);rw[<-e]at this;exact this
section
variable{ρ:DEnv}{ds:List PyData}{d:PyData}{i:Int}{xs:List OD}{x:OD}
def bS(h:atI ds i=some d):bu ρ (.val (.fz (.list ds))) i=some (.fz d,ρ):=by simp only[bu,itemO,h]
def bz(h:atI ds i=some d):bu ρ (.val (.fz (.tuple ds))) i=some (.fz d,ρ):=by simp only[bu,itemO,h]
def cR(h:atI xs i=some x):bu ρ (.val (.lst xs)) i=some (x,ρ):=by simp only[bu,itemO,h]
end
end L2
namespace Np
open PySem L2
def top(i:Nat):Stmt:=PySem.Challenge.pw_nearpool_k27_rows_that_settle.main.body.getD i (.Pass ⟨0,0,0,0⟩)
def gU(j:Nat):Stmt->Stmt
 |.ClassDef _ _ _ body ..=>body.getD j (.Pass ⟨0,0,0,0⟩)
 |s=>s
abbrev eep:Es:=.cons (.nm 8) .nil
abbrev eeo:S':=.set 3 (.lst .nil)
abbrev een:Es:=.cons (.nm 4) .nil
abbrev eem:S':=.set 2 (.lst .nil)
abbrev eel:Es:=.cons (.nm 2) .nil
abbrev eek:Es:=.cons (.nm 7) .nil
abbrev eej:Es:=.cons (.nm 6) .nil
abbrev eei:Es:=.cons (.nm 0) .nil
abbrev eeh:Es:=.cons (.nm 1) .nil
abbrev Hq:E:=.ix (.nm 4) (.nm 9)
abbrev eef:Es:=.cons (.int 2) .nil
abbrev eee:Es:=.cons (.int 9) .nil
abbrev eed:Es:=.cons (.int 0) .nil
abbrev Hr:E:=.ix (.nm 2) (.nm 0)
abbrev Hs:E:=.ix (.nm 0) (.nm 2)
abbrev eea:E:=.ix (.nm 8) (.int 1)
abbrev ed9:E:=.ix (.nm 8) (.int 0)
abbrev ed8:E:=.ix (.nm 0) (.int 1)
abbrev ed7:E:=.ix (.nm 0) (.int 2)
abbrev ed6:E:=.ix (.nm 0) (.int 0)
abbrev HR:E:=.ix (.nm 10) (.int 0)
abbrev ed4:Es:=.cons (.lst .nil) .nil
abbrev HS:E:=.din false (.nm 7) 3 []
abbrev ed2:E:=.cmp .eq (.nm 0) (.nm 1)
abbrev ed1:E:=.cmp .eq (.nm 7) (.nm 6)
abbrev ed0:Es:=.cons (.str "stop") .nil
abbrev edz:E:=.cmp .nin (.nm 9) (.nm 1)
abbrev edy:E:=.cmp .eq (.nm 6) (.int 0)
abbrev edx:Ss:=.cons (.ret (.nm 2)) .nil
abbrev edw:E:=.cmp .eq (.nm 1) (.int 0)
abbrev edv:E:=.cmp .inn (.nm 2) (.nm 1)
abbrev edu:E:=.bop .add (.nm 6) (.int 2)
abbrev edt:E:=.bop .sub (.ln 3) (.int 1)
abbrev eds:E:=.bop .add (.nm 1) (.int 1)
abbrev FY:E:=.cmp .eq (.nm 5) (.lst .nil)
abbrev edq:E:=.cmp .ne (.nm 5) (.lst .nil)
abbrev edp:Ss:=.cons (.ret (.bl true)) .nil
abbrev edo:E:=.call 1 eeh
abbrev edn:E:=.call 0 eeh
abbrev edm:E:=.call 27 eel
abbrev edl:E:=.call 28 eei
abbrev edk:Ss:=.cons (.ret (.bl false)) .nil
abbrev edj:E:=.blt .abs eel
abbrev edi:E:=.blt .len eei
abbrev edh:E:=.blt .len eeh
abbrev edg:Es:=.cons Hs .nil
abbrev edf:Es:=.cons (.nm 4) eej
abbrev ede:E:=.ix (.ix (.nm 0) (.nm 7)) (.int 2)
abbrev edd:Es:=.cons (.nm 6) eek
abbrev edc:Es:=.cons (.nm 7) eej
abbrev edb:Es:=.cons (.nm 0) eeh
abbrev eda:E:=.ix (.ix (.nm 0) (.nm 11)) (.int 2)
abbrev ec9:E:=.not (.pt 0 [.fld "Going" "words"])
abbrev ec8:E:=.not edl
abbrev ec7:E:=.not (.pt 0 [.fld "Going" "waiting"])
abbrev ec6:Es:=.cons (.lst .nil) eed
abbrev ec5:Es:=.cons (.str "tell") eej
abbrev ec4:E:=.cat (.nm 4) (.lst eej)
abbrev ec3:Es:=.cons (.pg 0 [.fld "Going" "rows"]) .nil
abbrev ec2:E:=.ix (.nm 0) (.bop .sub (.nm 1) (.int 1))
abbrev HT:E:=.ix (.pg 0 [.fld "Going" "rows"]) (.nm 1)
abbrev Ht:E:=.ix (.nm 7) (.ix (.nm 10) (.neg (.int 1)))
abbrev ecz:Es:=.cons (.call 25 eei) .nil
abbrev ecy:S':=.sdk 4 (.nm 7) edt
abbrev ecx:E:=.call 28 (.cons (.ix (.nm 0) (.nm 7)) .nil)
abbrev ecw:E:=.ix (.pg 0 [.fld "Going" "reach"]) (.int 0)
abbrev HU:Es:=.cons (.str "go") ed0
abbrev ecu:S':=.set 3 (.bnw .sorted (.cat (.nm 3) (.nm 5)))
abbrev ect:S':=.set 2 (.bnw .sorted (.cat (.nm 2) (.nm 3)))
abbrev ecr:E:=.cmp .eq ed6 (.str "nil")
abbrev ecq:E:=.cmp .eq ed6 (.str "set")
abbrev ecp:E:=.call 35 edb
abbrev eco:E:=.call 24 (.cons (.nm 2) eef)
abbrev ecn:E:=.cmp .lt (.nm 4) (.bop .fdiv (.nm 1) (.int 2))
abbrev ecm:E:=.call 24 (.cons (.nm 0) eef)
abbrev ecl:E:=.call 24 (.cons (.nm 0) (.cons (.int 3) .nil))
abbrev HV:E:=.call 24 (.cons (.nm 0) (.cons (.int 8) .nil))
abbrev ecj:E:=.call 24 (.cons (.nm 0) (.cons (.int 5) .nil))
abbrev eci:E:=.call 24 (.cons (.nm 0) (.cons (.int 4) .nil))
abbrev ech:E:=.call 24 (.cons (.nm 0) (.cons (.int 80) .nil))
abbrev ecg:E:=.call 24 (.cons (.nm 0) (.cons (.int 12) .nil))
abbrev ecf:E:=.meth "Going" "finds" 12 0 eel
abbrev HW:S':=.ret (.tup (.cons (.nm 3) een))
abbrev ecd:Es:=.cons (.nm 0) (.cons (.bnw .tuple (.nm 1)) .nil)
abbrev HX:E:=.meth "Going" "is_due" 10 0 eeh
abbrev ecb:E:=.cmp .eq (.nm 7) edi
abbrev HY:E:=.cmp .lt (.nm 6) edi
abbrev eb9:E:=.meth "Going" "may_put" 13 0 eel
abbrev eb8:Ss:=.cons (.stf 0 "Going" "waiting" (.lst .nil)) .nil
abbrev eb7:E:=.cmp .lt (.nm 7) edi
abbrev eb6:Es:=.cons (.nm 0) (.cons (.nm 3) eeh)
abbrev eb5:Es:=.cons (.nm 0) (.cons (.nm 1) eel)
abbrev eb4:E:=.call 2 ec3
abbrev eb3:Es:=.cons (.nm 0) (.cons (.nm 1) eek)
abbrev HZ:Es:=.cons (.nm 0) edc
abbrev eb1:E:=.pin true (.nm 1) 0 [.ix (-1),.fld "Going" "words"]
abbrev eb0:Es:=.cons (.nm 3) (.cons (.nm 11) eee)
abbrev ebz:E:=.pin false (.nm 1) 0 [.ix (-1),.fld "Going" "words"]
abbrev eby:E:=.blt .len ec3
abbrev H9:E:=.cmp .nin ede (.nm 13)
abbrev ebw:E:=.cmp .inn ede (.nm 13)
abbrev Ia:E:=.ix (.nm 3) (.ix Hr (.neg (.int 1)))
abbrev ebu:E:=.ix (.ix (.pg 0 [.fld "Going" "rows"]) (.nm 3)) (.int 2)
abbrev ebt:Es:=.cons (.nm 1) (.cons (.pg 0 [.fld "Going" "place"]) .nil)
abbrev ebs:E:=.comp 1 [4] (.seq (.sdd 4)) (.nm 0) .none (.pg 1 [.key 0])
abbrev ebr:It':=.rg1 (.bop .add edi (.int 1))
abbrev ebq:E:=.call 18 (.cons Hr eeh)
abbrev ebp:E:=.cmp .le (.bop .sub (.nm 6) (.nm 10)) (.ix (.nm 2) (.int 0))
abbrev ebo:E:=.call 32 eb6
abbrev ebn:Ss:=.cons HW .nil
abbrev ebm:E:=.call 17 eb6
abbrev ebl:E:=.call 0 (.cons HT .nil)
abbrev ebk:S':=.set 2 (.ix HT (.int 2))
abbrev ebj:E:=.cmp .eq HV (.int 0)
abbrev ebi:Ss:=.cons (.ex (.meth "Going" "cross" 15 3 een)) .nil
abbrev ebh:S':=.set 8 (.call 21 (.cons (.nm 5) edf))
abbrev ebg:S':=.set 7 (.call 36 (.cons (.nm 3) edf))
abbrev ebf:S':=.set 4 ebm
abbrev ebe:S':=.app 3 (.lst (.cons (.nm 7) (.cons (.lst .nil) (.cons (.nm 10) .nil))))
abbrev ebd:S':=.set 10 (.call 33 HZ)
abbrev ebc:Es:=.cons (.str "set") (.cons ed8 (.cons (.int 99) .nil))
abbrev ebb:E:=.blt .min (.cons (.int 1) (.cons edi .nil))
abbrev eba:E:=.cmp .ne edi edh
abbrev ea9:It':=.rg1 (.bop .add (.int 1) HV)
abbrev ea8:S':=.set 6 (.bop .add (.nm 10) (.bop .mul (.int 2) (.pl 3 [.ix (1),.ix (-1)])))
abbrev ea7:E:=.cmp .nin ebu (.nm 2)
abbrev ea6:Es:=.cons (.call 24 (.cons (.nm 0) (.cons eds .nil))) .nil
abbrev ea5:S':=.sdc 3 2 [] (.seq (.nm 2)) (.tp [0,1]) (.nm 0) edh
abbrev Ib:E:=.cmp .le (.bop .sub edu (.nm 10)) (.ix (.nm 2) (.int 0))
abbrev ea3:E:=.bop .add (.nm 6) (.call 29 eb3)
abbrev ea2:Es:=.cons (.nm 0) (.cons (.nm 3) (.cons (.ix (.nm 4) (.int 0)) eel))
abbrev ea1:E:=.call 19 (.cons (.nm 0) (.cons (.nm 2) (.cons (.lst .nil) eeh)))
abbrev ea0:E:=.cmp .inn HR (.tup (.cons (.str "go") (.cons (.str "nil") .nil)))
abbrev eaz:Ss:=.cons (.ret (.bop .sub (.bop .add (.nm 2) (.int 2)) (.bop .mod (.nm 2) (.int 2)))) .nil
abbrev eay:S':=.set 6 ea3
abbrev eax:S':=.set 3 ea1
abbrev eaw:E:=.call 31 ea2
abbrev eav:E:=.call 19 ea2
abbrev eau:Ss:=.cons (.std 0 [.fld "Going" "uses"] 1 (.bop .sub (.pl 0 [.fld "Going" "gaps"]) (.int 1))) .nil
abbrev eat:It':=.seq (.tup (.cons (.call 26 eel) (.cons (.call 34 eel) .nil)))
abbrev eas:S':=.set 5 eav
abbrev ear:S':=.set 4 (.blt .len (.cons (.compB 2 1 [] (.nm 0) (.some edl) (.nm 0)) .nil))
abbrev eaq:E:=.comp 3 [] (.seq (.nm 3)) (.tp [0,1,2]) .none (.tup ecd)
abbrev eap:Ss:=.cons (.apd 0 [.ix (-1),.fld "Going" "words"] (.nm 2)) (.cons (.agf 0 "Going" "place" .add (.gc 3)) .nil)
abbrev eao:E:=.call 5 (.cons (.pg 0 [.fld "Going" "rows"]) (.cons (.pg 0 [.fld "Going" "longs"]) eeh))
abbrev ean:Ss:=.cons (.apd 0 [.fld "Going" "waiting"] (.tup ebt)) .nil
abbrev eam:E:=.blt .abs (.cons (.bop .sub Ia (.ix (.nm 4) (.nm 0))) .nil)
abbrev eal:E:=.or (.cmp .gt (.nm 11) (.nm 3)) (.and (.cmp .eq HR (.str "nil")) (.cmp .gt (.nm 11) (.int 99)))
abbrev eak:E:=.cmp .nin (.ix (.ix (.nm 0) (.bop .sub (.nm 6) (.int 1))) (.int 0)) (.tup HU)
abbrev eaj:E:=.and ebw ebp
abbrev eai:S':=.iff HX (.cons (.ex (.meth "Going" "lay" 11 0 eeh)) .nil) .nil
abbrev eah:S':=.agf 0 "Going" "place" .add eao
abbrev eag:E:=.or edw (.cmp .nin (.ix ec2 (.int 0)) (.tup HU))
abbrev eaf:Ss:=.cons (.iff FY ebn .nil) (.cons ecu .nil)
abbrev eae:E:=.blt .max (.cons (.bop .sub Ht Hq) (.cons (.bop .sub Hq Ht) .nil))
abbrev ead:E:=.and (.nen 3) (.and H9 (.and FY Ib))
abbrev eac:Ss:=.cons (.iff HY (.cons (.app 3 (.nm 5)) (.cons (.set 5 (.bop .add (.nm 5) (.call 29 (.cons (.nm 0) (.cons (.nm 1) eej))))) .nil)) .nil) .nil
abbrev eab:Ss:=.cons (.set 5 (.bop .sub (.bop .add (.nm 5) (.int 2)) (.bop .mod (.nm 5) (.int 2)))) (.cons (.app 4 (.nm 5)) (.cons (.set 5 (.bop .add (.nm 5) (.bop .mul (.int 2) (.blt .len eep)))) .nil))
abbrev eaa:S':=.iff HS (.cons (.app 5 (.call 7 HZ)) (.cons (.set 6 (.bop .add (.ix (.nm 5) (.neg (.int 1))) (.bop .mul (.gc 3) (.pg 3 [.key 7])))) .nil)) .nil
def iZ:Fn:=⟨[false],1,(.cons (.ret (.and ecq (.cmp .gt ed7 (.gc 1)))) .nil)⟩
def jP:Fn:=⟨[false],1,(.cons (.ret (.or (.cmp .eq ed6 (.str "go")) ecr)) .nil)⟩
def gV:Fn:=⟨[false],1,(.cons (.ret (.comp 2 [] (.enm (.nm 0)) (.tp [0,1]) (.some edn) (.nm 0))) .nil)⟩
def i4:Fn:=⟨[false],1,(.cons (.ret (.comp 2 [] (.enm (.nm 0)) (.tp [0,1]) (.some edo) (.nm 0))) .nil)⟩
def kX:Fn:=⟨[false],1,(.cons (.ret (.and (.cmp .ne ed6 (.str "go")) (.cmp .ne ed6 (.str "stop")))) .nil)⟩
def eP:Fn:=⟨[false,false,false],3,(.cons (.ret (.ife (.or (.call 0 edg) edv) (.int 2) (.int 1))) .nil)⟩
def fh:Fn:=⟨[false,false],2,(.cons (.ret (.or edw (.call 4 (.cons ec2 .nil)))) .nil)⟩
def dD:Fn:=⟨[false,false,false],3,(.cons (.iff (.call 6 edb) (.cons (.aug 2 .add (.gc 2)) .nil) .nil) eaz)⟩
abbrev ac:Str:="Going"
abbrev am:Str:="rows"
abbrev bi:Str:="longs"
abbrev bm:Str:="place"
abbrev bn:Str:="reach"
abbrev bv:Str:="go"
abbrev ce:Str:="nearpool.pooling"
abbrev ci:Str:="gaps"
abbrev cr:Str:="nil"
abbrev dL:Str:="words"
abbrev dV:Str:="self"
abbrev em:Str:="begin"
abbrev eH:Str:="_law_rows_here"
abbrev ga:Str:="uses"
abbrev hF:Str:="gap"
abbrev hL:Str:="waiting"
abbrev hR:Str:="_law_script"
abbrev hY:Str:="_law_tape_here"
abbrev ii:Str:="set"
abbrev im:Str:="_law_k"
abbrev jp:Str:="nearpool.rows"
abbrev kt:Str:="_law_longs_here"
abbrev lc:Str:="stop"
abbrev lf:Str:="row"
abbrev lv:Str:="hop"
abbrev lw:Str:="law"
abbrev na:Str:="nearpool.places"
abbrev nl:Str:="nearpool.growing"
abbrev np:Str:="_law_found"
abbrev nX:Str:="is_great"
abbrev ol:Str:="is_jump"
abbrev oD:Str:="greats_of"
abbrev pc:Str:="jumps_of"
abbrev pi:Str:="falls"
abbrev pp:Str:="size_of"
abbrev pr:Str:="has_over"
abbrev pu:Str:="first_word"
abbrev rc:Str:="placed"
abbrev re:Str:="pools"
abbrev sn:Str:="number"
abbrev sw:Str:="pools_for"
abbrev sK:Str:="farthest"
abbrev ut:Str:="too_short"
abbrev wp:Str:="least_longs"
abbrev wr:Str:="settled"
abbrev wv:Str:="_law_cell_at"
abbrev ww:Str:="_law_tape"
abbrev wP:Str:="_law_take"
abbrev wS:Str:="_law_great"
abbrev wT:Str:="_law_rows"
abbrev xz:Str:="_law_reach"
abbrev xL:Str:="_law_is_great"
abbrev zn:Str:="_law_size"
abbrev At:Str:="_law_placed"
abbrev AT:Str:="_law_pools"
abbrev BT:Str:="_law_too_short"
abbrev Ch:Str:="_law_hop"
abbrev Db:Str:="_law_late_plan"
abbrev Ev:Str:="_law_reach_here"
abbrev EQ:Str:="_law_word_at"
abbrev Fa:Str:="_law_jumpy"
abbrev Go:Str:="_law_same"
abbrev Ix:Str:="_law_settled"
abbrev IN:Str:="/claim/cut.py"
abbrev IP:Str:="__init__"
abbrev IQ:Str:="_law_many"
abbrev IR:Str:="_law_place"
abbrev IS:Str:="_law_gap"
abbrev IT:Str:="_law_due"
def F_placed:Fn:=⟨[false,false,false],8,(.cons ea5 (.cons (.set 4 (.lst .nil)) (.cons (.set 5 (.lst .nil)) (.cons (.set 6 (.int 0)) (.cons (.fr (.nm 7) ebr (.cons eaa (.cons (.iff eb7 (.cons (.app 4 (.nm 6)) (.cons (.aug 6 .add (.call 5 eb3)) .nil)) .nil) .nil))) (.cons (.ret (.tup (.cons (.nm 4) (.cons (.nm 5) eej)))) .nil))))))⟩
def cV:Fn:=⟨[true,false,false,false],4,(.cons (.stf 0 ac am (.nm 1)) (.cons (.stf 0 ac bi (.nm 2)) (.cons (.stf 0 ac bn (.nm 3)) (.cons (.stf 0 ac bm (.int 0)) (.cons (.stf 0 ac ci (.lst .nil)) (.cons (.stf 0 ac dL (.lst .nil)) (.cons (.stf 0 ac em (.int 0)) (.cons (.stf 0 ac ga (.dnew)) eb8))))))))⟩
def bJ:Fn:=⟨[true,false],5,(.cons (.iff ec7 edk .nil) (.cons (.iff (.cmp .eq (.nm 1) eby) edp .nil) (.cons (.set 2 (.bop .add (.pg 0 [.fld ac bm]) eao)) (.cons (.asg (.tp [3,4]) (.pg 0 [.ix (0),.fld ac hL])) (.cons (.ret (.cmp .gt (.bop .sub (.call 7 (.cons (.pg 0 [.fld ac am]) (.cons eds eel))) (.nm 4)) (.ix (.pg 0 [.fld ac bn]) (.int 1)))) .nil)))))⟩
def F_Going_lay:Fn:=⟨[true,false],5,(.cons eem (.cons (.fr (.tp [3,4]) (.seq (.pf 0 [.fld ac hL])) (.cons (.std 0 [.fld ac ga] 3 (.pl 0 [.fld ac ci])) (.cons (.iff ea7 (.cons (.app 2 ebu) .nil) .nil) .nil))) (.cons (.apd 0 [.fld ac ci] (.nm 1)) (.ali 0 [.fld ac dL] 2 (.cons (.stf 0 ac em (.call 7 (.cons (.pg 0 [.fld ac am]) ebt))) (.cons (.stf 0 ac bm (.bop .add (.pg 0 [.fld ac em]) (.bop .mul (.gc 3) (.blt .len eel)))) eb8))))))⟩
def bV:Fn:=⟨[true,false],2,(.cons (.iff (.or ec9 eb1) edk .nil) (.cons (.ret (.cmp .le (.bop .sub (.pg 0 [.fld ac bm]) (.pg 0 [.fld ac em])) ecw)) .nil))⟩
def bb:Fn:=⟨[true,false],2,(.cons (.iff (.or ec9 (.or (.pt 0 [.fld ac hL]) ebz)) edk .nil) (.cons (.ret (.cmp .le (.bop .sub (.bop .add (.pg 0 [.fld ac bm]) (.gc 3)) (.pg 0 [.fld ac em])) ecw)) .nil))⟩
def bK:Fn:=⟨[true,false],3,(.cons ebk (.cons (.iff eb9 eap .nil) (.cons (.iff ecf eau ean) .nil)))⟩
def bW:Fn:=⟨[true,false],2,(.cons eai (.cons (.iff (.cmp .lt (.nm 1) eby) (.cons (.iff ebl (.cons (.ex (.meth ac "come" 14 0 eeh)) .nil) .nil) (.cons eah .nil)) .nil) .nil))⟩
def fP:Fn:=⟨[true],2,(.cons (.set 1 (.comp 2 [] (.zip (.pf 0 [.fld ac ci]) (.pf 0 [.fld ac dL])) (.tp [0,1]) .none (.tup ecd))) (.cons (.ret (.tup (.cons (.mv 1) (.cons (.comp 1 [0] (.seq eb4) (.nm 0) .none (.pg 1 [.key 0,.fld ac ga])) .nil)))) .nil))⟩
def gW:Fn:=⟨[false,false,false],5,(.cons (.set 3 (.make ac 9 eb5)) (.cons (.fr (.nm 4) ebr ebi) (.cons (.ret (.meth ac "plan" 16 3 .nil)) .nil)))⟩
def i5:Fn:=⟨[false,false],2,(.cons (.ret (.ife ecr (.blt .min (.cons (.nm 1) (.cons (.gc 0) .nil))) (.nm 1))) .nil)⟩
def gX:Fn:=⟨[false,false,false,false],9,(.cons (.asg (.tp [4,5,6]) (.call 8 eb5)) (.cons (.set 7 ec4) (.cons (.set 8 (.comp 1 [1] (.seq (.call 3 eei)) (.nm 0) (.some (.cmp .nin (.nm 0) (.nm 1))) (.nm 0))) (.cons (.ret (.comp 1 [3,0,7,4] (.seq (.nm 8)) (.nm 0) (.some (.cmp .gt eam ebq)) (.nm 0))) .nil))))⟩
def eV:Fn:=⟨[false,false],4,(.cons eem (.cons eax (.cons (.whl (.nm 3) (.cons ect (.cons eax .nil))) edx)))⟩
def jQ:Fn:=⟨[false,false,false],6,(.cons eeo (.cons ebf (.cons eas (.cons (.whl (.nm 5) (.cons ecu (.cons ebf (.cons eas .nil)))) ebn))))⟩
def gG:Fn:=⟨[false,false],2,(.cons (.ret (.ife (.cmp .lt (.nm 1) edi) (.ix (.nm 0) (.nm 1)) (.int 0))) .nil)⟩
def vB:Fn:=⟨[false,false],3,(.cons (.set 2 (.call 22 edb)) (.cons (.ret (.lst (.cons (.bop .mul edj (.blt .int (.cons (.cmp .ge edj (.bop .pow (.int 10) (.int 18))) .nil))) (.cons (.bop .mod (.bop .mul (.bop .add (.bop .add (.bop .mod (.nm 2) (.int 2147483647)) (.bop .mul (.int 7121) (.nm 1))) (.int 43)) (.int 48271)) (.int 2147483629)) eed)))) .nil))⟩
def oq:Fn:=⟨[true,false],4,(.cons (.iff (.cmp .gt ed6 (.int 0)) (.cons (.set 2 (.bop .mod ed6 (.nm 1))) (.cons (.sti 0 (.int 0) (.bop .fdiv ed6 (.nm 1))) edx)) .nil) (.cons (.sti 0 (.int 2) (.bop .add ed7 (.int 1))) (.cons (.set 3 (.bop .mod (.bop .mul (.bop .add ed8 (.bop .mul (.int 39373) ed7)) (.bop .add (.int 48271) ed7)) (.int 2147483647))) (.cons (.sti 0 (.int 1) (.bop .mod (.bop .add (.bop .mul (.nm 3) (.bop .add (.bop .mod (.nm 3) (.int 40009)) (.int 7))) ed7) (.int 2147483629))) (.cons (.ret (.bop .mod (.bop .fdiv (.bop .mod (.bop .mul ed8 (.bop .add (.bop .mod ed8 (.int 1009)) (.int 3))) (.int 998244353)) (.int 7)) (.nm 1))) .nil)))))⟩
def qb:Fn:=⟨[true],3,(.cons (.set 1 eci) (.cons (.set 2 (.bop .add (.int 100) (.call 24 (.cons (.nm 0) (.cons (.int 99999900) .nil))))) (.cons (.ret (.ix (.lst (.cons (.ix (.lst (.cons (.int 100) (.cons (.int 101) (.cons (.int 12345) (.cons (.int 10000) (.cons (.int 9999) .nil)))))) ecj) (.cons (.bop .add (.int 100) (.call 24 (.cons (.nm 0) (.cons (.int 6) .nil)))) (.cons (.nm 2) (.cons (.int 99999999) .nil))))) (.nm 1))) .nil)))⟩
def F_rows:Fn:=⟨[true],11,(.cons (.set 1 (.ife ebj (.bop .add (.int 20) (.call 24 (.cons (.nm 0) (.cons (.int 41) .nil)))) (.call 24 (.cons (.nm 0) (.cons (.int 11) .nil))))) (.cons (.set 2 (.ix (.lst (.cons (.int 2) (.cons (.int 5) eee))) ecl)) (.cons eeo (.cons (.fr (.nm 4) (.rg1 (.nm 1)) (.cons (.par [5,6] (.cons (.call 24 (.cons (.nm 0) (.cons (.int 10) .nil))) (.cons ecj .nil))) (.cons (.iff (.cmp .lt (.nm 5) (.nm 2)) (.cons (.app 3 (.tup (.cons (.str ii) (.cons (.nm 6) ecz)))) (.cons (.cont) .nil)) .nil) (.cons (.set 5 (.call 24 (.cons (.nm 0) eee))) (.cons (.par [7,8] (.cons ecj ea6)) (.cons (.set 9 (.blt .max (.cons (.int 0) (.cons (.blt .min (.cons (.nm 1) (.cons (.bop .sub (.bop .add (.nm 4) (.call 24 (.cons (.nm 0) (.cons (.int 7) .nil)))) (.int 2)) .nil))) .nil)))) (.cons (.set 10 (.lst (.cons (.tup (.cons (.str ii) (.cons (.nm 6) (.cons (.call 24 (.cons (.nm 0) (.cons (.int 100) .nil))) .nil)))) (.cons (.tup (.cons (.str "sum") edd)) (.cons (.tup (.cons (.str "less") edd)) (.cons (.tup ec5) (.cons (.tup (.cons (.str bv) (.cons (.nm 9) .nil))) .nil))))))) (.cons (.set 10 (.cat (.nm 10) (.lst (.cons (.tup (.cons (.str cr) (.cons (.nm 6) (.cons (.nm 9) .nil)))) (.cons (.tup (.cons (.str cr) (.cons (.nm 6) eep))) (.cons (.tup ec5) (.cons (.ix (.lst (.cons (.tup (.cons (.str bv) eep)) (.cons (.tup ed0) .nil))) ecm) .nil))))))) (.cons (.app 3 (.ix (.nm 10) (.nm 5))) .nil))))))))) (.cons (.ret (.nm 3)) .nil)))))⟩
def qc:Fn:=⟨[true],3,(.cons (.set 1 (.bop .sub (.int 4999) (.bop .mul ecm (.call 24 (.cons (.nm 0) (.cons (.int 4990) .nil)))))) (.cons (.set 2 (.ix (.lst (.cons (.int 0) (.cons (.bop .add (.int 1) ecg) (.cons ech eeh)))) eci)) (.cons (.ret (.tup (.cons (.nm 2) (.cons (.ix (.lst (.cons (.int 6) (.cons (.bop .add (.int 7) ecg) (.cons (.bop .add (.int 6) ech) eeh)))) eci) .nil)))) .nil)))⟩
def fQ:Fn:=⟨[false],1,(.cons (.ret (.and ecq (.cmp .gt ed7 (.int 99)))) .nil)⟩
def kY:Fn:=⟨[false,false,false],3,(.cons (.ret (.ife (.or (.call 28 edg) edv) (.int 2) (.int 1))) .nil)⟩
def i6:Fn:=⟨[false,false,false],9,(.cons (.par [3,4,5] (.cons (.lst .nil) ec6)) (.cons (.fr (.nm 6) ebr (.cons (.fr (.tp [7,8]) (.seq (.nm 2)) (.cons (.iff ed1 (.cons (.set 5 (.bop .add (.nm 5) (.bop .mul (.int 2) (.blt .int (.cons (.or edy eak) .nil))))) eab) .nil) .nil)) eac)) (.cons (.ret (.tup (.cons (.nm 3) (.cons (.nm 4) (.cons (.nm 5) .nil))))) .nil)))⟩
def F_l_too_short:Fn:=⟨[false,false,false,false],12,(.cons (.asg (.tp [4,5,6]) (.call 30 eb5)) (.cons (.par [7,8] (.cons ec4 ed4)) (.cons (.fr (.tp [9,10]) (.enm (.nm 0)) (.cons (.iff (.and ea0 edz) (.cons (.set 11 eae) (.cons (.iff eal (.cons (.app 8 (.nm 9)) .nil) .nil) .nil)) .nil) .nil)) (.cons (.ret (.nm 8)) .nil))))⟩
def F_late_plan:Fn:=⟨[false,false,false],14,(.cons (.asg (.tp [3,4,5,6]) (.tup (.cons (.lst .nil) (.cons (.dnew) ec6)))) (.cons (.fr (.nm 7) ebr (.cons (.set 8 ecb) (.cons (.iff (.and edq (.not (.nm 8))) (.cons (.set 9 (.call 33 (.cons (.nm 0) (.cons (.bop .add (.nm 7) (.int 1)) (.cons ea3 .nil))))) (.cons (.set 8 (.cmp .gt (.bop .sub (.nm 9) (.ix (.ix (.nm 5) (.int 0)) (.int 1))) (.ix (.nm 2) (.int 1)))) .nil)) .nil) (.cons (.iff (.and edq (.nm 8)) (.cons ebd (.cons ebe (.cons (.fr (.tp [11,12]) (.seq (.nm 5)) (.cons (.sdk 4 (.nm 11) edt) (.cons (.iff (.pin true eda 3 [.ix (1),.ix (-1)]) (.cons (.apd 3 [.ix (1),.ix (-1)] eda) .nil) .nil) .nil))) (.cons (.set 5 (.lst .nil)) (.cons ea8 .nil))))) .nil) (.cons (.iff ecb (.cons (.brk) .nil) .nil) (.cons (.iff ecx (.alo (.nen 3) 3 [.ix (1),.ix (-1)] [.ix (2),.ix (-1)] 13 10 (.cons (.iff eaj (.cons ecy .nil) (.cons (.iff ead (.cons (.app 13 ede) (.cons ecy (.cons (.set 6 edu) .nil))) (.cons (.app 5 (.tup edc)) .nil)) .nil)) .nil)) .nil) (.cons eay .nil))))))) (.cons (.ret (.tup (.cons eaq (.cons ebs .nil)))) .nil)))⟩
def gH:Fn:=⟨[false,false,false],3,(.cons (.set 2 (.bop .add (.nm 2) (.bop .mul (.int 2) (.blt .int (.cons eag .nil))))) eaz)⟩
def F_jumpy:Fn:=⟨[true],7,(.cons (.set 1 (.bop .add (.int 20) (.call 24 (.cons (.nm 0) (.cons (.ix (.lst (.cons (.int 20) (.cons (.int 81) .nil))) ecm) .nil))))) (.cons (.iff ebj (.cons (.set 1 (.int 120)) .nil) .nil) (.cons eem (.cons (.fr (.nm 3) (.rg1 (.nm 1)) (.cons ear (.cons (.iff (.and (.cmp .eq (.call 24 (.cons (.nm 0) (.cons (.ix (.lst (.cons (.int 9) (.cons (.int 4) .nil))) ecm) .nil))) (.int 0)) ecn) (.cons (.app 2 (.tup (.cons (.str ii) (.cons ecj ecz)))) .nil) (.cons (.app 2 (.ix (.lst (.cons (.tup (.cons (.str "tell") (.cons (.int 1) .nil))) (.cons (.tup (.cons (.str "sum") (.cons (.int 1) eef))) (.cons (.tup (.cons (.str ii) (.cons (.int 0) (.cons (.int 99) .nil)))) .nil)))) ecl)) .nil)) .nil))) (.cons (.fr (.nm 5) ea9 (.cons (.par [3,6] (.cons (.call 24 edb) ea6)) (.cons (.sti 2 (.nm 3) (.ix (.lst (.cons (.tup (.cons (.str bv) eej)) (.cons (.tup (.cons (.str cr) (.cons ecj eej))) .nil))) ecm)) .nil))) (.cons (.iff (.cmp .eq (.nm 1) (.int 120)) (.cons (.asg (.sb 2 1 118) (.tup (.cons (.tup (.cons (.str bv) (.cons (.int 120) .nil))) (.cons (.tup (.cons (.str cr) (.cons (.int 2) eed))) .nil)))) .nil) .nil) edx))))))⟩
def ou:Fn:=⟨[false,false],2,(.cons (.iff (.isi .seq (.nm 1)) (.cons (.iff (.or (.cmp .ne (.isi .list (.nm 0)) (.isi .list (.nm 1))) (.cmp .ne (.isi .tuple (.nm 0)) (.isi .tuple (.nm 1)))) edk .nil) (.cons (.iff eba edk .nil) (.cons (.ret (.blt .all (.cons (.comp 2 [] (.zip (.nm 0) (.nm 1)) (.tp [0,1]) .none ecp) .nil))) .nil))) .nil) (.cons (.iff (.or (.isn false (.nm 1)) (.isi .str (.nm 1))) (.cons (.ret (.and ed2 (.cmp .eq (.isi .str (.nm 0)) (.isi .str (.nm 1))))) .nil) .nil) (.cons (.iff (.isi .bool (.nm 1)) (.cons (.ret (.and (.isi .bool (.nm 0)) ed2)) .nil) .nil) (.cons (.ret (.and (.isi .int (.nm 0)) (.and (.not (.isi .bool (.nm 0))) ed2))) .nil))))⟩
def gY:Fn:=⟨[false,false,false],6,(.cons eeo (.cons (.whl (.bl true) (.cons (.set 4 ebo) (.cons (.set 5 eaw) eaf))) .nil))⟩
def F_law:Fn:=⟨[false],12,(.cons (.fr (.nm 1) (.rg1 (.bop .add (.int 1) ebb)) (.cons (.set 2 (.call 23 edb)) (.cons (.fr (.nm 3) eat (.cons (.par [4,5] (.cons edm (.cons (.bnw .list (.nm 3)) .nil))) (.cons (.fr (.nm 6) (.seq (.tup (.cons (.int 0) (.cons (.call 24 (.cons (.nm 2) (.cons (.ix (.lst (.cons (.int 40) (.cons (.int 500) .nil))) eco) .nil))) .nil)))) (.cons ebg (.cons ebh (.cons (.iff (.or (.not (.call 35 (.cons (.nm 8) eek))) (.cmp .ne (.nm 5) (.nm 3))) edk .nil) (.cons (.iff (.or (.cmp .ne (.call 19 (.cons (.nm 3) (.cons ed9 (.cons (.ix eea (.int 0)) eej)))) (.lst .nil)) (.cmp .ne (.call 17 (.cons (.nm 3) (.cons ed9 een))) eea)) edk .nil) (.cons (.set 9 (.comp 1 [] (.seq (.nm 3)) (.nm 0) .none (.ife ec8 (.nm 0) (.tup ebc)))) (.cons (.iff (.cmp .ne (.call 21 (.cons (.nm 9) edf)) (.tup (.cons (.call 20 (.cons (.nm 9) eej)) (.cons (.tup (.cons (.lst .nil) ed4)) .nil)))) edk .nil) .nil))))))) (.cons (.set 10 edm) (.cons (.fr (.nm 11) (.seq (.tup (.cons (.nm 10) een))) (.cons (.iff (.not (.call 35 (.cons (.call 21 eb0) (.cons (.call 36 eb0) .nil)))) edk .nil) .nil)) .nil))))) .nil))) edp)⟩
def i7:Df:=⟨nX,nX,top 2,[lf],[lf],iZ⟩
def jR:Df:=⟨ol,ol,top 3,[lf],[lf],jP⟩
def gZ:Df:=⟨oD,oD,top 4,[am],[am],gV⟩
def ja:Df:=⟨pc,pc,top 5,[am],[am],i4⟩
def qe:Df:=⟨pi,pi,top 6,[lf],[lf],kX⟩
def jS:Df:=⟨pp,pp,top 11,[am,bi,"at"],[am,bi,"at"],eP⟩
def jb:Df:=⟨pr,pr,top 12,[am,hF],[am,hF],fh⟩
def fR:Df:=⟨pu,pu,top 13,[am,hF,bm],[am,hF,bm],dD⟩
def mO:Df:=⟨rc,rc,top 14,[am,bi,re],[am,bi,re,dL,"places","begins",bm,hF],F_placed⟩
def cW:Df:=⟨IP,"Going.__init__",gU 0 (top 16),[dV,am,bi,bn],[dV,am,bi,bn],cV⟩
def eC:Df:=⟨"is_due","Going.is_due",gU 1 (top 16),[dV,hF],[dV,hF,"behind","first",bm],bJ⟩
def g6:Df:=⟨"lay","Going.lay",gU 2 (top 16),[dV,hF],[dV,hF,"numbers","at",bm],F_Going_lay⟩
def eW:Df:=⟨"finds","Going.finds",gU 3 (top 16),[dV,sn],[dV,sn],bV⟩
def dO:Df:=⟨"may_put","Going.may_put",gU 4 (top 16),[dV,sn],[dV,sn],bb⟩
def fS:Df:=⟨"come","Going.come",gU 5 (top 16),[dV,"at"],[dV,"at",sn],bK⟩
def eX:Df:=⟨"cross","Going.cross",gU 6 (top 16),[dV,hF],[dV,hF],bW⟩
def fT:Df:=⟨"plan","Going.plan",gU 7 (top 16),[dV],[dV,re],fP⟩
def g7:Df:=⟨sw,sw,top 17,[am,bi,bn],[am,bi,bn,"going",hF],gW⟩
def jc:Df:=⟨sK,sK,top 19,[lf,lv],[lf,lv],i5⟩
def g8:Df:=⟨ut,ut,top 20,[am,bi,re,lv],[am,bi,re,lv,"places","begins","end","goals","short"],gX⟩
def eY:Df:=⟨wp,wp,top 21,[am,lv],[am,lv,bi,"short"],eV⟩
def jT:Df:=⟨wr,wr,top 22,[am,bn,lv],[am,bn,lv,bi,"plan","short"],jQ⟩
def jU:Df:=⟨wv,wv,top 24,[hR,im],[hR,im],gG⟩
def vC:Df:=⟨ww,ww,top 25,[hR,im],[hR,im,"_law_cell"],vB⟩
def vD:Df:=⟨wP,wP,top 26,[hY,IQ],[hY,IQ,np,"_law_once"],oq⟩
def qf:Df:=⟨wS,wS,top 27,[hY],[hY,"_law_way","_law_any_one"],qb⟩
def vE:Df:=⟨wT,wT,top 28,[hY],[hY,IQ,"_law_share","_law_made_rows","_law_number","_law_way","_law_r","_law_s","_law_t","_law_near","_law_some"],F_rows⟩
def qg:Df:=⟨xz,xz,top 30,[hY],[hY,"_law_any_one","_law_back"],qc⟩
def fU:Df:=⟨xL,xL,top 31,["_law_row"],["_law_row"],fQ⟩
def vF:Df:=⟨zn,zn,top 32,[eH,kt,im],[eH,kt,im],kY⟩
def jd:Df:=⟨At,At,top 33,[eH,kt,AT],[eH,kt,AT,"_law_places","_law_begins",IR,IS,"_law_at","_law_numbers"],i6⟩
def eZ:Df:=⟨BT,BT,top 34,[eH,kt,AT,Ch],[eH,kt,AT,Ch,"_law_places","_law_begins","_law_end","_law_goals",np,im,"_law_row","_law_far"],F_l_too_short⟩
def g9:Df:=⟨Db,Db,top 35,[eH,kt,Ev],[eH,kt,Ev,AT,"_law_uses","_law_late",IR,IS,IT,"_law_behind","_law_begin",im,"_law_spot","_law_numbers"],F_late_plan⟩
def jV:Df:=⟨EQ,EQ,top 36,[eH,IS,IR],[eH,IS,IR],gH⟩
def qh:Df:=⟨Fa,Fa,top 37,[hY],[hY,IQ,np,im,"_law_greats","_law_turn","_law_t"],F_jumpy⟩
def vG:Df:=⟨Go,Go,top 38,[np,IT],[np,IT],ou⟩
def hU:Df:=⟨Ix,Ix,top 39,[eH,Ev,Ch],[eH,Ev,Ch,kt,"_law_plan","_law_late"],gY⟩
def D_law:Df:=⟨lw,lw,top 40,[hR],[hR,im,hY,eH,Ev,"_law_handed",Ch,IT,np,"_law_small","_law_other","_law_one"],F_law⟩
def pl:Pl where
 ds:=[(i7,.fn),(jR,.fn),(gZ,.fn),(ja,.fn),(qe,.fn),(jS,.fn),(jb,.fn),(fR,.fn),(mO,.fn),(cW,.ini ac),(eC,.me ac),(g6,.me ac),(eW,.me ac),(dO,.me ac),(fS,.me ac),(eX,.me ac),(fT,.me ac),(g7,.fn),(jc,.fn),(g8,.fn),(eY,.fn),(jT,.fn),(jU,.fn),(vC,.fn),(vD,.fn),(qf,.fn),(vE,.fn),(qg,.fn),(fU,.fn),(vF,.fn),(jd,.fn),(eZ,.fn),(g9,.fn),(jV,.fn),(qh,.fn),(vG,.fn),(hU,.fn),(D_law,.fn)]
 cs:=[("FARTHEST_NIL",.int 99),("GREATEST_SMALL",.int 99),("OVER_CELLS",.int 2),("WORD_CELLS",.int 2)]
 nog:=["abs","all","bool","enumerate","int","isinstance","len","list","max","min","range","sorted","str","tuple","zip"]
 fld:=[(ac,em),(ac,ci),(ac,bi),(ac,bm),(ac,bn),(ac,am),(ac,ga),(ac,hL),(ac,dL)]
abbrev Fd:Nat:=37
def Fe:(pl.ds.all λz=>yx pl.tb z.1)=true:=by decide +kernel
abbrev It(i:Int):OD:=.fz (.int i)
abbrev IU(i:Int):Option OD:=some (It i)
abbrev Tp(a b c:Int):OD:=.lst [It a,It b,It c]
structure TpOk (b c:Int)(n:Nat):Prop where
 b0:0<=b
 b1:b<2147483629
 c0:0<=c
 c1:c<=n
def cN{i j:Int}(h:(-(2^64)<i/\i<2^64)\/(-(2^64)<j/\j<2^64)):xK .mul (.int i) (.int j)=some (.int (i*j)):=bs rfl (bs rfl (bs (bg h rfl) rfl))
def cO{i j:Int}(h:0<j):xK .mod (.int i) (.int j)=some (.int (i%j)):=bs rfl (bs rfl (bs (bg h rfl) rfl))
def vH{i j:Int}(h:0<j/\j<1073741824):xK .fdiv (.int i) (.int j)=some (.int (i/j)):=bs rfl (bs rfl (bs (bg h rfl) rfl))
def Fg{x m:Int}(a:0<m)(h:m<=2^64):-(2^64)<x%m/\x%m<2^64:=by have c:=abo x (show m≠0 by omega);have b:=abp x a;omega
def up{m a k b:Nat}(h:m<=a)(e:Nat.ble (a+k) b=true):m+k<=b:=aan (acv h k) (acw e)
def upA{m k b:Nat}(e:Nat.ble k b=true):m+k<=m+b:=acd (acw e) m
def ax{n m:Nat}{a b c many:Int}(h:TpOk b c m)(q:m<=1000000)(d:0<many)(l:many<1073741824):∃x j e g,pl.pg.call (n+1) 24 [Tp a b c,It many]=some (It x,[Tp j e g,It many])/\0<=x/\x<many/\TpOk e g (m+1):=by
 have o:=h.b0;have k:=h.b1;have p:=h.c0;have i:=h.c1;by_cases f:0<a
 ·refine⟨a%many,a/many,b,c,?_,abo _ (by omega),abp _ d,⟨h.b0,h.b1,h.c0,by omega⟩⟩;refine ai (fn:=oq) (ρ:=[some (Tp (a/many) b c),IU many,IU (a%many),none]) rfl rfl ?_ rfl;refine aC (aH (aj (ar rfl rfl rfl rfl (show some (decide (0<a))=some true by rw[Dac f]))) ?_);refine ab (ah (ag rfl rfl rfl rfl (cO d)) rfl rfl rfl) ?_;refine ab (kW (ag rfl rfl rfl rfl (vH ⟨d,l⟩)) rfl rfl rfl rfl rfl rfl rfl) rfl
 ·exact⟨_,a,_,c+1,ai (fn:=oq) rfl rfl (ab (az (aj (ar rfl rfl rfl rfl (show some (decide (0<a))=some false by rw[Dab f]))) rfl) (ab (kW rfl rfl rfl rfl rfl rfl rfl rfl) (ab (ah (ag (ag (ag rfl (ag rfl rfl rfl rfl (cN (.inl (by decide)))) rfl rfl rfl) (ag rfl rfl rfl rfl rfl) rfl rfl (cN (.inr (by omega)))) rfl rfl rfl (cO (by decide))) rfl rfl rfl) (ab (kW (ag (ag (ag rfl (ag (ag rfl rfl rfl rfl (cO (by decide))) rfl rfl rfl rfl) rfl rfl (cN (.inl (Fg (by decide) (by decide))))) rfl rfl rfl rfl) rfl rfl rfl (cO (by decide))) rfl rfl rfl rfl rfl rfl rfl) (aC (aq (ag (ag (ag (ag rfl (ag (ag rfl rfl rfl rfl (cO (by decide))) rfl rfl rfl rfl) rfl rfl (cN (.inl (Fg (by decide) (by decide))))) rfl rfl rfl (cO (by decide))) rfl rfl rfl (vH (by decide))) rfl rfl rfl (cO d)) rfl)))))) rfl,abo _ (by omega),abp _ d,⟨abo _ (by decide),abp _ (by decide),by omega,by omega⟩⟩
def BZ{n:Nat}{ns:List Int}{k:Nat}:∃x,pl.pg.call (n+1) 22 [.fz (.list (ns.map PyData.int)),It k]=some (It x,[.fz (.list (ns.map PyData.int)),It k]):=by
 by_cases b:(k:Int)<ns.length
 ·have a:k<ns.length:=by omega
  refine⟨ns[k],ai (fn:=gG) rfl rfl (aC (aq (fN (aj (ar rfl rfl rfl rfl (k:=true) ?_)) (aN rfl rfl rfl (bS (jO (x:=.int ns[k]) ?_)))) rfl)) rfl⟩
  ·show some (decide ((k:Int)<((ns.map PyData.int).length:Nat)))=some true;rw[aaa,Dac b]
  ·rw[aav,aap a];rfl
 ·refine⟨0,ai (fn:=gG) rfl rfl (aC (aq (jL (aj (ar rfl rfl rfl rfl (k:=false) ?_)) rfl) rfl)) rfl⟩;show some (decide ((k:Int)<((ns.map PyData.int).length:Nat)))=some false;rw[aaa,Dab b]
def B3{n:Nat}{ns:List Int}{k:Nat}(hk:k<=8):∃a b,pl.pg.call (n+2) 23 [.fz (.list (ns.map PyData.int)),It k]=some (Tp a b 0,[.fz (.list (ns.map PyData.int)),It k])/\TpOk b 0 0:=by obtain⟨x,c⟩:=BZ (n:=n) (ns:=ns) (k:=k);refine⟨_,_,ai (fn:=vB) rfl rfl (ab (ah (ae rfl rfl c rfl) rfl rfl rfl) (aC (aq (cG (aa (ag rfl (aX (aa (ar rfl (ag rfl rfl rfl rfl rfl) rfl rfl rfl) af) rfl rfl) rfl rfl (cN (.inr ?_))) (aa (ag (ag (ag (ag (ag rfl rfl rfl rfl (cO (by decide))) (ag rfl rfl rfl rfl (cN (.inl (by decide)))) rfl rfl rfl) rfl rfl rfl rfl) rfl rfl rfl (cN (.inr (by decide)))) rfl rfl rfl (cO (by decide))) (aa rfl af))) rfl rfl) rfl))) rfl,abo _ (by decide),abp _ (by decide),Int.le_refl _,Int.le_refl _⟩;exact(show ∀q:Bool,-(2^64)<(if q=true then (1:Int) else 0)/\(if q=true then (1:Int) else 0)<2^64 by decide) _
def dE{ks:List Int}{i:Int}(d:0<=i)(c:i<ks.length):∃k,k∈ks/\atI (ks.map It) i=IU k:=by obtain⟨x,a,e⟩:=qa (xs:=ks.map It) d (by rw[aaa];exact c);obtain⟨k,b,rfl⟩:=aay.mp a;exact⟨k,b,e⟩
def TpOk.up{b c:Int}{m a:Nat}(h:TpOk b c m)(d:m<=a):TpOk b c a:=⟨h.b0,h.b1,h.c0,by have:=h.c1;omega⟩
def qi{n m:Nat}{a b c:Int}(h:TpOk b c m)(e:m<=900000):∃k J p q,pl.pg.call (n+2) 25 [Tp a b c]=some (It k,[Tp J p q])/\100<=k/\TpOk p q (m+4):=by
 obtain⟨w,L,W,c1,v,P,s,t⟩:=ax (n:=n) (a:=a) (many:=4) h (up (k:=0) e rfl) (by decide) (by decide);obtain⟨C,M,b2,Y,y,i,_,Q⟩:=ax (n:=n) (a:=L) (many:=99999900) t (up (k:=1) e rfl) (by decide) (by decide);obtain⟨Z,S,U,X,H,l,o,z⟩:=ax (n:=n) (a:=M) (many:=5) Q (up (k:=2) e rfl) (by decide) (by decide);obtain⟨A,D,T,N,F,f,u,O⟩:=ax (n:=n) (a:=S) (many:=6) z (up (k:=3) e rfl) (by decide) (by decide);obtain⟨g,B,r⟩:=dE (ks:=[100,101,12345,10000,9999]) l o;obtain⟨k,d,I⟩:=dE (ks:=[g,100+A,100+C,99999999]) P s;refine⟨k,D,T,N,ai (fn:=qb) rfl rfl (ab (ah (ae rfl rfl v rfl) rfl rfl rfl) (ab (ah (ag rfl (ae rfl rfl y rfl) rfl rfl rfl) rfl rfl rfl) (aC (aq (aN (cG (aa (aN rfl (ae rfl rfl H rfl) rfl (cR r)) (aa (ag rfl (ae rfl rfl F rfl) rfl rfl rfl) (aa rfl (aa rfl af)))) rfl rfl) rfl rfl (cR I)) rfl)))) rfl,?_,O⟩;have j:100<=g:=(show ∀x∈[100,101,12345,10000,9999],(100:Int)<=x by decide) g B;rcases aab.mp d with rfl|d
 ·exact j
 rcases aab.mp d with rfl|d
 ·exact acx f
 rcases aab.mp d with rfl|d
 ·exact acx i
 rw[aaz.mp d];decide
def qj{n m:Nat}{a b c:Int}(h:TpOk b c m)(f:m<=900000):∃r0 r1 a' w D,pl.pg.call (n+2) 27 [Tp a b c]=some (.fz (.tuple [.int r0,.int r1]),[Tp a' w D])/\TpOk w D (m+8)/\6<=r1/\r1<=10000/\0<=r0/\r0<=10000:=by
 obtain⟨d,y,b1,c1,e1,b0,d5,Q⟩:=ax (n:=n) (a:=a) (many:=2) h (up (k:=0) f rfl) (by decide) (by decide);obtain⟨e,q,x,P,e2,d2,S,t2⟩:=ax (n:=n) (a:=y) (many:=4990) Q (up (k:=1) f rfl) (by decide) (by decide);obtain⟨u,L,b3,c3,U,Z,a0,t3⟩:=ax (n:=n) (a:=q) (many:=12) t2 (up (k:=2) f rfl) (by decide) (by decide);obtain⟨N,O,b4,X,e4,W,d1,t4⟩:=ax (n:=n) (a:=L) (many:=80) t3 (up (k:=3) f rfl) (by decide) (by decide);obtain⟨x5,l,C,H,e5,o,s,t5⟩:=ax (n:=n) (a:=O) (many:=4) t4 (up (k:=4) f rfl) (by decide) (by decide);obtain⟨v,J,b6,c6,e6,d6,c0,t6⟩:=ax (n:=n) (a:=l) (many:=12) t5 (up (k:=5) f rfl) (by decide) (by decide);obtain⟨t,I,b7,c7,e7,d3,d0,T⟩:=ax (n:=n) (a:=J) (many:=80) t6 (up (k:=6) f rfl) (by decide) (by decide);obtain⟨x8,B,A,M,e8,p,r,Y⟩:=ax (n:=n) (a:=I) (many:=4) T (up (k:=7) f rfl) (by decide) (by decide);obtain⟨g,j,eg⟩:=dE (ks:=[0,1+u,N,4999-d*e]) o s;obtain⟨k,i,ek⟩:=dE (ks:=[6,7+v,6+t,4999-d*e]) p r;have hx:d=0\/d=1:=by omega
 have d4:0<=d*e/\d*e<4990:=by
  rcases hx with rfl|rfl
  ·rw[Int.zero_mul];omega
  ·rw[Int.one_mul];omega
 have F:6<=k/\k<=10000:=by
  rcases aab.mp i with rfl|i
  ·omega
  rcases aab.mp i with rfl|i
  ·omega
  rcases aab.mp i with rfl|i
  ·omega
  rw[aaz.mp i];omega
 have z:0<=g/\g<=10000:=by
  rcases aab.mp j with rfl|j
  ·omega
  rcases aab.mp j with rfl|j
  ·omega
  rcases aab.mp j with rfl|j
  ·omega
  rw[aaz.mp j];omega
 exact⟨g,k,B,A,M,ai (fn:=qc) rfl rfl (ab (ah (ρ3:=[some (Tp q x P),IU (4999-d*e),none]) (ag rfl (ag (ae (ρ3:=[some (Tp y b1 c1),none,none]) rfl rfl e1 rfl) (ae (ρ3:=[some (Tp q x P),none,none]) rfl rfl e2 rfl) rfl rfl (cN (.inl (by omega)))) rfl rfl rfl) rfl rfl rfl) (ab (ah (ρ3:=[some (Tp l C H),IU (4999-d*e),IU g]) (aN (cG (zs:=[It 0,It (1+u),It N,It (4999-d*e)]) (aa rfl (aa (ag rfl (ae (ρ3:=[some (Tp L b3 c3),IU (4999-d*e),none]) rfl rfl U rfl) rfl rfl rfl) (aa (ae (ρ3:=[some (Tp O b4 X),IU (4999-d*e),none]) rfl rfl e4 rfl) (aa rfl af)))) rfl rfl) (ae (ρ3:=[some (Tp l C H),IU (4999-d*e),none]) rfl rfl e5 rfl) rfl (cR eg)) rfl rfl rfl) (aC (aq (bM (aa rfl (aa (aN (cG (zs:=[It 6,It (7+v),It (6+t),It (4999-d*e)]) (aa rfl (aa (ag rfl (ae (ρ3:=[some (Tp J b6 c6),IU (4999-d*e),IU g]) rfl rfl e6 rfl) rfl rfl rfl) (aa (ag rfl (ae (ρ3:=[some (Tp I b7 c7),IU (4999-d*e),IU g]) rfl rfl e7 rfl) rfl rfl rfl) (aa rfl af)))) rfl rfl) (ae (ρ3:=[some (Tp B A M),IU (4999-d*e),IU g]) rfl rfl e8 rfl) rfl (cR ek)) af)) rfl rfl rfl) rfl)))) rfl,Y,F.1,F.2,z.1,z.2⟩
inductive R where|st (r k:Int)|ot (w:Str) (xs:List Int) (h:w≠ii/\PyData.strOk w=true)
abbrev mP(a b:Int):R:=.ot "sum" [a,b] (by decide +kernel)
abbrev je(a b:Int):R:=.ot "less" [a,b] (by decide +kernel)
abbrev dP(a:Int):R:=.ot "tell" [a] (by decide +kernel)
abbrev oGo(a:Int):R:=.ot bv [a] (by decide +kernel)
abbrev cX(a b:Int):R:=.ot cr [a,b] (by decide +kernel)
abbrev Fh:R:=.ot lc [] (by decide +kernel)
def R.d:R->PyData|.st r k=>.tuple [.str ii,.int r,.int k]|.ot w xs _=>.tuple (.str w::xs.map PyData.int)
def R.jm:R->Bool|.st _ _=>false|.ot w _ _=>decide (w=bv)||decide (w=cr)
def R.tg:R->Int|.st _ _=>0|.ot _ xs _=>xs.getLastD 0
abbrev Jok(N:Int)(r:R):Prop:=r.jm=true->0<=r.tg/\r.tg<=N/\∃ys,r.d=.tuple (ys++[.int r.tg])
abbrev Nb(N:Int)(rs:List R):Prop:=∀r∈rs,Jok N r
def Nb.snoc{N:Int}{rs:List R}{r:R}(h:Nb N rs)(b:Jok N r):Nb N (rs++[r]):=λx a=>by
 rcases aak.mp a with a|a
 ·exact h x a
 ·rw[aaz.mp a];exact b
def yC{N a:Int}(c:0<=a)(b:a<=N):Jok N (oGo a):=λ_=>⟨c,b,[.str bv],rfl⟩
def qk{N r a:Int}(c:0<=a)(b:a<=N):Jok N (cX r a):=λ_=>⟨c,b,[.str cr,.int r],rfl⟩
def kZ{N:Int}{r:R}(h:r.jm=false):Jok N r:=λz=>by rw[h]at z;cases z
abbrev Rs(rs:List R):OD:=.lst (rs.map λr=>.fz r.d)
def ql{rs:List R}{i:Int}(f:0<=i)(c:i<rs.length):∃r,r∈rs/\atI (rs.map λr=>OD.fz r.d) i=some (.fz r.d):=by obtain⟨x,b,e⟩:=qa (xs:=rs.map λr=>OD.fz r.d) f (by rw[aaa];exact c);obtain⟨r,a,rfl⟩:=aay.mp b;exact⟨r,a,e⟩
def yD{ρ:DEnv}{j:Nat}{rs:List R}{i:Int}{r:R}(h:ρ[j]?.join=some (Rs rs))(e:atI (rs.map λr=>OD.fz r.d) i=some (.fz r.d)):bu ρ (.rf j) i=some (.fz r.d,ρ):=by
 obtain⟨k,b,a⟩:=bnd e;have c:itemS (Rs rs) i=some (r.d,Rs rs):=by simp only[Rs,itemS,b,a,OD.dat];rw[bD a]
 simp only[bu,h,c];rw[set_self (join_some h)]
def k4{rs:List R}{r:R}:Rs (rs++[r])=.lst ((rs.map λr=>OD.fz r.d)++[.fz r.d]):=by rw[Rs,aax];rfl
abbrev IV:=pl.pg.ct
def sv{n m:Nat}{a b c many share i:Int}{rs:List R}{o4 o5 o6 o7 o8 o9 o10:Option OD}(h:TpOk b c m)(q:m<=100000)(hl:rs.length<=1000)(m0:0<=many)(m1:many<=100):
  ∃T B,((aW (.nm 4) (.fz (.int i)) [some (Tp a b c),IU many,IU share,some (Rs rs),o4,o5,o6,o7,o8,o9,o10]).bind λρ1=>aw (IV (n+2)) (match F_rows.body with|.cons _ (.cons _ (.cons _ (.cons (.fr _ _ b) _)))=>b|_=>.nil) ρ1)=some (T,B)/\(T=.nx\/T=.ct)/\∃(r:R) (a' b' c':Int) (p4 p5 p6 p7 p8 p9 a0:Option OD),B=[some (Tp a' b' c'),IU many,IU share,some (Rs (rs++[r])),p4,p5,p6,p7,p8,p9,a0]/\Jok many r/\TpOk b' c' (m+8):=by
 obtain⟨s,W,b1,c1,e1,d1,d7,t1⟩:=ax (n:=n+1) (a:=a) (many:=10) h (up (k:=0) q rfl) (by decide) (by decide);obtain⟨e,w,H,M,e2,d5,c0,t2⟩:=ax (n:=n+1) (a:=W) (many:=5) t1 (up (k:=1) q rfl) (by decide) (by decide);by_cases hw:s<share
 ·obtain⟨g,v,x,y,O,g0,Y⟩:=qi (n:=n) (a:=w) t2 (up (k:=2) q rfl);refine⟨.ct,_,bs rfl (ab (fg (ρ3:=[some (Tp w H M),IU many,IU share,some (Rs rs),IU i,IU s,IU e,o7,o8,o9,o10]) (aa (ae (ρ3:=[some (Tp W b1 c1),IU many,IU share,some (Rs rs),IU i,o5,o6,o7,o8,o9,o10]) rfl rfl e1 rfl) (aa (ae (ρ3:=[some (Tp w H M),IU many,IU share,some (Rs rs),IU i,o5,o6,o7,o8,o9,o10]) rfl rfl e2 rfl) af)) rfl rfl rfl) (Ho (aH (aj (ar rfl rfl rfl rfl (show some (decide (s<share))=some true by rw[Dac hw]))) (ab (bP (ρ3:=[some (Tp v x y),IU many,IU share,some (Rs (rs++[.st e g])),IU i,IU s,IU e,o7,o8,o9,o10]) (xs:=rs.map λr=>.fz r.d) rfl (bM (z:=.fz (R.st e g).d) (aa rfl (aa rfl (aa (ae (ρ3:=[some (Tp v x y),IU many,IU share,some (Rs rs),IU i,IU s,IU e,o7,o8,o9,o10]) rfl rfl O rfl) af))) rfl rfl rfl) rfl rfl (by rw[aaa];omega) (by rw[k4];rfl)) rfl)))),.inr rfl,.st e g,v,x,y,IU i,IU s,IU e,o7,o8,o9,o10,rfl,kZ rfl,Y.up (upA (k:=6) rfl)⟩
 ·obtain⟨p,v,x,y,O,P,Q,Y⟩:=ax (n:=n+1) (a:=w) (many:=9) t2 (up (k:=2) q rfl) (by decide) (by decide);obtain⟨j,a4,b4,c4,e4,d0,d4,t4⟩:=ax (n:=n+1) (a:=v) (many:=5) Y (up (k:=3) q rfl) (by decide) (by decide);obtain⟨o,N,b5,c5,e5,A,D,t5⟩:=ax (n:=n+1) (a:=a4) (many:=many+1) t4 (up (k:=4) q rfl) (by omega) (by omega);obtain⟨F,a6,b6,c6,e6,d8,d2,t6⟩:=ax (n:=n+1) (a:=N) (many:=7) t5 (up (k:=5) q rfl) (by decide) (by decide);obtain⟨t,Z,b7,c7,e7,d6,d3,t7⟩:=ax (n:=n+1) (a:=a6) (many:=100) t6 (up (k:=6) q rfl) (by decide) (by decide);obtain⟨x8,J,I,L,e8,U,b0,t8⟩:=ax (n:=n+1) (a:=Z) (many:=2) t7 (up (k:=7) q rfl) (by decide) (by decide);obtain⟨C,S,e9⟩:=ql (rs:=[oGo o,Fh]) U b0;obtain⟨f,u⟩:∃f:Int,f=(if (if i+F-2<many then i+F-2 else many)>0 then (if i+F-2<many then i+F-2 else many) else 0):=⟨_,rfl⟩
  obtain⟨r,l,X⟩:=ql (rs:=[.st e t,mP e j,je e j,dP e,oGo f,cX e f,cX e o,dP e,C]) P Q;have n0:0<=f:=by rw[u];split<;>omega
  have n1:f<=many:=by rw[u];split<;>(try split)<;>omega
  have hb:Jok many r:=by
   have n8:Jok many C:=by
    rcases aab.mp S with rfl|S
    ·exact yC A (Int.lt_add_one_iff.mp D)
    ·rw[aaz.mp S];exact kZ rfl
   rcases aab.mp l with rfl|l;exact kZ rfl;rcases aab.mp l with rfl|l;exact kZ rfl;rcases aab.mp l with rfl|l;exact kZ rfl;rcases aab.mp l with rfl|l;exact kZ rfl;rcases aab.mp l with rfl|l;exact yC n0 n1;rcases aab.mp l with rfl|l;exact qk n0 n1;rcases aab.mp l with rfl|l;exact qk A (Int.lt_add_one_iff.mp D);rcases aab.mp l with rfl|l;exact kZ rfl;rw[aaz.mp l];exact n8
  refine⟨.nx,_,bs rfl (ab (fg (ρ3:=[some (Tp w H M),IU many,IU share,some (Rs rs),IU i,IU s,IU e,o7,o8,o9,o10]) (aa (ae (ρ3:=[some (Tp W b1 c1),IU many,IU share,some (Rs rs),IU i,o5,o6,o7,o8,o9,o10]) rfl rfl e1 rfl) (aa (ae (ρ3:=[some (Tp w H M),IU many,IU share,some (Rs rs),IU i,o5,o6,o7,o8,o9,o10]) rfl rfl e2 rfl) af)) rfl rfl rfl) (ab (az (aj (ar rfl rfl rfl rfl (show some (decide (s<share))=some false by rw[Dab hw]))) rfl) ?_)),.inl rfl,r,J,I,L,IU i,IU p,IU e,IU j,IU o,IU f,some (Rs [.st e t,mP e j,je e j,dP e,oGo f,cX e f,cX e o,dP e,C]),rfl,hb,t8⟩;refine ab (ah (ρ3:=[some (Tp v x y),IU many,IU share,some (Rs rs),IU i,IU p,IU e,o7,o8,o9,o10]) (ae (ρ3:=[some (Tp v x y),IU many,IU share,some (Rs rs),IU i,IU s,IU e,o7,o8,o9,o10]) rfl rfl O rfl) rfl rfl rfl) ?_;refine ab (fg (ρ3:=[some (Tp N b5 c5),IU many,IU share,some (Rs rs),IU i,IU p,IU e,IU j,IU o,o9,o10]) (aa (ae (ρ3:=[some (Tp a4 b4 c4),IU many,IU share,some (Rs rs),IU i,IU p,IU e,o7,o8,o9,o10]) rfl rfl e4 rfl) (aa (ae (ρ3:=[some (Tp N b5 c5),IU many,IU share,some (Rs rs),IU i,IU p,IU e,o7,o8,o9,o10]) rfl rfl e5 rfl) af)) rfl rfl rfl) ?_;refine ab (ah (ρ3:=[some (Tp a6 b6 c6),IU many,IU share,some (Rs rs),IU i,IU p,IU e,IU j,IU o,IU f,o10]) (aX (aa rfl (aa (aX (aa rfl (aa (ag (ag rfl (ae (ρ3:=[some (Tp a6 b6 c6),IU many,IU share,some (Rs rs),IU i,IU p,IU e,IU j,IU o,o9,o10]) rfl rfl e6 rfl) rfl rfl rfl) rfl rfl rfl rfl) af)) rfl rfl) af)) rfl (show _=some (PyData.int f) by rw[u];rfl)) rfl rfl rfl) ?_;refine ab (ah (ρ3:=[some (Tp Z b7 c7),IU many,IU share,some (Rs rs),IU i,IU p,IU e,IU j,IU o,IU f,some (Rs [.st e t,mP e j,je e j,dP e,oGo f])]) (cG (zs:=[.fz (R.st e t).d,.fz (mP e j).d,.fz (je e j).d,.fz (dP e).d,.fz (oGo f).d]) (aa (bM (z:=.fz (R.st e t).d) (aa rfl (aa rfl (aa (ae (ρ3:=[some (Tp Z b7 c7),IU many,IU share,some (Rs rs),IU i,IU p,IU e,IU j,IU o,IU f,o10]) rfl rfl e7 rfl) af))) rfl rfl rfl) (aa rfl (aa rfl (aa rfl (aa rfl af))))) rfl rfl) rfl rfl rfl) ?_;refine ab (ah (ρ3:=[some (Tp J I L),IU many,IU share,some (Rs rs),IU i,IU p,IU e,IU j,IU o,IU f,some (Rs [.st e t,mP e j,je e j,dP e,oGo f,cX e f,cX e o,dP e,C])]) (pX rfl (cG (aa rfl (aa rfl (aa rfl (aa (aN rfl (ae (ρ3:=[some (Tp J I L),IU many,IU share,some (Rs rs),IU i,IU p,IU e,IU j,IU o,IU f,some (Rs [.st e t,mP e j,je e j,dP e,oGo f])]) rfl rfl e8 rfl) rfl (cR e9)) af)))) rfl rfl) rfl rfl (show 9<=1000000 by decide)) rfl rfl rfl) ?_;exact ab (bP (ρ3:=[some (Tp J I L),IU many,IU share,some (Rs (rs++[r])),IU i,IU p,IU e,IU j,IU o,IU f,some (Rs [.st e t,mP e j,je e j,dP e,oGo f,cX e f,cX e o,dP e,C])]) (xs:=rs.map λr=>.fz r.d) rfl (aN rfl rfl rfl (yD rfl X)) rfl rfl (by rw[aaa];omega) (by rw[k4];rfl)) rfl
def gI{a:Int}{n:Nat}:∀d∈cC a n,∃i,d=.int i:=λd b=>by obtain⟨i,_,rfl⟩:=aay.mp b;exact⟨_,rfl⟩
def sx{n m:Nat}{a b c many sh:Int}(h:TpOk b c (m+3))(Q:m<=90000)(A:0<=many)(F:many<=60):∃(rs:List R) (p j l:Int) (o4 o5 o6 o7 o8 o9 o10:Option OD),bE (λd f=>(aW (.nm 4) (.fz d) f).bind λρ1=>aw (IV (n+2)) (match F_rows.body with|.cons _ (.cons _ (.cons _ (.cons (.fr _ _ b) _)))=>b|_=>.nil) ρ1) (cC 0 many.toNat) [some (Tp a b c),IU many,IU sh,some (Rs []),none,none,none,none,none,none,none]=some (.nx,[some (Tp p j l),IU many,IU sh,some (Rs rs),o4,o5,o6,o7,o8,o9,o10])/\rs.length<=60/\Nb rs.length rs/\TpOk j l (m+500):=by
 have s:many.toNat<=60:=by omega
 have o:many<=100:=Int.le_trans F (by decide);obtain⟨f,B,rs,O,L,J,o4,o5,o6,o7,o8,o9,o10,rfl,g,_,q,S⟩:=gF (step:=λd f=>(aW (.nm 4) (.fz d) f).bind λρ1=>aw (IV (n+2)) (match F_rows.body with|.cons _ (.cons _ (.cons _ (.cons (.fr _ _ b) _)))=>b|_=>.nil) ρ1)
  (λds ρ=>∃(rs:List R) (a b c:Int) (o4 o5 o6 o7 o8 o9 o10:Option OD),ρ=[some (Tp a b c),IU many,IU sh,some (Rs rs),o4,o5,o6,o7,o8,o9,o10]/\rs.length+ds.length=many.toNat/\(∀d∈ds,∃i,d=.int i)/\Nb many rs/\TpOk b c (m+3+8*rs.length)) (λd ds ρ=>by
   rintro⟨rs,a,b,c,o4,o5,o6,o7,o8,o9,o10,rfl,g,x,q,t⟩;obtain⟨i,rfl⟩:=x _ aai;have k:rs.length<=60:=aan (Nat.le.intro g) s;obtain⟨D,f,e,P,r,p,j,l,H,T,z,I,M,N,u,rfl,y,C⟩:=sv (n:=n) (share:=sh) (i:=i) (a:=a) (o4:=o4) (o5:=o5) (o6:=o6) (o7:=o7) (o8:=o8) (o9:=o9) (o10:=o10) t (aan (Nat.add_le_add (acv Q 3) (acy 8 k)) (by decide)) (aan k (by decide):rs.length<=1000) A o;have w:(rs++[r]).length=rs.length+1:=aal;exact⟨D,_,e,P,rs++[r],p,j,l,H,T,z,I,M,N,u,rfl,by rw[w,Nat.add_right_comm];exact g,λd v=>x d (aah _ v),q.snoc y,C.up (by rw[w];exact aag _)⟩)
  (ds:=cC 0 many.toNat) (ρ:=[some (Tp a b c),IU many,IU sh,some (Rs []),none,none,none,none,none,none,none]) ⟨[],a,b,c,none,none,none,none,none,none,none,rfl,by rw[fB,aaX,aaO],gI,(λr k=>absurd k aaw),h⟩
 have g:rs.length=many.toNat:=g;exact⟨rs,O,L,J,o4,o5,o6,o7,o8,o9,o10,B,g▸s,(show (rs.length:Int)=many by omega)▸q,S.up (aan (acd (acy 8 (g▸s)) (m+3)) (acd (show 3+8*60<=500 by decide) m))⟩
def B4{n m:Nat}{a b c:Int}(h:TpOk b c m)(w:m<=90000):∃(rs:List R) (J l t:Int),pl.pg.call (n+3) 26 [Tp a b c]=some (Rs rs,[Tp J l t])/\rs.length<=60/\Nb rs.length rs/\TpOk l t (m+500):=by
 have s:∀(a b c many:Int),TpOk b c (m+2)->0<=many->many<=60->∃(rs:List R) (J l t:Int) (D:DEnv),aw (IV (n+2)) (match F_rows.body with|.cons _ ss=>ss|_=>.nil) [some (Tp a b c),IU many,none,none,none,none,none,none,none,none,none]=some (.rt (Rs rs),some (Tp J l t)::D)/\rs.length<=60/\Nb rs.length rs/\TpOk l t (m+500):=by intro a b c many h P Q;obtain⟨A,f,i,j,z,r,o,y⟩:=ax (n:=n+1) (a:=a) (many:=3) h (up (k:=2) w rfl) (by decide) (by decide);obtain⟨sh,_,S⟩:=dE (ks:=[2,5,9]) r o;obtain⟨rs,g,e,d,Y,Z,W,X,T,U,O,p,v,u,x⟩:=sx (n:=n) (a:=f) (sh:=sh) y w P Q;exact⟨rs,g,e,d,_,ab (ah (ρ3:=[some (Tp f i j),IU many,IU sh,none,none,none,none,none,none,none,none]) (aN rfl (ae (ρ3:=[some (Tp f i j),IU many,none,none,none,none,none,none,none,none,none]) rfl rfl z rfl) rfl (cR S)) rfl rfl rfl) (ab (ah (ρ3:=[some (Tp f i j),IU many,IU sh,some (Rs []),none,none,none,none,none,none,none]) rfl rfl rfl rfl) (ab (cp (dA rfl rfl (by omega)) p) (aC (aq rfl rfl)))),v,u,x⟩
 obtain⟨A,f,i,j,z,r,o,y⟩:=ax (n:=n+1) (a:=a) (many:=8) h (up (k:=0) w rfl) (by decide) (by decide);by_cases N:A=0
 ·obtain⟨q,g,e,d,p,L,H,x⟩:=ax (n:=n+1) (a:=f) (many:=41) y (up (k:=1) w rfl) (by decide) (by decide);obtain⟨rs,M,B,F,D,I,v,u,C⟩:=s g e d (20+q) x (by omega) (by omega);exact⟨rs,M,B,F,ai (fn:=F_rows) rfl rfl (ab (ah (ρ3:=[some (Tp g e d),IU (20+q),none,none,none,none,none,none,none,none,none]) (fN (aj (ar (ae (ρ3:=[some (Tp f i j),none,none,none,none,none,none,none,none,none,none]) rfl rfl z rfl) rfl rfl rfl (show some (decide (A=0))=some true by rw[Dac N]))) (ag rfl (ae (ρ3:=[some (Tp g e d),none,none,none,none,none,none,none,none,none,none]) rfl rfl p rfl) rfl rfl rfl)) rfl rfl rfl) I) rfl,v,u,C⟩
 ·obtain⟨q,g,e,d,p,L,H,x⟩:=ax (n:=n+1) (a:=f) (many:=11) y (up (k:=1) w rfl) (by decide) (by decide);obtain⟨rs,M,B,F,D,I,v,u,C⟩:=s g e d q x (by omega) (by omega);exact⟨rs,M,B,F,ai (fn:=F_rows) rfl rfl (ab (ah (ρ3:=[some (Tp g e d),IU q,none,none,none,none,none,none,none,none,none]) (jL (aj (ar (ae (ρ3:=[some (Tp f i j),none,none,none,none,none,none,none,none,none,none]) rfl rfl z rfl) rfl rfl rfl (show some (decide (A=0))=some false by rw[Dab N]))) (ae (ρ3:=[some (Tp g e d),none,none,none,none,none,none,none,none,none,none]) rfl rfl p rfl)) rfl rfl rfl) I) rfl,v,u,C⟩
def R.gr:R->Bool|.st _ k=>decide (99<k)|.ot _ _ _=>false
def R.num:R->Int|.st _ k=>k|.ot _ _ _=>0
abbrev Rd(r:R):OD:=.fz r.d
abbrev Rl(rs:List R):OD:=.fz (.list (rs.map R.d))
def bc{a:Type}{x:a}{xs:List a}:atI (x::xs) 0=some x:=jO (k:=0) rfl
def B5{n:Nat}(r:R):pl.pg.call (n+1) 0 [Rd r]=some (.fz (.bool r.gr),[Rd r]):=by
 cases r with
 |st r k=>rfl
 |ot w a h=>exact ai (fn:=iZ) rfl rfl (aC (aq (oj (ar (aN rfl rfl rfl (bz bc)) rfl rfl rfl (show some (decide (w=ii))=some false by rw[Dab h.1]))) rfl)) rfl
def mR{n:Nat}(r:R):pl.pg.call (n+1) 28 [Rd r]=some (.fz (.bool r.gr),[Rd r]):=by
 cases r with
 |st r k=>rfl
 |ot w a h=>exact ai (fn:=fQ) rfl rfl (aC (aq (oj (ar (aN rfl rfl rfl (bz bc)) rfl rfl rfl (show some (decide (w=ii))=some false by rw[Dab h.1]))) rfl)) rfl
def k5{n:Nat}{o:Option OD}:∀{rs:List R}{out:List PyData},∃a,bw (bF (IV (n+1)) (.nm 0) (.some edl) (.nm 0)) (rs.map R.d) out [o]=some (out++((rs.filter R.gr).map R.d),[a])
 |[],out=>⟨o,by rw[abq,aaC,aam];rfl⟩
 |r::rs,out=>by
  cases b:r.gr with
  |false=>obtain⟨a,e⟩:=k5 (n:=n) (o:=some (Rd r)) (rs:=rs) (out:=out++[]);rw[aam]at e;refine⟨a,?_⟩;rw[abr (by rw[b];decide)];refine bs (x:=([],[some (Rd r)])) (yB rfl (bp (ae (ρ3:=[some (Rd r)]) rfl rfl (by rw[<-b];exact mR r) rfl))) ?_;rw[aam];exact e
  |true=>obtain⟨a,e⟩:=k5 (n:=n) (o:=some (Rd r)) (rs:=rs) (out:=out++[r.d]);refine⟨a,?_⟩;rw[abI b,aaj];refine bs (x:=([r.d],[some (Rd r)])) (yA rfl (bp (ae (ρ3:=[some (Rd r)]) rfl rfl (by rw[<-b];exact mR r) rfl)) rfl rfl) ?_;rw[aad]at e;exact e
def R.wd:R->Str|.st _ _=>ii |.ot w _ _=>w
def R.tl:R->List PyData|.st r k=>[.int r,.int k]|.ot _ xs _=>xs.map PyData.int
def dats_fz:∀ds:List PyData,OD.dv (ds.map OD.fz)=some ds
 |[]=>rfl
 |d::ds=>by rw[aaj,OD.dv,dats_fz ds];rfl
def fj(ds:List PyData):(OD.lst (ds.map OD.fz)).dat=some (.list ds):=by rw[OD.dat,dats_fz]
def bL{ρ a:DEnv}{j:Nat}{x:OD}{d:PyData}(h:ρ[j]?.join=some x)(c:x.dat=some d)(b:ρ.set j (some (.fz d))=a):frz1 ρ (.rf j)=some (d,a):=by simp only[frz1,h,ab4,c,Option.map_some,b]
def unca_nil{ρ a:DEnv}:eR ρ [] a=ρ:=by cases a with|nil=>rfl|cons o a=>cases o<;>rfl
def R.x6(r:R):r.d=.tuple (.str r.wd::r.tl):=by cases r<;>rfl
abbrev Il(gs:List Int):OD:=.lst (gs.map It)
def dQ(gs:List Int):(gs.map PyData.int).map OD.fz=gs.map It:=by rw[aa0];rfl
def aK(gs:List Int):(Il gs).dat=some (.list (gs.map PyData.int)):=by rw[Il,<-dQ,fj]
def mS(rs:List R):(rs.map R.d).map OD.fz=rs.map λr=>OD.fz r.d:=by rw[aa0];rfl
def jf{ρ:DEnv}{j:Nat}{gs:List Int}{i g:Int}(h:ρ[j]?.join=some (Il gs))(d:atI (gs.map It) i=IU g):bu ρ (.rf j) i=some (It g,ρ):=by
 obtain⟨k,b,a⟩:=bnd d;have c:itemS (Il gs) i=some (.int g,Il gs):=by simp only[Il,itemS,b,a,OD.dat];rw[bD a]
 simp only[bu,h,c];rw[set_self (join_some h)]
structure Cf where
 rows:List R
 longs:List Int
 r0:Int
 r1:Int
structure G where
 pl:Int
 gaps:List Int
 words:List (List Int)
 bg:Int
 us:List (Int×Int)
 wt:List (Int×Int)
abbrev Lo(f:Cf):OD:=.fz (.list (f.longs.map PyData.int))
abbrev Re(f:Cf):OD:=.fz (.tuple [.int f.r0,.int f.r1])
abbrev Wq(q:Int×Int):PyData:=.tuple [.int q.1,.int q.2]
abbrev Wl(wt:List (Int×Int)):OD:=.lst ((wt.map Wq).map OD.fz)
abbrev gN:List Str:=[am,bi,bn,bm,ci,dL,em,ga,hL]
abbrev gD(us:List (Int×Int)):OD:=.dic (us.map λu=>.inl u.1) (us.map λu=>It u.2)
abbrev gO(f:Cf)(pl:Int)(gaps:OD)(words:OD)(bg:Int)(us:OD)(wt:OD):OD:=.obj ac gN [Rl f.rows,Lo f,Re f,It pl,gaps,words,It bg,us,wt]
abbrev GO(f:Cf)(g:G):OD:=gO f g.pl (Il g.gaps) (.lst (g.words.map Il)) g.bg (gD g.us) (Wl g.wt)
section
variable{f:Cf}{p b:Int}{x4 x5 x7 x8:OD}{ρ:DEnv}
def eD:ak (some (gO f p x4 x5 b x7 x8)::ρ) 0 [.fld ac am]=some ((gO f p x4 x5 b x7 x8),[0],Rl f.rows):=rfl
def qm:ak (some (gO f p x4 x5 b x7 x8)::ρ) 0 [.fld ac bi]=some ((gO f p x4 x5 b x7 x8),[1],Lo f):=rfl
def k6:ak (some (gO f p x4 x5 b x7 x8)::ρ) 0 [.fld ac bn]=some ((gO f p x4 x5 b x7 x8),[2],Re f):=rfl
def dF:ak (some (gO f p x4 x5 b x7 x8)::ρ) 0 [.fld ac bm]=some ((gO f p x4 x5 b x7 x8),[3],It p):=rfl
def k7:ak (some (gO f p x4 x5 b x7 x8)::ρ) 0 [.fld ac ci]=some ((gO f p x4 x5 b x7 x8),[4],x4):=rfl
def dG:ak (some (gO f p x4 x5 b x7 x8)::ρ) 0 [.fld ac dL]=some ((gO f p x4 x5 b x7 x8),[5],x5):=rfl
def k8:ak (some (gO f p x4 x5 b x7 x8)::ρ) 0 [.fld ac em]=some ((gO f p x4 x5 b x7 x8),[6],It b):=rfl
def vI:ak (some (gO f p x4 x5 b x7 x8)::ρ) 0 [.fld ac ga]=some ((gO f p x4 x5 b x7 x8),[7],x7):=rfl
def cY:ak (some (gO f p x4 x5 b x7 x8)::ρ) 0 [.fld ac hL]=some ((gO f p x4 x5 b x7 x8),[8],x8):=rfl
def f_place{q:Int}:bx bm (It q) gN [Rl f.rows,Lo f,Re f,It p,x4,x5,It b,x7,x8]=(gN,[Rl f.rows,Lo f,Re f,It q,x4,x5,It b,x7,x8]):=rfl
def yE{q:Int}:bx em (It q) gN [Rl f.rows,Lo f,Re f,It p,x4,x5,It b,x7,x8]=(gN,[Rl f.rows,Lo f,Re f,It p,x4,x5,It q,x7,x8]):=rfl
def sy{q:OD}:bx hL q gN [Rl f.rows,Lo f,Re f,It p,x4,x5,It b,x7,x8]=(gN,[Rl f.rows,Lo f,Re f,It p,x4,x5,It b,x7,q]):=rfl
end
def B6{n:Nat}{f:Cf}:pl.pg.call (n+1) 9 [.obj ac [] [],Rl f.rows,Lo f,Re f]=some (.fz .none,[GO f ⟨0,[],[],0,[],[]⟩,Rl f.rows,Lo f,Re f]):=dB (fn:=cV) rfl rfl (ab (cm (ns':=[am]) (xs':=[Rl f.rows]) (ρ3:=[some (.obj ac [am] [Rl f.rows]),some (Rl f.rows),some (Lo f),some (Re f)]) rfl rfl rfl rfl rfl rfl) (ab (cm (ns':=[am,bi]) (xs':=[Rl f.rows,Lo f]) (ρ3:=[some (.obj ac [am,bi] [Rl f.rows,Lo f]),some (Rl f.rows),some (Lo f),some (Re f)]) rfl rfl rfl rfl rfl rfl) (ab (cm (ns':=[am,bi,bn]) (xs':=[Rl f.rows,Lo f,Re f]) (ρ3:=[some (.obj ac [am,bi,bn] [Rl f.rows,Lo f,Re f]),some (Rl f.rows),some (Lo f),some (Re f)]) rfl rfl rfl rfl rfl rfl) (ab (cm (ns':=[am,bi,bn,bm]) (xs':=[Rl f.rows,Lo f,Re f,It 0]) (ρ3:=[some (.obj ac [am,bi,bn,bm] [Rl f.rows,Lo f,Re f,It 0]),some (Rl f.rows),some (Lo f),some (Re f)]) rfl rfl rfl rfl rfl rfl) (ab (cm (ns':=[am,bi,bn,bm,ci]) (xs':=[Rl f.rows,Lo f,Re f,It 0,Il []]) (ρ3:=[some (.obj ac [am,bi,bn,bm,ci] [Rl f.rows,Lo f,Re f,It 0,Il []]),some (Rl f.rows),some (Lo f),some (Re f)]) rfl rfl rfl rfl rfl rfl) (ab (cm (ns':=[am,bi,bn,bm,ci,dL]) (xs':=[Rl f.rows,Lo f,Re f,It 0,Il [],.lst []]) (ρ3:=[some (.obj ac [am,bi,bn,bm,ci,dL] [Rl f.rows,Lo f,Re f,It 0,Il [],.lst []]),some (Rl f.rows),some (Lo f),some (Re f)]) rfl rfl rfl rfl rfl rfl) (ab (cm (ns':=[am,bi,bn,bm,ci,dL,em]) (xs':=[Rl f.rows,Lo f,Re f,It 0,Il [],.lst [],It 0]) (ρ3:=[some (.obj ac [am,bi,bn,bm,ci,dL,em] [Rl f.rows,Lo f,Re f,It 0,Il [],.lst [],It 0]),some (Rl f.rows),some (Lo f),some (Re f)]) rfl rfl rfl rfl rfl rfl) (ab (cm (ns':=[am,bi,bn,bm,ci,dL,em,ga]) (xs':=[Rl f.rows,Lo f,Re f,It 0,Il [],.lst [],It 0,.dic [] []]) (ρ3:=[some (.obj ac [am,bi,bn,bm,ci,dL,em,ga] [Rl f.rows,Lo f,Re f,It 0,Il [],.lst [],It 0,.dic [] []]),some (Rl f.rows),some (Lo f),some (Re f)]) rfl rfl rfl rfl rfl rfl) (ab (cm (ns':=[am,bi,bn,bm,ci,dL,em,ga,hL]) (xs':=[Rl f.rows,Lo f,Re f,It 0,Il [],.lst [],It 0,.dic [] [],.lst []]) (ρ3:=[some (.obj ac [am,bi,bn,bm,ci,dL,em,ga,hL] [Rl f.rows,Lo f,Re f,It 0,Il [],.lst [],It 0,.dic [] [],.lst []]),some (Rl f.rows),some (Lo f),some (Re f)]) rfl rfl rfl rfl rfl rfl) rfl))))))))) rfl
def R.fal(r:R):Bool:=!decide (r.wd=bv)&&!decide (r.wd=lc)
def ovN(rs:List R):Nat->Bool
 |0=>true
 |k+1=>(rs[k]?).elim true R.fal
def fw(rs:List R)(k:Nat)(p:Int):Int:=let q:=if ovN rs k=true then p+2 else p;q+2-q%2
def sz(f:Cf)(k:Nat):Int:=if (f.rows[k]?).elim false R.gr=true\/(k:Int)∈f.longs then 2 else 1
def yF{n:Nat}(r:R):pl.pg.call (n+1) 4 [Rd r]=some (.fz (.bool r.fal),[Rd r]):=by
 unfold R.fal;have a:∀x:Str,ev (IV n) (.cmp .ne ed6 (.str x)) [some (Rd r)]=some (.val (.fz (.bool (!decide (r.wd=x)))),[some (Rd r)]):=λx=>ar (aN rfl rfl rfl (by rw[R.x6];exact bz bc)) rfl rfl rfl rfl;cases b:(!decide (r.wd=bv)) with
 |false=>exact ai (fn:=kX) rfl rfl (aC (aq (oj (by rw[<-b];exact a bv)) rfl)) rfl
 |true=>rw[abh];exact ai (fn:=kX) rfl rfl (aC (aq (oi (by rw[<-b];exact a bv) (a lc)) rfl)) rfl
def eE{rs:List R}{k:Nat}{r:R}(h:rs[k]?=some r):atI (rs.map R.d) (k:Int)=some r.d:=jO (by rw[aav,h];rfl)
def mT{x:Int}:∀{ls:List Int},memD (.int x) (ls.map PyData.int)=some (decide (x∈ls))
 |[]=>by simp[memD]
 |y::ls=>by rw[aaj,memD,mT (ls:=ls)];show some (decide (y=x)||decide (x∈ls))=_;rw[<-Bool.decide_or];congr 1;rw[decide_eq_decide,aab];exact⟨λh=>h.imp Eq.symm id,λh=>h.imp Eq.symm id⟩
def inL{x:Int}{ls:List Int}:mo .inn (.int x) (.list (ls.map PyData.int))=some (decide (x∈ls)):=bs (f:=λa=>(gd (CO (PyData.int x)=true)).bind λ_=>memD (.int x) a) rfl (bg rfl mT)
def ninL{x:Int}{ls:List Int}:mo .nin (.int x) (.list (ls.map PyData.int))=some (!decide (x∈ls)):=bs (inL (x:=x) (ls:=ls)) rfl
def ow{n:Nat}{f:Cf}{k:Nat}{r:R}(h:f.rows[k]?=some r):pl.pg.call (n+2) 5 [Rl f.rows,Lo f,It k]=some (It (sz f k),[Rl f.rows,Lo f,It k]):=by
 unfold sz;rw[h];have a:=ae (C:=IV (n+1)) (f:=0) (es:=.cons Hs .nil) (ρ:=[some (Rl f.rows),some (Lo f),IU k]) (ρ3:=[some (Rl f.rows),some (Lo f),IU k]) (aa (aN rfl rfl rfl (bS (eE h))) af) rfl (B5 r) rfl;cases b:r.gr with
 |true=>rw[b]at a;rw[if_pos (.inl b)];exact ai (fn:=eP) rfl rfl (aC (aq (fN (jM (bp a)) rfl) rfl)) rfl
 |false=>
  rw[b]at a;have c:aT (IV (n+1)) edv [some (Rl f.rows),some (Lo f),IU k]=some (decide ((k:Int)∈f.longs),[some (Rl f.rows),some (Lo f),IU k]):=aj (ar rfl rfl rfl rfl inL);cases d:decide ((k:Int)∈f.longs) with
  |true=>rw[d]at c;rw[if_pos (.inr (Daa d))];exact ai (fn:=eP) rfl rfl (aC (aq (fN (cH (bp a) c) rfl) rfl)) rfl
  |false=>rw[d]at c;rw[if_neg λz=>z.elim (λz=>absurd (b.symm.trans z) aaf) λz=>Dad d z];exact ai (fn:=eP) rfl rfl (aC (aq (jL (cH (bp a) c) rfl) rfl)) rfl
def B7{n:Nat}{rs:List R}{k:Nat}(h:k<=rs.length):pl.pg.call (n+2) 6 [Rl rs,It k]=some (.fz (.bool (ovN rs k)),[Rl rs,It k]):=by
 cases k with
 |zero=>exact ai (fn:=fh) rfl rfl (aC (aq (pY rfl) rfl)) rfl
 |succ k=>
  have c:=yF (n:=n) rs[k];have b:ovN rs (k+1)=(rs[k]).fal:=by show (rs[k]?).elim true R.fal=_;rw[aap h];rfl
  rw[b];have a:((k+1:Nat):Int)-1=(k:Int):=by omega
  exact ai (fn:=fh) rfl rfl (aC (aq (pZ (ar rfl rfl rfl rfl (show some (decide (((k+1:Nat):Int)=0))=some false by rw[Dab (by omega)])) (ae (ρ3:=[some (Rl rs),IU (k+1:Nat)]) (aa (aN rfl rfl rfl (bS (d:=(rs[k]).d) (by rw[a];exact eE (aap (by omega))))) af) rfl c rfl)) rfl)) rfl
def k9{n:Nat}{rs:List R}{k:Nat}{p:Int}(h:k<=rs.length):pl.pg.call (n+3) 7 [Rl rs,It k,It p]=some (It (fw rs k p),[Rl rs,It k,It p]):=by
 unfold fw;have c:=B7 (n:=n) h;have a:=ae (C:=IV (n+2)) (f:=6) (es:=.cons (.nm 0) eeh) (ρ:=[some (Rl rs),IU k,IU p]) (ρ3:=[some (Rl rs),IU k,IU p]) rfl rfl c rfl;cases b:ovN rs k with
 |true=>rw[b]at a;exact ai (fn:=dD) rfl rfl (ab (aH (bp a) (ab rfl rfl)) (aC (aq (ag rfl (ag rfl rfl rfl rfl (cO (by decide))) rfl rfl rfl) rfl))) rfl
 |false=>rw[b]at a;exact ai (fn:=dD) rfl rfl (ab (az (bp a) rfl) (aC (aq (ag rfl (ag rfl rfl rfl rfl (cO (by decide))) rfl rfl rfl) rfl))) rfl
def gJ(wt:List (Int×Int)):(Wl wt).dat=some (.list (wt.map Wq)):=fj _
def tru_l{a:Type}{f:a->PyData}{l:List a}:kE (.list (l.map f))=some (!l.isEmpty):=by show some (!(l.map f).isEmpty)=_;rw[List.isEmpty_map]
def qo{a:Type}{f:a->PyData}{l:List a}:iM (.list (l.map f))=some l.length:=by show some (l.map f).length=_;rw[aaa]
def blen{a:Type}{f:a->PyData}{l:List a}:CP .len [.list (l.map f)]=some (.int l.length):=by show (fF [PyData.list (l.map f)]).bind (λd=>(iM d).bind λn=>some (PyData.int n))=_;exact bs rfl (bs qo rfl)
def due(f:Cf)(g:G)(k:Nat):Bool:=g.wt.head?.elim false λq=>decide ((k:Int)=f.rows.length)||decide (fw f.rows (k+1) (g.pl+sz f k)-q.2>f.r1)
def Fi{n:Nat}{f:Cf}{g:G}{k:Nat}(hk:k<=f.rows.length):pl.pg.call (n+4) 10 [GO f g,It k]=some (.fz (.bool (due f g k)),[GO f g,It k]):=by
 unfold due;have c:aT (IV (n+3)) ec7 [some (GO f g),IU k,none,none,none]=some (!(!g.wt.isEmpty),[some (GO f g),IU k,none,none,none]):=eB (jN cY (gJ _) tru_l);cases d:g.wt with
 |nil=>rw[d]at c;exact ai (fn:=bJ) (ρ:=[some (GO f g),IU k,none,none,none]) rfl rfl (aC (aH c (aC rfl))) rfl
 |cons q l=>
  rw[d]at c;have a:ev (IV (n+3)) eby [some (GO f g),IU k,none,none,none]=some (.val (It f.rows.length),[some (GO f g),IU k,none,none,none]):=aX (aa (ck eD rfl) af) rfl blen;by_cases e:(k:Int)=f.rows.length
  ·show _=some (OD.fz (PyData.bool (decide ((k:Int)=f.rows.length)||decide (fw f.rows (k+1) (g.pl+sz f k)-q.2>f.r1))),_);rw[Dac e,Bool.true_or];exact ai (fn:=bJ) (ρ:=[some (GO f g),IU k,none,none,none]) rfl rfl (ab (az c rfl) (aC (aH (aj (ar rfl a rfl rfl (show some (decide ((k:Int)=f.rows.length))=some true by rw[Dac e]))) (aC rfl)))) rfl
  ·have b:k<f.rows.length:=by omega
   have h:=ow (n:=n+1) (f:=f) (aap b);have j:=k9 (n:=n) (rs:=f.rows) (k:=k+1) (p:=g.pl+sz f k) b;show _=some (OD.fz (PyData.bool (decide ((k:Int)=f.rows.length)||decide (fw f.rows (k+1) (g.pl+sz f k)-q.2>f.r1))),_);rw[Dab e,abY];have i:ak [some (GO f g),IU k,IU (g.pl+sz f k),none,none] 0 [.ix 0,.fld ac hL]=some (GO f g,[8,0],.fz (Wq q)):=bs cY (bs (x:=0) (bs rfl (by rw[d];exact fO (k:=0) (by simp))) (bs (x:=.fz (Wq q)) (by show (List.map OD.fz (g.wt.map Wq))[0]?=_;rw[d];rfl) rfl));exact ai (fn:=bJ) (ρ:=[some (GO f g),IU k,IU (g.pl+sz f k),IU q.1,IU q.2]) rfl rfl (ab (az c rfl) (ab (az (aj (ar rfl a rfl rfl (show some (decide ((k:Int)=f.rows.length))=some false by rw[Dab e]))) rfl) (ab (ah (ρ3:=[some (GO f g),IU k,IU (g.pl+sz f k),none,none]) (ag (ck dF rfl) (ae (ρ3:=[some (GO f g),IU k,none,none,none]) (aa (ck eD rfl) (aa (ck qm rfl) (aa rfl af))) rfl h rfl) rfl rfl rfl) rfl rfl rfl) (ab (bs (ck i rfl) (bs rfl (bs rfl rfl))) (aC (aq (ar (ag (ae (ρ3:=[some (GO f g),IU k,IU (g.pl+sz f k),IU q.1,IU q.2]) (aa (ck eD rfl) (aa rfl (aa rfl af))) rfl j rfl) rfl rfl rfl rfl) (aN (ck k6 rfl) rfl rfl rfl) rfl rfl rfl) rfl)))))) rfl
def nu(f:Cf)(a:Int):Int:=((f.rows[a.toNat]?).map R.num).getD 0
def Gt(f:Cf)(a:Int):Prop:=∃(i:Nat) (r k:Int),a=i/\f.rows[i]?=some (.st r k)
def vJ{f:Cf}{i:Nat}{r k:Int}(h:f.rows[i]?=some (.st r k)):nu f i=k:=by unfold nu;rw[abe,h];rfl
def cZ(ns:List Int)(x:Int):List Int:=if x∈ns then ns else ns++[x]
def bX{ns:List Int}{x:Int}:Il (ns++[x])=.lst (ns.map It++[It x]):=by rw[Il,aax];rfl
abbrev wF(wt:List (Int×Int)):OD:=.fz (.list (wt.map Wq))
def putK_new{us:List (Int×Int)}{a v:Int}(h:a ∉ us.map (·.1)):bf (.inl a) (.int v) (us.map λu=>.inl u.1) (us.map λu=>It u.2)=((us++[(a,v)]).map λu=>.inl u.1,(us++[(a,v)]).map λu=>It u.2):=by
 have c:¬ ((us.map λu=>(Sum.inl u.1:Key)).any λq=>decide (q=.inl a))=true:=by intro b;obtain⟨q,d,e⟩:=abG.mp b;obtain⟨u,f,rfl⟩:=aay.mp d;have:=Daa e;cases this;exact h (aay.mpr ⟨u,f,rfl⟩)
 unfold bf;rw[if_neg c,aax,aax];rfl
def vK{C:Ct}{f:Cf}{p b:Int}{x4 x5 c x8:OD}{ρ:DEnv}{j:Nat}{a:Int}(d:(some (gO f p x4 x5 b c x8)::ρ)[j]?.join=IU a)(h:Gt f a):ev C (.ix (.ix (.pg 0 [.fld ac am]) (.nm j)) (.int 2)) (some (gO f p x4 x5 b c x8)::ρ)=some (.val (It (nu f a)),some (gO f p x4 x5 b c x8)::ρ):=by obtain⟨i,r,k,rfl,h⟩:=h;rw[vJ h];refine aN (aN (y:=.val (It i)) (n:=i) (ck eD rfl) ?_ rfl (bS (eE h))) rfl rfl rfl;rw[pe,d]
def mU{n:Nat}{f:Cf}{p bg:Int}{gaps:List Int}{x5:OD}{gap:OD}{wtF:OD}(m:gaps.length<1000000):∀(wt:List (Int×Int)) (us:List (Int×Int)) (ns:List Int) (o3 o4:Option OD),(∀q∈wt,Gt f q.1)->(us.map (·.1)++wt.map (·.1)).Nodup->us.length+wt.length<1000->ns.length+wt.length<1000 ->
  ∃c g,bE (λd j=>(aW (.tp [3,4]) (.fz d) j).bind λρ1=>aw (IV n) (match F_Going_lay.body with|.cons _ (.cons (.fr _ _ b) _)=>b|_=>.nil) ρ1) (wt.map Wq) [some (gO f p (Il gaps) x5 bg (gD us) wtF),some gap,some (Il ns),o3,o4]=some (.nx,[some (gO f p (Il gaps) x5 bg (gD (us++wt.map λq=>(q.1,(gaps.length:Int)))) wtF),some gap,some (Il (wt.foldl (λns q=>cZ ns (nu f q.1)) ns)),c,g])
 |[],us,ns,o3,o4,_,_,_,_=>⟨o3,o4,by simp only[aaC,aam];rfl⟩
 |q::wt,us,ns,o3,o4,hG,nd,hl,hn=>by
  rw[aaq]at hl hn;have k:=hG q aai;have a:q.1 ∉ us.map (·.1):=λh=>(aaA.mp nd).2.2 q.1 h q.1 (by rw[aaj];exact aai) rfl;obtain⟨c,g,e⟩:=mU (n:=n) (f:=f) (p:=p) (bg:=bg) (x5:=x5) (gap:=gap) (wtF:=wtF) m wt (us++[(q.1,(gaps.length:Int))]) (cZ ns (nu f q.1)) (IU q.1) (IU q.2) (λz l=>hG z (aah _ l)) (by rw[aax,aad];exact nd) (by rw[aal,aaI];omega) (by unfold cZ;split;omega;rw[aal,aaI];omega);refine⟨c,g,bs (x:=(.nx,[some (gO f p (Il gaps) x5 bg (gD (us++[(q.1,(gaps.length:Int))])) wtF),some gap,some (Il (cZ ns (nu f q.1))),IU q.1,IU q.2])) (bs (x:=[some (gO f p (Il gaps) x5 bg (gD us) wtF),some gap,some (Il ns),IU q.1,IU q.2]) rfl ?_) ?_⟩
  ·refine ab (vw (ρ3:=[some (gO f p (Il gaps) x5 bg (gD (us++[(q.1,(gaps.length:Int))])) wtF),some gap,some (Il ns),IU q.1,IU q.2]) (BY k7 (aK _) qo) rfl vI rfl rfl rfl (by rw[aaa];omega) (putK_new a) rfl) ?_;have i:aT (IV n) ea7 [some (gO f p (Il gaps) x5 bg (gD (us++[(q.1,(gaps.length:Int))])) wtF),some gap,some (Il ns),IU q.1,IU q.2]=some (!decide (nu f q.1∈ns),[some (gO f p (Il gaps) x5 bg (gD (us++[(q.1,(gaps.length:Int))])) wtF),some gap,some (Il ns),IU q.1,IU q.2]):=aj (ar (vK rfl k) rfl rfl (aK _) ninL);by_cases h:nu f q.1∈ns
   ·rw[Dac h]at i;unfold cZ;rw[if_pos h];exact ab (az i rfl) rfl
   ·rw[Dab h]at i;unfold cZ;rw[if_neg h];exact ab (aH i (ab (bP (xs:=ns.map It) rfl (vK rfl k) rfl rfl (by rw[aaa];omega) (by rw[bX];rfl)) rfl)) rfl
  ·rw[aad]at e;exact e
def aR{a b:Type}{f:a->b}{l:List a}{x:a}:(l++[x]).map f=l.map f++[f x]:=by rw[aax];rfl
def yG{l:List OD}{x:OD}:(OD.lst (l++[x])).at [l.length]=some x:=by
 have e:(OD.lst (l++[x])).kids[l.length]?=some x:=by show (l++[x])[l.length]?=some x;rw[aa1]
 simp only[OD.at,e]
def mV{l:List OD}{x y:OD}:OD.put y [l.length] (.lst (l++[x]))=.lst (l++[y]):=by
 have e:(OD.lst (l++[x])).kids[l.length]?=some x:=by show (l++[x])[l.length]?=some x;rw[aa1]
 simp only[OD.put,e,OD.ej];rw[ace _ _ (aag _),abJ];rfl
def sA(f:Cf)(g:G)(k:Nat):G:=
 ⟨fw f.rows k g.pl+2*(g.wt.foldl (λa q=>cZ a (nu f q.1)) []).length,g.gaps++[(k:Int)],g.words++[g.wt.foldl (λa q=>cZ a (nu f q.1)) []],fw f.rows k g.pl,g.us++g.wt.map λq=>(q.1,(g.gaps.length:Int)),[]⟩
def Fj{n:Nat}{f:Cf}{g:G}{k:Nat}(hk:k<=f.rows.length)(i:∀q∈g.wt,Gt f q.1)(j:(g.us.map (·.1)++g.wt.map (·.1)).Nodup)(o:g.us.length+g.wt.length<1000)(l:g.gaps.length<1000)(m:g.words.length<1000):
  pl.pg.call (n+4) 11 [GO f g,It k]=some (.fz .none,[GO f (sA f g k),It k]):=by
 unfold sA;obtain⟨c,b,e⟩:=mU (n:=n+3) (f:=f) (p:=g.pl) (bg:=g.bg) (gaps:=g.gaps) (x5:=.lst (g.words.map Il)) (gap:=It k) (wtF:=wF g.wt) (by omega) g.wt g.us [] none none i j (by omega) (by rw[aaX];omega);generalize hns:g.wt.foldl (λa q=>cZ a (nu f q.1)) []=a at e ⊢;generalize hus:(g.us++g.wt.map λq=>(q.1,(g.gaps.length:Int)))=us at e ⊢;have h:=k9 (n:=n) (rs:=f.rows) (k:=k) (p:=g.pl) hk;generalize fw f.rows k g.pl=v at h ⊢;refine dB (fn:=F_Going_lay) (ρ:=[some (GO f ⟨v+2*a.length,g.gaps++[(k:Int)],g.words++[a],v,us,[]⟩),IU k,none,c,b]) rfl rfl ?_ rfl;refine ab (ah (ρ3:=[some (GO f g),IU k,some (Il []),none,none]) rfl rfl rfl rfl) ?_;refine ab (cp (bQ (ds:=g.wt.map Wq) (ρ2:=[some (gO f g.pl (Il g.gaps) (.lst (g.words.map Il)) g.bg (gD g.us) (wF g.wt)),IU k,some (Il []),none,none]) (BX cY (gJ _) rfl) rfl rfl) e) ?_;refine ab (kU (ρ1:=[some (gO f g.pl (Il (g.gaps++[(k:Int)])) (.lst (g.words.map Il)) g.bg (gD us) (wF g.wt)),IU k,some (Il a),c,b]) (d:=.int k) k7 rfl rfl (by rw[aaa];omega) (by rw[bX];rfl)) ?_;refine bs dG (se (xs:=g.words.map Il) (y:=Il a) rfl (by rw[aaa];omega) (by decide) rfl λu=>⟨[some (gO f (v+2*a.length) (Il (g.gaps++[(k:Int)])) (.lst (g.words.map Il++[.hole u])) v (gD us) (.lst [])),IU k,some (Il a),c,b],?_,?_⟩)
 ·refine ab (cm (ρ3:=[some (gO f g.pl (Il (g.gaps++[(k:Int)])) (.lst (g.words.map Il++[.hole u])) v (gD us) (wF g.wt)),IU k,some (Il a),c,b]) (ae (ρ3:=[some (gO f g.pl (Il (g.gaps++[(k:Int)])) (.lst (g.words.map Il++[.hole u])) g.bg (gD us) (wF g.wt)),IU k,some (Il a),c,b]) (aa (ck eD rfl) (aa rfl (aa (ck dF rfl) af))) rfl h rfl) rfl rfl rfl yE rfl) ?_;refine ab (cm (z:=It (v+2*a.length)) (ρ3:=[some (gO f (v+2*a.length) (Il (g.gaps++[(k:Int)])) (.lst (g.words.map Il++[.hole u])) v (gD us) (wF g.wt)),IU k,some (Il a),c,b]) (ag (ck k8 rfl) (ag (dx:=.int 2) (dy:=.int a.length) rfl (aX rfl (uG (aK _)) blen) rfl rfl (cN (.inl (by decide)))) rfl rfl rfl) rfl rfl rfl f_place rfl) ?_;exact ab (cm (ρ3:=[some (gO f (v+2*a.length) (Il (g.gaps++[(k:Int)])) (.lst (g.words.map Il++[.hole u])) v (gD us) (.lst [])),IU k,some (Il a),c,b]) rfl rfl rfl rfl sy rfl) rfl
 ·refine⟨_,Il a,rfl,?_,rfl,by decide,?_⟩
  ·exact yG
  ·show _=[some (gO f (v+2*a.length) (Il (g.gaps++[(k:Int)])) (OD.put (Il a) [(g.words.map Il).length] (.lst (g.words.map Il++[.hole u]))) v (gD us) (.lst [])),IU k,none,c,b];rw[mV,<-aR];rfl
def ixN_last{n:Nat}:ixN (n+1) (-1)=some n:=by unfold ixN;rw[if_neg (by decide),if_pos (by omega)];congr 1;omega
def ox{f:Cf}{p b:Int}{x4 a x8 y:OD}{l:List OD}{ρ:DEnv}:ak (some (gO f p x4 (.lst (l++[y])) b a x8)::ρ) 0 [.ix (-1),.fld ac dL]=some (gO f p x4 (.lst (l++[y])) b a x8,[5,l.length],y):=
 bs dG (bs (x:=l.length) (by show ixN (l++[y]).length (-1)=_;rw[aal];exact ixN_last) (bs (x:=y) (by show (l++[y])[l.length]?=_;rw[aa1]) rfl))
def qp:∀ws:List (List Int),OD.dv (ws.map Il)=some (ws.map λw=>.list (w.map PyData.int))
 |[]=>rfl
 |w::ws=>by rw[aaj,OD.dv,aK,qp ws];rfl
def jg(ws:List (List Int)):(OD.lst (ws.map Il)).dat=some (.list (ws.map λw=>.list (w.map PyData.int))):=by rw[OD.dat,qp]
def vL{n:Nat}{f:Cf}{g:G}{x:Int}(h:g.words=[]):pl.pg.call (n+1) 12 [GO f g,It x]=some (.fz (.bool false),[GO f g,It x]):=by have a:aT (IV n) ec9 [some (GO f g),IU x]=some (!(!g.words.isEmpty),[some (GO f g),IU x]):=eB (jN dG (jg _) tru_l);rw[h]at a;exact ai (fn:=bV) (ρ:=[some (GO f g),IU x]) rfl rfl (aC (aH (jM a) (aC rfl))) rfl
def qq{n:Nat}{f:Cf}{g:G}{x:Int}{ws:List (List Int)}{w:List Int}(h:g.words=ws++[w]):pl.pg.call (n+1) 12 [GO f g,It x]=some (.fz (.bool (decide (x∈w/\g.pl-g.bg<=f.r0))),[GO f g,It x]):=by
 have c:aT (IV n) ec9 [some (GO f g),IU x]=some (!(!g.words.isEmpty),[some (GO f g),IU x]):=eB (jN dG (jg _) tru_l);have d:(!(!g.words.isEmpty))=false:=by rw[h];cases ws<;>rfl
 rw[d]at c;have b:aT (IV n) eb1 [some (GO f g),IU x]=some (!decide (x∈w),[some (GO f g),IU x]):=by rw[GO,h,aR];exact om rfl rfl ox (aK w) ninL
 by_cases a:x∈w
 ·rw[Dac a]at b;have e:decide (x∈w/\g.pl-g.bg<=f.r0)=decide (g.pl-g.bg<=f.r0):=by rw[decide_eq_decide];exact⟨λz=>z.2,λz=>⟨a,z⟩⟩
  rw[e];exact ai (fn:=bV) (ρ:=[some (GO f g),IU x]) rfl rfl (ab (az (cH c b) rfl) (aC (aq (ar (ag (ck dF rfl) (ck k8 rfl) rfl rfl rfl) (aN (ck k6 rfl) rfl rfl rfl) rfl rfl rfl) rfl))) rfl
 ·rw[Dab a]at b;rw[Dab (λz=>a z.1)];exact ai (fn:=bV) (ρ:=[some (GO f g),IU x]) rfl rfl (aC (aH (cH c b) (aC rfl))) rfl
def B8{n:Nat}{f:Cf}{g:G}{x:Int}(h:g.words=[]):pl.pg.call (n+1) 13 [GO f g,It x]=some (.fz (.bool false),[GO f g,It x]):=by have a:aT (IV n) ec9 [some (GO f g),IU x]=some (!(!g.words.isEmpty),[some (GO f g),IU x]):=eB (jN dG (jg _) tru_l);rw[h]at a;exact ai (fn:=bb) (ρ:=[some (GO f g),IU x]) rfl rfl (aC (aH (jM a) (aC rfl))) rfl
def zB{n:Nat}{f:Cf}{g:G}{x:Int}{ws:List (List Int)}{w:List Int}(h:g.words=ws++[w]):pl.pg.call (n+1) 13 [GO f g,It x]=some (.fz (.bool (decide (g.wt=[]/\x ∉ w/\g.pl+2-g.bg<=f.r0))),[GO f g,It x]):=by
 have d:aT (IV n) ec9 [some (GO f g),IU x]=some (!(!g.words.isEmpty),[some (GO f g),IU x]):=eB (jN dG (jg _) tru_l);have j:(!(!g.words.isEmpty))=false:=by rw[h];cases ws<;>rfl
 rw[j]at d;have a:aT (IV n) (.pt 0 [.fld ac hL]) [some (GO f g),IU x]=some (!g.wt.isEmpty,[some (GO f g),IU x]):=jN cY (gJ _) tru_l;have i:aT (IV n) ebz [some (GO f g),IU x]=some (decide (x∈w),[some (GO f g),IU x]):=by rw[GO,h,aR];exact om rfl rfl ox (aK w) inL
 cases b:g.wt with
 |cons q k=>rw[b]at a;rw[Dab (λz=>List.cons_ne_nil _ _ z.1)];exact ai (fn:=bb) (ρ:=[some (GO f g),IU x]) rfl rfl (aC (aH (cH d (jM a)) (aC rfl))) rfl
 |nil=>
  rw[b]at a;by_cases c:x∈w
  ·rw[Dac c]at i;rw[Dab (λz=>z.2.1 c)];exact ai (fn:=bb) (ρ:=[some (GO f g),IU x]) rfl rfl (aC (aH (cH d (cH a i)) (aC rfl))) rfl
  ·rw[Dab c]at i;have e:decide (([]:List (Int×Int))=[]/\x ∉ w/\g.pl+2-g.bg<=f.r0)=decide (g.pl+2-g.bg<=f.r0):=by rw[decide_eq_decide];exact⟨λz=>z.2.2,λz=>⟨rfl,c,z⟩⟩
   rw[e];exact ai (fn:=bb) (ρ:=[some (GO f g),IU x]) rfl rfl (ab (az (cH d (cH a i)) rfl) (aC (aq (ar (ag (ag (ck dF rfl) rfl rfl rfl rfl) (ck k8 rfl) rfl rfl rfl) (aN (ck k6 rfl) rfl rfl rfl) rfl rfl rfl) rfl))) rfl
def vM{n:Nat}{f:Cf}{g:G}{o:OD}{x:Int}{k:Bool}(h:pl.pg.call (n+1) 13 [GO f g,It x]=some (.fz (.bool k),[GO f g,It x])):aT (IV (n+1)) eb9 [some (GO f g),some o,IU x]=some (k,[some (GO f g),some o,IU x]):=oh (fe (ρ3:=[some (GO f g),some o,IU x]) rfl (by decide +kernel) rfl rfl h rfl)
def vN{n:Nat}{f:Cf}{g:G}{o:OD}{x:Int}{k:Bool}(h:pl.pg.call (n+1) 12 [GO f g,It x]=some (.fz (.bool k),[GO f g,It x])):aT (IV (n+1)) ecf [some (GO f g),some o,IU x]=some (k,[some (GO f g),some o,IU x]):=oh (fe (ρ3:=[some (GO f g),some o,IU x]) rfl (by decide +kernel) rfl rfl h rfl)
inductive Come (f:Cf)(g:G)(a:Int):G->Prop
 |put {ws:List (List Int)}{w:List Int} (h:g.words=ws++[w]) (hw:g.wt=[]) (hn:nu f a ∉ w) (hr:g.pl+2-g.bg<=f.r0):Come f g a ⟨g.pl+2,g.gaps,ws++[w++[nu f a]],g.bg,g.us++[(a,(g.gaps.length:Int)-1)],g.wt⟩
 |got {ws:List (List Int)}{w:List Int} (h:g.words=ws++[w]) (hn:nu f a∈w) (hr:g.pl-g.bg<=f.r0):Come f g a ⟨g.pl,g.gaps,g.words,g.bg,g.us++[(a,(g.gaps.length:Int)-1)],g.wt⟩
 |wait (h1:∀ws w,g.words=ws++[w]->¬ (g.wt=[]/\nu f a ∉ w/\g.pl+2-g.bg<=f.r0)) (h2:∀ws w,g.words=ws++[w]->¬ (nu f a∈w/\g.pl-g.bg<=f.r0)):Come f g a ⟨g.pl,g.gaps,g.words,g.bg,g.us,g.wt++[(a,g.pl)]⟩
def mW{n:Nat}{f:Cf}{g:G}{a x:Int}(fresh:a ∉ g.us.map (·.1))(b:g.us.length<1000):aw (IV (n+1)) eau [some (GO f g),IU a,IU x]=some (.nx,[some (GO f ⟨g.pl,g.gaps,g.words,g.bg,g.us++[(a,(g.gaps.length:Int)-1)],g.wt⟩),IU a,IU x]):=
 ab (vw (ag (BY k7 (aK _) qo) rfl rfl rfl rfl) rfl vI rfl rfl rfl (by rw[aaa];omega) (putK_new fresh) rfl) rfl
def qr{wt:List (Int×Int)}{q:Int×Int}:Wl (wt++[q])=.lst ((wt.map Wq).map OD.fz++[.fz (Wq q)]):=by rw[Wl,aR,aR]
def jW{n:Nat}{f:Cf}{g:G}{a x:Int}(b:g.wt.length<1000):aw (IV (n+1)) ean [some (GO f g),IU a,IU x]=some (.nx,[some (GO f ⟨g.pl,g.gaps,g.words,g.bg,g.us,g.wt++[(a,g.pl)]⟩),IU a,IU x]):=
 ab (kU (d:=Wq (a,g.pl)) cY (bs (bs rfl (bs (bs (bs dF rfl) rfl) rfl)) rfl) rfl (by rw[aaa,aaa];omega) (by show _=[some (gO f g.pl (Il g.gaps) (.lst (g.words.map Il)) g.bg (gD g.us) (Wl (g.wt++[(a,g.pl)]))),IU a,IU x];rw[qr];rfl)) rfl
def B9{n:Nat}{f:Cf}{g:G}{a:Int}(u:Gt f a)(fresh:a ∉ g.us.map (·.1))(p:g.us.length<1000)(q:g.wt.length<1000)(l:∀w∈g.words,w.length<1000):∃r,pl.pg.call (n+2) 14 [GO f g,It a]=some (.fz .none,[GO f r,It a])/\Come f g a r:=by
 have k:cK (IV (n+1)) ebk [some (GO f g),IU a,none]=some (.nx,[some (GO f g),IU a,IU (nu f a)]):=ah (vK rfl u) rfl rfl rfl;rcases acf g.words with h|⟨ws,w,h⟩
 ·exact⟨_,dB (fn:=bK) rfl rfl (ab k (ab (az (vM (B8 h)) rfl) (ab (az (vN (vL h)) (jW q)) rfl))) rfl,.wait (λws w z=>absurd (h.symm.trans z) (by simp)) λws w z=>absurd (h.symm.trans z) (by simp)⟩
 ·rw[acg]at h;by_cases c:g.wt=[]/\nu f a ∉ w/\g.pl+2-g.bg<=f.r0
  ·have i:=vM (o:=It a) (zB (n:=n) (f:=f) (x:=nu f a) h);rw[Dac c]at i;have s:aw (IV (n+1)) eap [some (GO f g),IU a,IU (nu f a)]=some (.nx,[some (GO f ⟨g.pl+2,g.gaps,ws++[w++[nu f a]],g.bg,g.us,g.wt⟩),IU a,IU (nu f a)]):=by
    have t:w.length<1000:=l w (by rw[h];exact aac _ aai);rw[GO,h,aR];refine ab (kU (ρ1:=[some (gO f g.pl (Il g.gaps) (.lst (ws.map Il++[Il (w++[nu f a])])) g.bg (gD g.us) (Wl g.wt)),IU a,IU (nu f a)]) (d:=.int (nu f a)) ox rfl rfl (by rw[aaa];omega) ?_) (ab (vy dF rfl rfl rfl rfl rfl rfl f_place ?_) rfl)
    ·show [some (gO f g.pl (Il g.gaps) (OD.put (.lst (w.map It++[It (nu f a)])) [(ws.map Il).length] (.lst (ws.map Il++[Il w]))) g.bg (gD g.us) (Wl g.wt)),IU a,IU (nu f a)]=_;rw[mV,bX]
    ·rw[GO,aR];rfl
   have b:=vN (o:=It a) (qq (n:=n) (f:=f) (x:=nu f a) (g:=⟨g.pl+2,g.gaps,ws++[w++[nu f a]],g.bg,g.us,g.wt⟩) (ws:=ws) (w:=w++[nu f a]) rfl);rw[Dac ⟨aac _ aai,c.2.2⟩]at b;exact⟨_,dB (fn:=bK) rfl rfl (ab k (ab (aH i s) (ab (aH b (mW (g:=⟨g.pl+2,g.gaps,ws++[w++[nu f a]],g.bg,g.us,g.wt⟩) fresh p)) rfl))) rfl,.put h c.1 c.2.1 c.2.2⟩
  ·have i:=vM (o:=It a) (zB (n:=n) (f:=f) (x:=nu f a) h);rw[Dab c]at i;have b:=vN (o:=It a) (qq (n:=n) (f:=f) (x:=nu f a) h);by_cases j:nu f a∈w/\g.pl-g.bg<=f.r0
   ·rw[Dac j]at b;exact⟨_,dB (fn:=bK) rfl rfl (ab k (ab (az i rfl) (ab (aH b (mW fresh p)) rfl))) rfl,.got h j.1 j.2⟩
   ·rw[Dab j]at b;refine⟨_,dB (fn:=bK) rfl rfl (ab k (ab (az i rfl) (ab (az b (jW q)) rfl))) rfl,.wait (λm v z=>?_) λm v z=>?_⟩<;>(obtain⟨rfl,e⟩:=abt (h.symm.trans z) rfl;obtain rfl:=(List.cons.inj e).1)
    ·exact c
    ·exact j
def gIx:Int->List R->List Int
 |_,[]=>[]
 |i,r::rs=>if r.gr=true then i::gIx (i+1) rs else gIx (i+1) rs
def qt:∀{a b:List R}{i:Int},gIx i (a++b)=gIx i a++gIx (i+a.length) b
 |[],b,i=>by simp[gIx]
 |r::a,b,i=>by
  have e:i+1+(a.length:Int)=i+((r::a).length:Nat):=by rw[aaq];omega
  rw[aaK,gIx,gIx,qt (a:=a),e];split<;>rfl
def gIx_mem:∀{rs:List R}{i a:Int},a∈gIx i rs->∃(j:Nat) (r:R),a=i+j/\rs[j]?=some r/\r.gr=true
 |[],i,a,h=>absurd h aaw
 |r::rs,i,a,h=>by
  rw[gIx]at h;by_cases b:r.gr=true
  ·rw[if_pos b]at h;rcases aab.mp h with rfl|h
   ·exact⟨0,r,by simp,rfl,b⟩
   ·obtain⟨j,q,e,d,c⟩:=gIx_mem h;exact⟨j+1,q,by rw[e];omega,d,c⟩
  ·rw[if_neg b]at h;obtain⟨j,q,e,d,c⟩:=gIx_mem h;exact⟨j+1,q,by rw[e];omega,d,c⟩
def c9:∀{rs:List R}{i:Int},(gIx i rs).Nodup
 |[],i=>abB
 |r::rs,i=>by
  rw[gIx];split
  ·refine aaB.mpr ⟨λh=>?_,c9⟩;obtain⟨j,q,e,_⟩:=gIx_mem h;omega
  ·exact c9
def gr_st{r:R}(h:r.gr=true):∃x k,r=.st x k:=by
 cases r with
 |st x k=>exact⟨x,k,rfl⟩
 |ot w a b=>cases h
def Ca{f:Cf}{k:Nat}{a:Int}(h:a∈gIx 0 (f.rows.take k)):Gt f a:=by
 obtain⟨j,r,e,b,c⟩:=gIx_mem h;obtain⟨x,y,rfl⟩:=gr_st c;refine⟨j,x,y,by omega,?_⟩;rw[List.getElem?_take]at b;split at b
 ·exact b
 ·cases b
def fV:∀{rs:List R}{i:Int},(gIx i rs).length=(rs.filter R.gr).length
 |[],i=>rfl
 |r::rs,i=>by
  rw[gIx];by_cases a:r.gr=true
  ·rw[if_pos a,abI a,aaq,aaq,fV]
  ·rw[if_neg a,abr a,fV]
def vO{ns:List Int}{x:Int}:(cZ ns x).length<=ns.length+1:=by
 unfold cZ;split
 ·omega
 ·rw[aal,aaI];exact aag _
def take_one{f:Cf}{k:Nat}{r:R}(h:f.rows[k]?=some r):f.rows.take (k+1)=f.rows.take k++[r]:=by rw[List.take_succ,h];rfl
def lg{f:Cf}{k:Nat}{r:R}(h:f.rows[k]?=some r):gIx 0 (f.rows.take (k+1))=gIx 0 (f.rows.take k)++if r.gr=true then [(k:Int)] else []:=by have a:=(aar.mp h).1;rw[take_one h,qt,abk,Nat.min_eq_left (by omega),gIx,gIx,ach]
def mX{f:Cf}:∀{wt:List (Int×Int)}{ns:List Int},(wt.foldl (λns q=>cZ ns (nu f q.1)) ns).length<=ns.length+wt.length
 |[],ns=>aag _
 |q::wt,ns=>by have b:=mX (f:=f) (wt:=wt) (ns:=cZ ns (nu f q.1));have a:=vO (ns:=ns) (x:=nu f q.1);rw[List.foldl_cons,aaq];omega
structure Iv (f:Cf)(g:G)(k m:Nat):Prop where
 ix:g.us.map (·.1)++g.wt.map (·.1)=gIx 0 (f.rows.take k)
 wl:g.words.length=g.gaps.length
 gl:g.gaps.length<=m
 wn:∀w∈g.words,w.length<=g.us.length
 far:g.wt≠[]->g.words≠[]->f.r0<g.pl-g.bg
def Iv.start{f:Cf}:Iv f ⟨0,[],[],0,[],[]⟩ 0 0:=⟨rfl,rfl,aag _,λw h=>absurd h aaw,λh=>absurd rfl h⟩
def Iv.lay{f:Cf}{g:G}{k m:Nat}(I:Iv f g k m):Iv f (sA f g k) k (m+1):=by
 refine⟨?_,?_,?_,λw a=>?_,λh=>absurd rfl h⟩
 ·show (g.us++_).map (·.1)++[]=_;rw[aam,aax,aa0,<-I.ix];rfl
 ·show (g.words++[_]).length=(g.gaps++[_]).length;rw[aal,aal,I.wl];rfl
 ·show (g.gaps++[_]).length<=m+1;rw[aal,aaI];exact Nat.succ_le_succ I.gl
 ·show w.length<=(g.us++g.wt.map _).length;rw[aal,aaa];rcases aak.mp a with h|h
  ·exact aan (I.wn w h) (aa8 _ _)
  ·rw[aaz.mp h];have:=mX (f:=f) (wt:=g.wt) (ns:=[]);rw[aaX,aaO]at this;exact aan this (Nat.le_add_left _ _)
def Iv.come{f:Cf}{g b:G}{k m:Nat}(I:Iv f g k m){r:R}(l:f.rows[k]?=some r)(o:r.gr=true)(h:Come f g k b):Iv f ⟨b.pl+2,b.gaps,b.words,b.bg,b.us,b.wt⟩ (k+1) m:=by
 have p:∀j:Int,g.wt=[]->(g.us++[((k:Int),j)]).map (·.1)++g.wt.map (·.1)=gIx 0 (f.rows.take (k+1)):=λj a=>by have x:=I.ix;rw[lg l,if_pos o,<-x,a,aaC,aam,aam,aax];rfl
 have q:∀j:Int,(g.us++[((k:Int),j)]).length=g.us.length+1:=λj=>by rw[aal];rfl
 cases h with
 |@put d w h a hn=>
  have n:=I.wl;rw[h,aal]at n;refine⟨p _ a,?_,I.gl,λv i=>?_,λz=>absurd a z⟩
  ·show (d++[_]).length=_;rw[aal];exact n
  ·show v.length<=(g.us++[_]).length;rw[q];rcases aak.mp i with z|z
   ·exact Nat.le_succ_of_le (I.wn v (by rw[h];exact aae _ z))
   ·rw[aaz.mp z,aal,aaI];exact Nat.succ_le_succ (I.wn w (by rw[h];exact aac _ aai))
 |@got d w h hn h0=>
  have a:g.wt=[]:=by
   by_cases a:g.wt=[]
   ·exact a
   ·have:=I.far a (by rw[h];simp);omega
  exact⟨p _ a,I.wl,I.gl,λv i=>by show _<=(g.us++[_]).length;rw[q];exact Nat.le_succ_of_le (I.wn v i),λz=>absurd a z⟩
 |wait y t=>
  refine⟨?_,I.wl,I.gl,I.wn,λ_ a=>?_⟩
  ·show g.us.map (·.1)++(g.wt++[_]).map (λu:Int×Int=>u.1)=_;rw[lg l,if_pos o,aax,<-aad,I.ix];rfl
  ·show f.r0<g.pl+2-g.bg;by_cases c:g.wt=[]
   ·rcases acf g.words with e|⟨d,w,e⟩
    ·exact absurd e a
    ·rw[acg]at e;by_cases s:nu f (k:Int)∈w
     ·have:=t d w e;have:¬ g.pl-g.bg<=f.r0:=λz=>this ⟨s,z⟩;omega
     ·have:=y d w e;have:¬ g.pl+2-g.bg<=f.r0:=λz=>this ⟨c,s,z⟩;omega
   ·have:=I.far c a;omega
def Iv.skip{f:Cf}{g:G}{k m:Nat}(I:Iv f g k m){r:R}(b:f.rows[k]?=some r)(a:r.gr=false){s:Int}(d:1<=s):Iv f ⟨g.pl+s,g.gaps,g.words,g.bg,g.us,g.wt⟩ (k+1) m:=
 ⟨by rw[lg b,a,if_neg aaf,aam];exact I.ix,I.wl,I.gl,I.wn,λh c=>by have:=I.far h c;show f.r0<g.pl+s-g.bg;omega⟩
def Iv.more{f:Cf}{g:G}{k m a:Nat}(I:Iv f g k m)(h:m<=a):Iv f g k a:=⟨I.ix,I.wl,aan I.gl h,I.wn,I.far⟩
def Iv.len{f:Cf}{g:G}{k m:Nat}(I:Iv f g k m):g.us.length+g.wt.length<=k:=by have:=congrArg List.length I.ix;rw[aal,aaa,aaa,fV]at this;rw[this];exact aan (aaU _ _) (by rw[abk];exact Nat.min_le_left _ _)
def Iv.j1{f:Cf}{g:G}{k m:Nat}(I:Iv f g k m):∀w∈g.words,w.length<=k:=λw a=>aan (I.wn w a) (aan (aa8 _ _) I.len)
def Iv.nodup{f:Cf}{g:G}{k m:Nat}(I:Iv f g k m):(g.us.map (·.1)++g.wt.map (·.1)).Nodup:=by rw[I.ix];exact c9
def Iv.gt{f:Cf}{g:G}{k m:Nat}(I:Iv f g k m):∀q∈g.wt,Gt f q.1:=λq a=>Ca (k:=k) (by rw[<-I.ix];exact aac _ (aay.mpr ⟨q,a,rfl⟩))
def laysG(f:Cf)(g:G)(k:Nat):G:=if due f g k=true then sA f g k else g
def Cb{n:Nat}{f:Cf}{g:G}{k:Nat}(I:Iv f g k k)(hk:k<=f.rows.length)(i:f.rows.length<=200):cK (IV (n+4)) eai [some (GO f g),IU k]=some (.nx,[some (GO f (laysG f g k)),IU k])/\Iv f (laysG f g k) k (k+1):=by
 have c:=Fi (n:=n) (f:=f) (g:=g) hk;unfold laysG;generalize due f g k=b at c ⊢;have a:aT (IV (n+4)) HX [some (GO f g),IU k]=some (b,[some (GO f g),IU k]):=oh (fe (ρ3:=[some (GO f g),IU k]) rfl (by decide +kernel) rfl rfl c rfl);cases b with
 |false=>exact⟨az a rfl,I.more (aa6 _)⟩
 |true=>have j:=I.len;have h:=I.gl;have d:=I.wl;have e:=Fj (n:=n) hk I.gt I.nodup (by omega) (by omega) (by omega);exact⟨aH a (ab (vz (fe rfl (by decide +kernel) rfl rfl e rfl)) rfl),I.lay⟩
structure Cross (f:Cf)(g:G)(k:Nat)(g2:G):Prop where
 gr:(f.rows[k]?).elim false R.gr=true->Come f (laysG f g k) k g2
 no:(f.rows[k]?).elim false R.gr=false->g2=laysG f g k
abbrev oy(g:G)(s:Int):G:=⟨g.pl+s,g.gaps,g.words,g.bg,g.us,g.wt⟩
def Fk{f:Cf}{k:Nat}{r:R}(b:f.rows[k]?=some r)(a:r.gr=true):sz f k=2:=by unfold sz;rw[b];exact if_pos (.inl a)
def Cc{f:Cf}{k:Nat}:1<=sz f k:=by unfold sz;split<;>decide
def qu{n:Nat}{f:Cf}{g:G}{k:Nat}(I:Iv f g k k)(hk:k<=f.rows.length)(H:f.rows.length<=200):(k<f.rows.length->∃b,pl.pg.call (n+5) 15 [GO f g,It k]=some (.fz .none,[GO f (oy b (sz f k)),It k])/\Cross f g k b/\Iv f (oy b (sz f k)) (k+1) (k+1))/\(k=f.rows.length->pl.pg.call (n+5) 15 [GO f g,It k]=some (.fz .none,[GO f (laysG f g k),It k])/\Iv f (laysG f g k) k (k+1)):=by
 obtain⟨t,m⟩:=Cb (n:=n) I hk H;generalize hg1:laysG f g k=g1 at t m ⊢;have c:ev (IV (n+4)) eby [some (GO f g1),IU k]=some (.val (It f.rows.length),[some (GO f g1),IU k]):=aX (aa (ck eD rfl) af) rfl blen;by_cases s:k<f.rows.length
 ·have p:=aap s;refine⟨λ_=>?_,λe=>absurd e (by omega)⟩;have D:=ow (n:=n+2) (f:=f) p;have q:(f.rows[k]?).elim false R.gr=(f.rows[k]).gr:=by rw[p];rfl
  have v:=aj (ar (C:=IV (n+4)) (ρ:=[some (GO f g1),IU k]) (a:=.nm 1) (o:=.lt) (k:=true) rfl c rfl rfl (show some (decide ((k:Int)<f.rows.length))=some true by rw[Dac (by omega)]));have u:aT (IV (n+4)) ebl [some (GO f g1),IU k]=some ((f.rows[k]).gr,[some (GO f g1),IU k]):=bp (ae (ρ3:=[some (GO f g1),IU k]) (aa (aN (ck eD rfl) rfl rfl (bS (eE p))) af) rfl (B5 _) rfl);have d:∀b:G,cK (IV (n+4)) eah [some (GO f b),IU k]=some (.nx,[some (GO f (oy b (sz f k))),IU k]):=λb=>vy dF rfl (ae (ρ3:=[some (GO f b),IU k]) (aa (ck eD rfl) (aa (ck qm rfl) (aa rfl af))) rfl D rfl) rfl rfl rfl rfl f_place rfl;cases l:(f.rows[k]).gr with
  |false=>rw[l]at u;exact⟨_,dB (fn:=bW) rfl rfl (ab t (ab (aH v (ab (az u rfl) (ab (d g1) rfl))) rfl)) rfl,⟨λz=>absurd (l.symm.trans (q.symm.trans z)) aaf,λ_=>hg1.symm⟩,m.skip p l Cc⟩
  |true=>
   rw[l]at u;obtain⟨x,y,A⟩:=gr_st l;have N:=m.len;obtain⟨b,F,B⟩:=B9 (n:=n+2) (f:=f) (g:=g1) (a:=k) ⟨k,x,y,rfl,by rw[p,A]⟩ (λL=>by
    have:=gIx_mem (i:=0) (rs:=f.rows.take k) (a:=k) (by rw[<-m.ix];exact aae _ L);obtain⟨j,r,e,J,_⟩:=this;have:=(aar.mp J).1;rw[abk]at this;omega) (by omega) (by omega) (λw M=>by have:=m.j1 w M;omega)
   exact⟨_,dB (fn:=bW) rfl rfl (ab t (ab (aH v (ab (aH u (ab (vz (fe (ρ3:=[some (GO f b),IU k]) rfl (by decide +kernel) rfl rfl F rfl)) rfl)) (ab (d b) rfl))) rfl)) rfl,⟨λ_=>by rw[hg1];exact B,λz=>absurd (l.symm.trans (q.symm.trans z)).symm aaf⟩,by rw[Fk p l];exact m.come p l B⟩
 ·have v:=aj (ar (C:=IV (n+4)) (ρ:=[some (GO f g1),IU k]) (a:=.nm 1) (o:=.lt) (k:=false) rfl c rfl rfl (show some (decide ((k:Int)<f.rows.length))=some false by rw[Dab (by omega)]));exact⟨λh=>absurd h s,λ_=>⟨dB (fn:=bW) rfl rfl (ab t (ab (az v rfl) rfl)) rfl,m⟩⟩
def enF:Int->List R->List PyData
 |_,[]=>[]
 |i,r::rs=>.tuple [.int i,r.d]::enF (i+1) rs
def qw:∀{rs:List R}{i:Int}{j:Nat},(enF i rs)[j]?=(rs[j]?).map λr=>.tuple [.int (i+j),r.d]
 |[],_,_=>by simp[enF]
 |r::rs,i,0=>by simp[enF]
 |r::rs,i,j+1=>by
  rw[enF,acz,acz,qw];congr 1;funext r;have e:i+1+(j:Int)=i+((j+1:Nat):Int):=by omega
  rw[e]
def lh(rs:List R):eU (rs.map R.d)=enF 0 rs:=by
 refine List.ext_getElem? λj=>?_;rw[qw,ach];unfold eU;rw[aav,aaa];by_cases a:j<rs.length
 ·rw[List.getElem?_range a,aap a];simp[ab0,aav,aap a]
 ·rw[acA (by simpa using a),acA (by omega)];rfl
def lj{n:Nat}:∀{rs:List R}{i:Int}{out:List PyData}{o0 o1:Option OD},∃a,bw (bF (IV (n+1)) (.tp [0,1]) (.some edn) (.nm 0)) (enF i rs) out [o0,o1]=some (out++(gIx i rs).map PyData.int,a)
 |[],i,out,o0,o1=>⟨[o0,o1],by rw[gIx,aaC,aam];rfl⟩
 |r::rs,i,out,o0,o1=>by
  have b:aT (IV (n+1)) edn [IU i,some (Rd r)]=some (r.gr,[IU i,some (Rd r)]):=bp (ae (ρ3:=[IU i,some (Rd r)]) rfl rfl (B5 r) rfl);rw[gIx];cases c:r.gr with
  |false=>rw[c]at b;obtain⟨a,e⟩:=lj (n:=n) (rs:=rs) (i:=i+1) (out:=out++[]) (o0:=IU i) (o1:=some (Rd r));refine⟨a,bs (x:=([],[IU i,some (Rd r)])) (yB rfl b) ?_⟩;rw[if_neg aaf,e,aam]
  |true=>rw[c]at b;obtain⟨a,e⟩:=lj (n:=n) (rs:=rs) (i:=i+1) (out:=out++[.int i]) (o0:=IU i) (o1:=some (Rd r));refine⟨a,bs (x:=([.int i],[IU i,some (Rd r)])) (yA rfl b rfl rfl) ?_⟩;rw[if_pos rfl,e,aad];rfl
def vP{n:Nat}{rs:List R}(b:rs.length<=1000):pl.pg.call (n+2) 2 [Rl rs]=some (Il (gIx 0 rs),[Rl rs]):=by obtain⟨a,e⟩:=lj (n:=n) (rs:=rs) (i:=0) (out:=[]) (o0:=none) (o1:=none);rw[aaM,<-lh]at e;refine ai (fn:=gV) (ρ:=[some (Rl rs)]) rfl rfl (aC (aq (z:=Il (gIx 0 rs)) (cQ (ρ2:=[some (Rl rs)]) (oo rfl rfl) (by rw[gj,aaa];omega) rfl e unca_nil) (by rw[dQ];rfl))) rfl
abbrev Po(q:Int×List Int):PyData:=.tuple [.int q.1,.tuple (q.2.map PyData.int)]
abbrev Pn(ps:List (Int×List Int))(us:List Int):OD:=.tup [.lst ((ps.map Po).map OD.fz),Il us]
def jh{C:Ct}:∀{gs:List Int}{ws:List (List Int)}{out:List PyData}{o0 o1:Option OD},∃a,bw (bF C (.tp [0,1]) .none (.tup ecd)) (gk (gs.map PyData.int) (ws.map λw=>.list (w.map PyData.int))) out [o0,o1]=some (out++(gs.zip ws).map Po,a)
 |[],ws,out,o0,o1=>⟨[o0,o1],by simp only[aaC,List.zip_nil_left,aam];rfl⟩
 |g::gs,[],out,o0,o1=>⟨[o0,o1],by simp only[aaC,List.zip_nil_right,aam];rfl⟩
 |g::gs,w::ws,out,o0,o1=>by obtain⟨a,e⟩:=jh (C:=C) (gs:=gs) (ws:=ws) (out:=out++[Po (g,w)]) (o0:=IU g) (o1:=some (.fz (.list (w.map PyData.int))));refine⟨a,bs (x:=([Po (g,w)],[IU g,some (.fz (.list (w.map PyData.int)))])) (su rfl (bM (z:=.fz (Po (g,w))) (aa rfl (aa (pW rfl rfl) af)) rfl rfl rfl) rfl) ?_⟩;rw[aad]at e;exact e
def find_key:∀{us:List (Int×Int)}{i:Nat}{u:Int×Int},(us.map (·.1)).Nodup->us[i]?=some u->(us.map λu=>(Sum.inl u.1:Key)).findIdx? (λq=>decide (q=.inl u.1))=some i
 |[],_,_,_,h=>by simp at h
 |v::us,0,u,_,h=>by cases h;rw[aaj,aa9];simp
 |v::us,i+1,u,nd,h=>by rw[aaj]at nd;obtain⟨b,d⟩:=aaB.mp nd;have h:us[i]?=some u:=h;have a:v.1≠u.1:=λe=>b (by rw[e];exact aay.mpr ⟨u,abd h,rfl⟩);rw[aaj,aa9,find_key d h];have c:decide ((Sum.inl v.1:Key)=.inl u.1)=false:=Dab λe=>a (Sum.inl.inj e);rw[c];rfl
def jX{C:Ct}{f:Cf}{p b:Int}{x4 x5 x8:OD}{us:List (Int×Int)}(c:(us.map (·.1)).Nodup):∀{vs:List (Int×Int)}{i:Nat}{out:List PyData}{o:Option OD},us.drop i=vs->∃a,bw (bF C (.nm 0) .none (.pg 1 [.key 0,.fld ac ga])) ((vs.map (·.1)).map PyData.int) out [o,some (gO f p x4 x5 b (gD us) x8)]=some (out++(vs.map (·.2)).map PyData.int,[a,some (gO f p x4 x5 b (gD us) x8)])
 |[],i,out,o,_=>⟨o,by simp only[aaC,aam];rfl⟩
 |v::vs,i,out,o,h=>by
  have d:us[i]?=some v:=by have:=congrArg (λl=>l[0]?) h;simp only[ab2,Nat.add_zero]at this;exact this
  have g:us.drop (i+1)=vs:=by have:=congrArg List.tail h;rw[aci]at this;exact this
  obtain⟨a,e⟩:=jX (C:=C) (f:=f) (p:=p) (b:=b) (x4:=x4) (x5:=x5) (x8:=x8) c (vs:=vs) (out:=out++[.int v.2]) (o:=IU v.1) g;have j:ak [IU v.1,some (gO f p x4 x5 b (gD us) x8)] 1 [.key 0,.fld ac ga]=some (gO f p x4 x5 b (gD us) x8,[7,i],It v.2):=bs (x:=(gO f p x4 x5 b (gD us) x8,[7],gD us)) rfl (bs (x:=i) (find_key c d) (bs (x:=It v.2) (by show (us.map λu=>It u.2)[i]?=_;rw[aav,d];rfl) rfl));refine⟨a,bs (x:=([.int v.2],[IU v.1,some (gO f p x4 x5 b (gD us) x8)])) (su rfl (ck j rfl) rfl) ?_⟩;rw[aad]at e;exact e
def Cd{n:Nat}{f:Cf}{g:G}(j:f.rows.length<=1000)(k:g.gaps.length<1000)(m:g.words.length=g.gaps.length)(c:g.us.map (·.1)=gIx 0 f.rows):∃y,pl.pg.call (n+3) 16 [GO f g]=some (Pn (g.gaps.zip g.words) (g.us.map (·.2)),[y]):=by
 obtain⟨ρ1,e⟩:=jh (C:=IV (n+2)) (gs:=g.gaps) (ws:=g.words) (out:=[]) (o0:=none) (o1:=none);obtain⟨l,a⟩:=jX (C:=IV (n+2)) (f:=f) (p:=g.pl) (b:=g.bg) (x4:=.fz (.list (g.gaps.map PyData.int))) (x5:=.fz (.list (g.words.map λw=>.list (w.map PyData.int)))) (x8:=Wl g.wt) (us:=g.us) (by rw[c];exact c9) (vs:=g.us) (i:=0) (out:=[]) (o:=none) rfl;rw[aaM]at e a;rw[c]at a;generalize hO:gO f g.pl (.fz (.list (g.gaps.map PyData.int))) (.fz (.list (g.words.map λw=>.list (w.map PyData.int)))) g.bg (gD g.us) (Wl g.wt)=O at a;have h:(g.us.map (·.1)).length=(gIx 0 f.rows).length:=by rw[c]
 refine⟨O,ai (fn:=fP) (ρ:=[some O,none]) rfl rfl (ab (ah (ρ3:=[some O,some (.lst (((g.gaps.zip g.words).map Po).map OD.fz))]) (cQ (ρ2:=[some O,none]) (vA (ρ1:=[some (gO f g.pl (.fz (.list (g.gaps.map PyData.int))) (.lst (g.words.map Il)) g.bg (gD g.us) (Wl g.wt)),none]) (ρ2:=[some O,none]) (BX k7 (aK _) rfl) (BX dG (jg _) (by rw[<-hO];rfl)) rfl rfl rfl rfl) ?_ rfl e unca_nil) rfl rfl rfl) (aC (aq (z:=Pn (g.gaps.zip g.words) (g.us.map (·.2))) (bM (rs:=[.val (.lst (((g.gaps.zip g.words).map Po).map OD.fz)),.val (Il (g.us.map (·.2)))]) (zs:=[.lst (((g.gaps.zip g.words).map Po).map OD.fz),Il (g.us.map (·.2))]) (ρ1:=[some O,none]) (ρ2:=[some O,none]) (aa (ρ1:=[some O,none]) rfl (aa ?_ af)) rfl rfl rfl) rfl))) rfl⟩
 ·unfold gk;rw[acb,aaa];omega
 ·have:=cQ (C:=IV (n+2)) (ρ:=[some O,none]) (ρ2:=[some O,none]) (nt:=1) (fr:=[0]) (it:=.seq eb4) (bQ (ds:=(gIx 0 f.rows).map PyData.int) (ae (ρ3:=[some O,none]) (aa (ck (d:=.list (f.rows.map R.d)) (p:=(O,[0],Rl f.rows)) (by rw[<-hO];rfl) rfl) af) rfl (vP (n:=n) j) rfl) (show frz1 _ (.val (Il (gIx 0 f.rows)))=some (.list ((gIx 0 f.rows).map PyData.int),_) by show ((Il (gIx 0 f.rows)).dat).map _=_;rw[aK];rfl) rfl) (by rw[aaa];rw[fV];have:=aaU R.gr f.rows;omega) (zc:=([some O],[none,none])) (by rw[<-hO];rfl) a rfl;rw[dQ]at this;exact this
def br{a:Int}{n:Nat}:cC a (n+1)=.int a::cC (a+1) n:=by
 unfold cC;rw[List.range_succ_eq_map,aaj,aa0];congr 1
 ·simp
 ·refine acu λi _=>?_;show PyData.int (a+((i+1:Nat):Int))=_;congr 1;omega
abbrev pE(f:Cf)(g:G)(o:Option OD):DEnv:=[some (Rl f.rows),some (Lo f),some (Re f),some (GO f g),o]
def Iv.lays{f:Cf}{g:G}{k:Nat}(I:Iv f g k k):Iv f (laysG f g k) k (k+1):=by
 unfold laysG;split
 ·exact I.lay
 ·exact I.more (aa6 _)
inductive Path (f:Cf):Nat->G->G->Prop
 |nil {k:Nat}{g:G} (hk:k=f.rows.length) (I:Iv f g k k):Path f k g g
 |cons {k:Nat}{g g2 g':G} (hk:k<f.rows.length) (I:Iv f g k k) (C:Cross f g k g2) (h:Path f (k+1) (oy g2 (sz f k)) g'):Path f k g g'
def yH{f:Cf}{g:G}(h:g.wt≠[]):due f g f.rows.length=true:=by
 unfold due;cases a:g.wt with
 |nil=>exact absurd a h
 |cons q b=>show (decide _||_)=true;rw[Dac rfl];rfl
def mY{f:Cf}{g:G}:(laysG f g f.rows.length).wt=[]:=by
 unfold laysG;by_cases h:g.wt=[]
 ·split
  ·rfl
  ·exact h
 ·rw[if_pos (yH h)];rfl
def ji{n:Nat}{f:Cf}{g a:G}{o:Option OD}{k:Nat}(e:pl.pg.call (n+5) 15 [GO f g,It k]=some (.fz .none,[GO f a,It k])):((aW (.nm 4) (.fz (.int k)) (pE f g o)).bind λρ1=>aw (IV (n+5)) ebi ρ1)=some (.nx,pE f a (IU k)):=
 bs (x:=pE f g (IU k)) rfl (ab (vz (fe (ρ3:=pE f a (IU k)) rfl (by decide +kernel) rfl rfl e rfl)) rfl)
def jk{n:Nat}{f:Cf}(b:f.rows.length<=200):∀{m k:Nat}{g:G}{o:Option OD},k+m=f.rows.length->Iv f g k k->∃j a,bE (λd i=>(aW (.nm 4) (.fz d) i).bind λρ1=>aw (IV (n+5)) ebi ρ1) (cC k (m+1)) (pE f g o)=some (.nx,pE f (laysG f j f.rows.length) a)/\Iv f (laysG f j f.rows.length) f.rows.length (f.rows.length+1)/\Path f k g j
 |0,k,g,o,h,I=>by obtain rfl:k=f.rows.length:=h;obtain⟨e,J⟩:=(qu (n:=n) I (aag _) b).2 rfl;refine⟨g,IU f.rows.length,?_,J,.nil rfl I⟩;rw[br];exact bs (ji e) rfl
 |m+1,k,g,o,h,I=>by
  have c:k<f.rows.length:=by omega
  obtain⟨r,e,C,J⟩:=(qu (n:=n) I (aaQ c) b).1 c;obtain⟨l,a,q,p,W⟩:=jk (n:=n) b (m:=m) (k:=k+1) (o:=IU k) (by omega) J;refine⟨l,a,?_,p,.cons c I C W⟩;rw[br];exact bs (ji e) q
def Fm{n:Nat}{f:Cf}:(IV (n+5)).mak 9 [.obj ac [] [],Rl f.rows,Lo f,Re f]=some (.fz .none,[GO f ⟨0,[],[],0,[],[]⟩,Rl f.rows,Lo f,Re f]):=by have e:(IV (n+5)).mak=pl.pg.mak (n+5):=rfl;rw[e,Pg.u5 pl.pg (n+4) 9];exact B6
def qx{n:Nat}{f:Cf}(c:f.rows.length<=200):∃g:G,pl.pg.call (n+6) 17 [Rl f.rows,Lo f,Re f]=some (Pn (g.gaps.zip g.words) (g.us.map (·.2)),[Rl f.rows,Lo f,Re f])/\∃g0,g=laysG f g0 f.rows.length/\Iv f g f.rows.length (f.rows.length+1)/\Path f 0 ⟨0,[],[],0,[],[]⟩ g0:=by
 obtain⟨g0,o,e,I,W⟩:=jk (n:=n) c (m:=f.rows.length) (k:=0) (g:=⟨0,[],[],0,[],[]⟩) (o:=none) (by omega) Iv.start;have a:=mY (f:=f) (g:=g0);generalize hg:laysG f g0 f.rows.length=g at e I a;have d:g.us.map (·.1)=gIx 0 f.rows:=by have:=I.ix;rw[a,aaC,aam,List.take_length]at this;exact this
 have b:=I.gl;obtain⟨y,h⟩:=Cd (n:=n+2) (f:=f) (g:=g) (by omega) (by omega) I.wl d;refine⟨g,ai (fn:=gW) (ρ:=[some (Rl f.rows),some (Lo f),some (Re f),some y,o]) rfl rfl ?_ rfl,g0,hg.symm,I,W⟩;refine ab (ah (ρ3:=pE f ⟨0,[],[],0,[],[]⟩ none) (BW rfl rfl Fm rfl) rfl rfl rfl) ?_;refine ab (cp (dA (n:=f.rows.length+1) (ρ1:=pE f ⟨0,[],[],0,[],[]⟩ none) (ag (dx:=.int f.rows.length) (aX rfl rfl blen) rfl rfl rfl rfl) rfl (by omega)) (by rw[show ((f.rows.length:Int)+1).toNat=f.rows.length+1 by omega];exact e)) ?_;exact aC (aq (fe (ρ3:=[some (Rl f.rows),some (Lo f),some (Re f),some y,o]) rfl (by decide +kernel) rfl rfl h rfl) rfl)
structure Mc where
 ps:List Int
 bs:List Int
 pl:Int
def inn(f:Cf)(k:Nat)(s:Mc)(q:Int×List Int):Mc:=if q.1=(k:Int) then ⟨s.ps,s.bs++[fw f.rows k s.pl],fw f.rows k s.pl+2*q.2.length⟩ else s
def inner(f:Cf)(qs:List (Int×List Int))(k:Nat)(s:Mc):Mc:=qs.foldl (inn f k) s
def CS(f:Cf)(k:Nat)(s:Mc):Mc:=⟨s.ps++[s.pl],s.bs,s.pl+sz f k⟩
def fq(f:Cf)(qs:List (Int×List Int)):Nat->Mc
 |0=>⟨[],[],0⟩
 |k+1=>CS f k (inner f qs k (fq f qs k))
def fW{f:Cf}{k:Nat}:∀{qs:List (Int×List Int)}{s:Mc},(∀q∈qs,q.1≠(k:Int))->inner f qs k s=s
 |[],s,_=>rfl
 |q::qs,s,h=>by show inner f qs k (inn f k s q)=s;have e:inn f k s q=s:=if_neg (h q aai);rw[e];exact fW λq a=>h q (aah _ a)
def sC{f:Cf}{k:Nat}{a b:List (Int×List Int)}{s:Mc}:inner f (a++b) k s=inner f b k (inner f a k s):=List.foldl_append
def Ce{f:Cf}{k:Nat}{s:Mc}{q:Int×List Int}:(inn f k s q).ps=s.ps:=by unfold inn;split<;>rfl
def eF{f:Cf}{k:Nat}:∀{qs:List (Int×List Int)}{s:Mc},(inner f qs k s).ps=s.ps
 |[],s=>rfl
 |q::qs,s=>by show (inner f qs k (inn f k s q)).ps=_;rw[eF,Ce]
def ik{f:Cf}{qs:List (Int×List Int)}:∀{k:Nat},(fq f qs k).ps.length=k
 |0=>rfl
 |k+1=>by show ((inner f qs k (fq f qs k)).ps++[_]).length=_;rw[eF,aal,ik];rfl
def lp{n:Nat}{f:Cf}{k:Nat}{r:R}(h:f.rows[k]?=some r):pl.pg.call (n+2) 29 [Rl f.rows,Lo f,It k]=some (It (sz f k),[Rl f.rows,Lo f,It k]):=by
 unfold sz;rw[h];have a:=ae (C:=IV (n+1)) (f:=28) (es:=.cons Hs .nil) (ρ:=[some (Rl f.rows),some (Lo f),IU k]) (ρ3:=[some (Rl f.rows),some (Lo f),IU k]) (aa (aN rfl rfl rfl (bS (eE h))) af) rfl (mR r) rfl;cases b:r.gr with
 |true=>rw[b]at a;rw[if_pos (.inl b)];exact ai (fn:=kY) rfl rfl (aC (aq (fN (jM (bp a)) rfl) rfl)) rfl
 |false=>
  rw[b]at a;have c:aT (IV (n+1)) edv [some (Rl f.rows),some (Lo f),IU k]=some (decide ((k:Int)∈f.longs),[some (Rl f.rows),some (Lo f),IU k]):=aj (ar rfl rfl rfl rfl inL);cases d:decide ((k:Int)∈f.longs) with
  |true=>rw[d]at c;rw[if_pos (.inr (Daa d))];exact ai (fn:=kY) rfl rfl (aC (aq (fN (cH (bp a) c) rfl) rfl)) rfl
  |false=>rw[d]at c;rw[if_neg λz=>z.elim (λz=>absurd (b.symm.trans z) aaf) λz=>Dad d z];exact ai (fn:=kY) rfl rfl (aC (aq (jL (cH (bp a) c) rfl) rfl)) rfl
def qy(r:R):mo .nin (.str r.wd) (.tuple [.str bv,.str lc])=some r.fal:=by show some (!(decide (bv=r.wd)||(decide (lc=r.wd)||false)))=some (!decide (r.wd=bv)&&!decide (r.wd=lc));rw[abz,Bool.not_or,decide_eq_decide.mpr (eq_comm (a:=Str.ofString "go")),decide_eq_decide.mpr (eq_comm (a:=Str.ofString "stop"))]
def vQ{n:Nat}{rs:List R}{k:Nat}{p:Int}(h:k<=rs.length):pl.pg.call (n+1) 33 [Rl rs,It k,It p]=some (It (fw rs k p),[Rl rs,It k,It p]):=by
 have a:ev (IV n) eag [some (Rl rs),IU k,IU p]=some (.val (.fz (.bool (ovN rs k))),[some (Rl rs),IU k,IU p]):=by
  cases k with
  |zero=>exact pY rfl
  |succ k=>
   have c:((k+1:Nat):Int)-1=(k:Int):=by omega
   have e:ovN rs (k+1)=(rs[k]).fal:=by show (rs[k]?).elim true R.fal=_;rw[aap h];rfl
   rw[e];exact pZ (ar rfl rfl rfl rfl (show some (decide (((k+1:Nat):Int)=0))=some false by rw[Dab (by omega)])) (ar (dx:=.str (rs[k]).wd) (dy:=.tuple [.str bv,.str lc]) (aN (aN rfl rfl rfl (bS (d:=(rs[k]).d) (by rw[c];exact eE (aap (by omega))))) rfl rfl (by rw[R.x6];exact bz bc)) rfl rfl rfl (qy _))
 unfold fw;generalize ovN rs k=b at a;cases b with
 |true=>exact ai (fn:=gH) rfl rfl (ab (ah (ag (d:=.int (p+2)) rfl (ag rfl (aX (d:=.int 1) (aa a af) rfl rfl) rfl rfl (cN (.inl (by decide)))) rfl rfl rfl) rfl rfl rfl) (aC (aq (ag rfl (ag rfl rfl rfl rfl (cO (by decide))) rfl rfl rfl) rfl))) rfl
 |false=>exact ai (fn:=gH) rfl rfl (ab (ah (ag (d:=.int p) rfl (ag rfl (aX (d:=.int 0) (aa a af) rfl rfl) rfl rfl (cN (.inl (by decide)))) rfl rfl (show some (PyData.int (p+2*0))=_ by rw[Int.mul_zero,Int.add_zero])) rfl rfl rfl) (aC (aq (ag rfl (ag rfl rfl rfl rfl (cO (by decide))) rfl rfl rfl) rfl))) rfl
abbrev Tr:=Int×List Int×Int
abbrev tO(t:Tr):OD:=.lst [It t.1,Il t.2.1,It t.2.2]
abbrev TO(ts:List Tr):OD:=.lst (ts.map tO)
abbrev lE(f:Cf)(x3 x4 x5:OD)(p:Int)(o7 o8 o9 o10 o11 o12 o13:Option OD):DEnv:=[some (Rl f.rows),some (Lo f),some (Re f),some x3,some x4,some x5,IU p,o7,o8,o9,o10,o11,o12,o13]
structure Tl (g:G)(ts:List Tr):Prop where
 gs:ts.map (·.1)=g.gaps
 ws:ts.map (·.2.1)=g.words
 bg:∀t,ts.getLast?=some t->t.2.2=g.bg
def zC:∀wt:List (Int×Int),PyData.canLayAll0 (wt.map Wq)=true
 |[]=>rfl
 |_::r=>by simp[PyData.canLayAll0,PyData.canLay0,zC r]
def zD:∀wt:List (Int×Int),PyData.depthAll (wt.map Wq)<=1
 |[]=>by simp[PyData.depthAll]
 |_::r=>by have:=zD r;simp[PyData.depthAll,PyData.depth];omega
def Fo(wt:List (Int×Int)):mo .eq (.list (wt.map Wq)) (.list [])=some wt.isEmpty:=by
 have h:SeqAt.shaped (.list (wt.map Wq))=true:=by have:=zD wt;simp[SeqAt.shaped,PyData.canLay0,PyData.depth,zC];omega
 have a:SeqAt.shaped (.list [])=true:=by decide +kernel
 have:PyData.eqv (.list (wt.map Wq)) (.list [])=wt.isEmpty:=by cases wt<;>simp[PyData.eqv,PyData.eqvAll]
 show (if (SeqAt.shaped (.list (wt.map Wq))&&SeqAt.shaped (.list []))=true then some (PyData.eqv (.list (wt.map Wq)) (.list [])) else none)=_;rw[h,a,abK,if_pos rfl,this]
def yI{ρ:DEnv}{j:Nat}{ds:List PyData}{i:Int}{d:PyData}(h:ρ[j]?.join=some (.lst (ds.map OD.fz)))(e:atI (ds.map OD.fz) i=some (.fz d)):bu ρ (.rf j) i=some (.fz d,ρ):=by
 obtain⟨k,b,a⟩:=bnd e;have c:itemS (.lst (ds.map OD.fz)) i=some (d,.lst (ds.map OD.fz)):=by simp only[itemS,b,a,OD.dat];rw[bD a]
 simp only[bu,h,c];rw[set_self (join_some h)]
section
variable{n k:Nat}{f:Cf}{x3 x4:OD}{wt:List (Int×Int)}{p:Int}{o7 o8 o9 o10 o11 o12 o13:Option OD}
def oz:aT (IV n) edq (lE f x3 x4 (Wl wt) p o7 o8 o9 o10 o11 o12 o13)=some (!wt.isEmpty,lE f x3 x4 (Wl wt) p o7 o8 o9 o10 o11 o12 o13):=aj (ar (dx:=.list (wt.map Wq)) (dy:=.list []) rfl rfl (gJ _) rfl (bs (Fo wt) rfl))
def qz:aT (IV n) FY (lE f x3 x4 (Wl wt) p o7 o8 o9 o10 o11 o12 o13)=some (wt.isEmpty,lE f x3 x4 (Wl wt) p o7 o8 o9 o10 o11 o12 o13):=aj (ar (dx:=.list (wt.map Wq)) (dy:=.list []) rfl rfl (gJ _) rfl (Fo wt))
def zE:ev (IV n) ecb (lE f x3 x4 (Wl wt) p (IU k) o8 o9 o10 o11 o12 o13)=some (.val (.fz (.bool (decide ((k:Int)=f.rows.length)))),lE f x3 x4 (Wl wt) p (IU k) o8 o9 o10 o11 o12 o13):=ar (dx:=.int k) (dy:=.int f.rows.length) rfl (aX rfl rfl blen) rfl rfl rfl
abbrev lB:Ss:=match F_late_plan.body with|.cons _ (.cons (.fr _ _ b) _)=>b|_=>.nil
abbrev IG:S':=match lB with|.cons _ (.cons s _)=>s|_=>.brk
def Fp{g:G}(hk:k<=f.rows.length)(h:g.wt=wt)(l:g.pl=p):∃(e:Bool) (d:Option OD),cK (IV (n+2)) IG (lE f x3 x4 (Wl wt) p (IU k) (some (.fz (.bool (decide ((k:Int)=f.rows.length))))) o9 o10 o11 o12 o13)=some (.nx,lE f x3 x4 (Wl wt) p (IU k) (some (.fz (.bool e))) d o10 o11 o12 o13)/\(!wt.isEmpty&&e)=due f g k:=by
 subst h l;unfold due;cases h:g.wt with
 |nil=>have b:=oz (n:=n+2) (f:=f) (x3:=x3) (x4:=x4) (wt:=[]) (p:=g.pl) (o7:=IU k) (o8:=some (.fz (.bool (decide ((k:Int)=f.rows.length))))) (o9:=o9) (o10:=o10) (o11:=o11) (o12:=o12) (o13:=o13);exact⟨_,o9,az (eA b) rfl,rfl⟩
 |cons q a=>
  have b:=oz (n:=n+2) (f:=f) (x3:=x3) (x4:=x4) (wt:=q::a) (p:=g.pl) (o7:=IU k) (o8:=some (.fz (.bool (decide ((k:Int)=f.rows.length))))) (o9:=o9) (o10:=o10) (o11:=o11) (o12:=o12) (o13:=o13);by_cases i:(k:Int)=f.rows.length
  ·rw[Dac i]at b ⊢;exact⟨true,o9,az (t_andT b rfl) rfl,rfl⟩
  ·rw[Dab i]at b ⊢;have c:k<f.rows.length:=by omega
   have j:((k:Int)+1)=((k+1:Nat):Int):=by omega
   refine⟨decide (fw f.rows (k+1) (g.pl+sz f k)-q.2>f.r1),IU (fw f.rows (k+1) (g.pl+sz f k)),aH (t_andT b rfl) (ab (ah (ρ3:=lE f x3 x4 (Wl (q::a)) g.pl (IU k) (some (.fz (.bool false))) (IU (fw f.rows (k+1) (g.pl+sz f k))) o10 o11 o12 o13) (ae (rs:=[.val (Rl f.rows),.val (It ((k:Int)+1)),.val (It (g.pl+sz f k))]) (ρ3:=lE f x3 x4 (Wl (q::a)) g.pl (IU k) (some (.fz (.bool false))) o9 o10 o11 o12 o13) (aa rfl (aa rfl (aa (ag rfl (ae (ρ3:=lE f x3 x4 (Wl (q::a)) g.pl (IU k) (some (.fz (.bool false))) o9 o10 o11 o12 o13) rfl rfl (lp (n:=n) (aap c)) rfl) rfl rfl rfl) af))) rfl (by rw[j];exact vQ (n:=n+1) c) rfl) rfl rfl rfl) (ab (ah (ar (dx:=.int (fw f.rows (k+1) (g.pl+sz f k)-q.2)) (dy:=.int f.r1) (ag (dy:=.int q.2) rfl (aN (aN (z:=.fz (Wq q)) (ρ3:=lE f x3 x4 (Wl (q::a)) g.pl (IU k) (some (.fz (.bool false))) (IU (fw f.rows (k+1) (g.pl+sz f k))) o10 o11 o12 o13) rfl rfl rfl ?_) rfl rfl (bz rfl)) rfl rfl rfl) (aN rfl rfl rfl (bz rfl)) rfl rfl rfl) rfl rfl rfl) rfl)),rfl⟩;exact yI (ds:=(q::a).map Wq) rfl bc
end
section
variable{n k:Nat}{f:Cf}{x4 x5:OD}{p:Int}{ts:List Tr}{t:Tr}{o7 o8 o9 o10 o11 o12 o13:Option OD}
def fX:TO (ts++[t])=.lst (ts.map tO++[tO t]):=by rw[TO,aR]
def p_l1:ak (lE f (TO (ts++[t])) x4 x5 p o7 o8 o9 o10 o11 o12 o13) 3 [.ix (-1)]=some (TO (ts++[t]),[ts.length],tO t):=by
 rw[fX];have e:ixN (ts.map tO++[tO t]).length (-1)=some ts.length:=by rw[aal,aaa];exact ixN_last
 have b:(OD.lst (ts.map tO++[tO t])).kids[ts.length]?=some (tO t):=by show (ts.map tO++[tO t])[ts.length]?=_;have:=aa1 (l:=ts.map tO) (a:=tO t);rwa [aaa]at this
 exact bs (x:=(.lst (ts.map tO++[tO t]),[],.lst (ts.map tO++[tO t]))) rfl (bs (x:=ts.length) (show accN _ (.lst (ts.map tO++[tO t])) (.ix (-1))=some ts.length from e) (bs b rfl))
def yJ:ak (lE f (TO (ts++[t])) x4 x5 p o7 o8 o9 o10 o11 o12 o13) 3 [.ix (1),.ix (-1)]=some (TO (ts++[t]),[ts.length,1],Il t.2.1):=bs p_l1 rfl
def Hu:ak (lE f (TO (ts++[t])) x4 x5 p o7 o8 o9 o10 o11 o12 o13) 3 [.ix (2),.ix (-1)]=some (TO (ts++[t]),[ts.length,2],It t.2.2):=bs p_l1 rfl
def vR{z:OD}:OD.put z [ts.length,1] (TO (ts++[t]))=.lst (ts.map tO++[.lst [It t.1,z,It t.2.2]]):=by
 rw[fX];have e:(OD.lst (ts.map tO++[tO t])).kids[ts.length]?=some (tO t):=by show (ts.map tO++[tO t])[ts.length]?=some (tO t);have:=aa1 (l:=ts.map tO) (a:=tO t);rwa [aaa]at this
 simp only[OD.put,e,OD.ej];have c:(tO t).kids[1]?=some (Il t.2.1):=rfl;simp only[c];have b:(ts.map tO).length=ts.length:=aaa _;rw[ace _ _ (by rw[b];exact aag _),b,abJ];rfl
def lq{C:Ct}{ρ:DEnv}{j:Nat}{a:Int}(c:ρ[0]?.join=some (Rl f.rows))(b:ρ[j]?.join=IU a)(h:Gt f a):ev C (.ix (.ix (.nm 0) (.nm j)) (.int 2)) ρ=some (.val (It (nu f a)),ρ):=by
 obtain⟨i,r,k,rfl,h⟩:=h;rw[vJ h];refine aN (aN (ρ1:=ρ) (x:=.val (Rl f.rows)) (y:=.val (It i)) (n:=i) ?_ ?_ rfl (bS (eE h))) rfl rfl rfl
 ·rw[pe,c]
 ·rw[pe,b]
def Cg{C:Ct}{ρ:DEnv}{j:Nat}{a:Int}(g:ρ[0]?.join=some (Rl f.rows))(b:ρ[j]?.join=IU a)(h:Gt f a):jr C (.ix (.ix (.nm 0) (.nm j)) (.int 2)) ρ=some (.int (nu f a)):=by obtain⟨i,r,k,rfl,h⟩:=h;rw[vJ h];have c:jr C (.nm 0) ρ=some (.list (f.rows.map R.d)):=bs g rfl;have e:jr C (.nm j) ρ=some (.int i):=bs b rfl;exact bs (bs c (bs e (bs rfl (bs rfl (eE h))))) (bs rfl (bs rfl (bs rfl rfl)))
def vS{C:Ct}{i:Nat}{j e:E}{ρ:DEnv}{d c:PyData}{g:Key}{ks a:List Key}{xs xs':List OD}{ρ3:DEnv}(o:ev C e ρ=some (.val (.fz d),ρ))(h:ρ[i]?.join=some (.dic ks xs))(hk:ev C j ρ=some (.val (.fz c),ρ))(b:keyOf c=some g)(q:xs.length<1000000)(m:bf g d ks xs=(a,xs'))(l:ρ.set i (some (.dic a xs'))=ρ3):cK C (.sdk i j e) ρ=some (.nx,ρ3):=bs o (bs (x:=(d,ρ)) rfl (bs h (bs rfl (bs hk (bs (x:=c) rfl (bs b (bs h (bs rfl (bg q (by rw[m,<-l]))))))))))
def Fq{C:Ct}{ρ:DEnv}{i:Nat}{xs:List OD}(h:ρ[i]?.join=some (.lst xs)):ev C (.ln i) ρ=some (.val (It xs.length),ρ):=bs h (bs rfl rfl)
abbrev layB:Ss:=match lB with|.cons _ (.cons _ (.cons (.iff _ (.cons _ (.cons _ (.cons (.fr _ _ b) _))) _) _))=>b|_=>.nil
def vT{b:Int}{g0:Int}:∀{wt us:List (Int×Int)}{ns:List Int}{o11 o12:Option OD},(∀q∈wt,Gt f q.1)->(us.map (·.1)++wt.map (·.1)).Nodup->us.length+wt.length<1000->ns.length+wt.length<1000 ->
  ∃a c,bE (λd m=>(aW (.tp [11,12]) (.fz d) m).bind λρ1=>aw (IV n) layB ρ1) (wt.map Wq) (lE f (TO (ts++[(g0,ns,b)])) (gD us) x5 p o7 o8 o9 o10 o11 o12 o13)=some (.nx,lE f (TO (ts++[(g0,wt.foldl (λns q=>cZ ns (nu f q.1)) ns,b)])) (gD (us++wt.map λq=>(q.1,(ts.length:Int)))) x5 p o7 o8 o9 o10 a c o13)
 |[],us,ns,o11,o12,_,_,_,_=>⟨o11,o12,by simp only[aaC,aam];rfl⟩
 |q::wt,us,ns,o11,o12,hG,nd,hl,hn=>by
  rw[aaq]at hl hn;have o:=hG q aai;have g:q.1 ∉ us.map (·.1):=λh=>(aaA.mp nd).2.2 q.1 h q.1 (by rw[aaj];exact aai) rfl;obtain⟨a,c,e⟩:=vT (b:=b) (g0:=g0) (wt:=wt) (us:=us++[(q.1,(ts.length:Int))]) (ns:=cZ ns (nu f q.1)) (o11:=IU q.1) (o12:=IU q.2) (λz r=>hG z (aah _ r)) (by rw[aax,aad];exact nd) (by rw[aal,aaI];omega) (by unfold cZ;split;omega;rw[aal,aaI];omega);rw[aad]at e;refine⟨a,c,bs (x:=(.nx,lE f (TO (ts++[(g0,cZ ns (nu f q.1),b)])) (gD (us++[(q.1,(ts.length:Int))])) x5 p o7 o8 o9 o10 (IU q.1) (IU q.2) o13)) (bs (x:=lE f (TO (ts++[(g0,ns,b)])) (gD us) x5 p o7 o8 o9 o10 (IU q.1) (IU q.2) o13) rfl ?_) e⟩;have i:(((ts++[(g0,ns,b)]).map tO).length:Int)-1=(ts.length:Int):=by rw[aaa,aal,aaI];omega
  refine ab (vS (d:=.int ts.length) (ρ3:=lE f (TO (ts++[(g0,ns,b)])) (gD (us++[(q.1,(ts.length:Int))])) x5 p o7 o8 o9 o10 (IU q.1) (IU q.2) o13) (ag (Fq rfl) rfl rfl rfl (by show some (PyData.int _)=_;rw[i])) rfl rfl rfl (by rw[aaa];omega) (putK_new g) rfl) ?_;have l:=om (C:=IV n) (neg:=true) (lq (C:=IV n) (f:=f) (ρ:=lE f (TO (ts++[(g0,ns,b)])) (gD (us++[(q.1,(ts.length:Int))])) x5 p o7 o8 o9 o10 (IU q.1) (IU q.2) o13) (j:=11) rfl rfl o) rfl yJ (aK ns) ninL;by_cases h:nu f q.1∈ns
  ·rw[Dac h]at l;unfold cZ;rw[if_pos h];exact ab (az l rfl) rfl
  ·rw[Dab h]at l;unfold cZ;rw[if_neg h];refine ab (aH l (ab (kU (xs:=ns.map It) yJ (Cg rfl rfl o) rfl (by rw[aaa];omega) ?_) rfl)) rfl;show [some (Rl f.rows),some (Lo f),some (Re f),some (OD.put (.lst (ns.map It++[It (nu f q.1)])) [ts.length,1] (TO (ts++[(g0,ns,b)]))),some (gD (us++[(q.1,(ts.length:Int))])),some x5,IU p,o7,o8,o9,o10,IU q.1,IU q.2,o13]=_;rw[vR,lE,fX,<-bX]
end
section
variable{n k:Nat}{f:Cf}{ts:List Tr}{o7 o8 o9 o10 o11 o12 o13:Option OD}
abbrev IH:S':=match lB with|.cons _ (.cons _ (.cons s _))=>s|_=>.brk
def Ci{g:G}{r:Bool}(hk:k<=f.rows.length)(C:f.rows.length<=200)(I:Iv f g k k)(T:Tl g ts)(l:(!g.wt.isEmpty&&r)=due f g k):∃m o a c,cK (IV (n+1)) IH (lE f (TO ts) (gD g.us) (Wl g.wt) g.pl (IU k) (some (.fz (.bool r))) o9 o10 o11 o12 o13)=some (.nx,lE f (TO m) (gD (laysG f g k).us) (Wl (laysG f g k).wt) (laysG f g k).pl (IU k) (some (.fz (.bool r))) o9 o a c o13)/\Tl (laysG f g k) m:=by
 have j:=oz (n:=n+1) (f:=f) (x3:=TO ts) (x4:=gD g.us) (wt:=g.wt) (p:=g.pl) (o7:=IU k) (o8:=some (.fz (.bool r))) (o9:=o9) (o10:=o10) (o11:=o11) (o12:=o12) (o13:=o13);unfold laysG;by_cases i:due f g k=true
 ·rw[if_pos i];rw[i,aaE]at l;rw[l.1]at j;have w:=l.2;subst w;have B:=I.len;have x:ts.length=g.gaps.length:=by rw[<-T.gs,aaa]
  have D:=I.gl;obtain⟨a,c,e⟩:=vT (n:=n+1) (f:=f) (x5:=wF g.wt) (p:=g.pl) (ts:=ts) (o7:=IU k) (o8:=some (.fz (.bool true))) (o9:=o9) (o10:=IU (fw f.rows k g.pl)) (o13:=o13) (b:=fw f.rows k g.pl) (g0:=(k:Int)) (wt:=g.wt) (us:=g.us) (ns:=[]) (o11:=o11) (o12:=o12) I.gt I.nodup (by omega) (by show 0+_<_;omega);generalize hns:g.wt.foldl (λns q=>cZ ns (nu f q.1)) []=ns at e;have y:cK (IV (n+1)) ebd (lE f (TO ts) (gD g.us) (Wl g.wt) g.pl (IU k) (some (.fz (.bool true))) o9 o10 o11 o12 o13)=some (.nx,lE f (TO ts) (gD g.us) (Wl g.wt) g.pl (IU k) (some (.fz (.bool true))) o9 (IU (fw f.rows k g.pl)) o11 o12 o13):=ah (ae (ρ3:=lE f (TO ts) (gD g.us) (Wl g.wt) g.pl (IU k) (some (.fz (.bool true))) o9 o10 o11 o12 o13) rfl rfl (vQ (n:=n) hk) rfl) rfl rfl rfl;have v:cK (IV (n+1)) ebe (lE f (TO ts) (gD g.us) (Wl g.wt) g.pl (IU k) (some (.fz (.bool true))) o9 (IU (fw f.rows k g.pl)) o11 o12 o13)=some (.nx,lE f (TO (ts++[((k:Int),[],fw f.rows k g.pl)])) (gD g.us) (Wl g.wt) g.pl (IU k) (some (.fz (.bool true))) o9 (IU (fw f.rows k g.pl)) o11 o12 o13):=bP (z:=tO ((k:Int),[],fw f.rows k g.pl)) (xs:=ts.map tO) (ρ2:=lE f (TO ts) (gD g.us) (Wl g.wt) g.pl (IU k) (some (.fz (.bool true))) o9 (IU (fw f.rows k g.pl)) o11 o12 o13) rfl rfl rfl rfl (by rw[aaa];omega) (by rw[lE,fX];rfl);have A:cK (IV (n+1)) ea8 (lE f (TO (ts++[((k:Int),ns,fw f.rows k g.pl)])) (gD (g.us++g.wt.map λq=>(q.1,(ts.length:Int)))) (Wl []) g.pl (IU k) (some (.fz (.bool true))) o9 (IU (fw f.rows k g.pl)) a c o13)=some (.nx,lE f (TO (ts++[((k:Int),ns,fw f.rows k g.pl)])) (gD (g.us++g.wt.map λq=>(q.1,(ts.length:Int)))) (Wl []) (fw f.rows k g.pl+2*(ns.length:Int)) (IU k) (some (.fz (.bool true))) o9 (IU (fw f.rows k g.pl)) a c o13):=ah (ag rfl (ag (d:=.int (2*(ns.length:Int))) rfl (BY yJ (aK ns) qo) rfl rfl (cN (.inl (by decide)))) rfl rfl rfl) rfl rfl rfl;refine⟨ts++[((k:Int),ns,fw f.rows k g.pl)],IU (fw f.rows k g.pl),a,c,aH (t_andT j rfl) (ab y (ab v (ab (cp (ρ1:=lE f (TO (ts++[((k:Int),[],fw f.rows k g.pl)])) (gD g.us) (wF g.wt) g.pl (IU k) (some (.fz (.bool true))) o9 (IU (fw f.rows k g.pl)) o11 o12 o13) (bQ rfl (bL rfl (gJ _) rfl) rfl) e) (ab (ρ1:=lE f (TO (ts++[((k:Int),ns,fw f.rows k g.pl)])) (gD (g.us++g.wt.map λq=>(q.1,(ts.length:Int)))) (Wl []) g.pl (IU k) (some (.fz (.bool true))) o9 (IU (fw f.rows k g.pl)) a c o13) rfl (ab A ?_))))),?_⟩
  ·unfold sA;rw[hns,x];rfl
  ·unfold sA;rw[hns];exact⟨by rw[aR,T.gs],by rw[aR,T.ws],λt h=>by rw[acj]at h;obtain rfl:((k:Int),ns,fw f.rows k g.pl)=t:=aaD h;rfl⟩
 ·rw[if_neg i];have s:due f g k=false:=by simpa using i
  rw[s]at l;refine⟨ts,o10,o11,o12,az ?_ rfl,T⟩;cases u:g.wt.isEmpty with
  |true=>rw[u]at j;exact eA j
  |false=>rw[u]at j l;obtain rfl:r=false:=l;exact t_andT j rfl
end
section
variable{C:Ct}{c:E}{i j k:Nat}{ps qs:List Acc}{ss:Ss}{ρ ρ1:DEnv}{r:Option (Fl×DEnv)}{p q:OD×List Nat×OD}{ys:List OD}{d:PyData}{z:Fl×DEnv}
def Cj(h:aT C c ρ=some (false,ρ1))(a:j≠i/\k≠i/\j≠k/\j<ρ1.length/\k<ρ1.length)(hk:aw C ss ((ρ1.set j (some (.lst []))).set k (some (.fz (.int 0))))=r):aw C (.alo c i ps qs j k ss) ρ=r:=bs h (bg a hk)
def Cm(h:aT C c ρ=some (true,ρ1))(b:j≠i/\k≠i/\j≠k/\j<ρ1.length/\k<ρ1.length)(g:ak ρ1 i ps=some p)(a:p.2.2=.lst ys)(e:ak ρ1 i qs=some q)(f:q.2.2=.fz d)(l:HolOk (λu=>aw C ss (((ρ1.set i (some (OD.put (.hole u) p.2.1 p.1))).set j (some (.lst ys))).set k (some (.fz d)))) i p.2.1 j z):aw C (.alo c i ps qs j k ss) ρ=some z:=bs h (bg b (bs g (bs (show nS p.2.2=some ys by rw[a];rfl) (bs e (bs (show sd q.2.2=some d by rw[f];rfl) (jG l))))))
end
section
variable{n k:Nat}{f:Cf}{xs:List OD}{us wt:List (Int×Int)}{p b:Int}{w:List Int}{o7 o8 o9 o10 o11 o12 o13:Option OD}
abbrev aB:Ss:=match lB with|.cons _ (.cons _ (.cons _ (.cons _ (.cons (.iff _ (.alo _ _ _ _ _ _ s) _) _))))=>s|_=>.nil
abbrev cE(f:Cf)(xs:List OD)(us wt:List (Int×Int))(p:Int)(k:Nat)(o8 o9:Option OD)(b:Int)(o11 o12:Option OD)(w:List Int):DEnv:=lE f (.lst xs) (gD us) (Wl wt) p (IU k) o8 o9 (IU b) o11 o12 (some (Il w))
def zF(a:Gt f k):aT (IV n) ebw (cE f xs us wt p k o8 o9 b o11 o12 w)=some (decide (nu f k∈w),cE f xs us wt p k o8 o9 b o11 o12 w):=aj (ar (dy:=.list (w.map PyData.int)) (lq rfl rfl a) rfl rfl (aK _) inL)
def qA(a:Gt f k):aT (IV n) H9 (cE f xs us wt p k o8 o9 b o11 o12 w)=some (!decide (nu f k∈w),cE f xs us wt p k o8 o9 b o11 o12 w):=aj (ar (dy:=.list (w.map PyData.int)) (lq rfl rfl a) rfl rfl (aK _) ninL)
def vU:aT (IV n) ebp (cE f xs us wt p k o8 o9 b o11 o12 w)=some (decide (p-b<=f.r0),cE f xs us wt p k o8 o9 b o11 o12 w):=aj (ar (dx:=.int (p-b)) (dy:=.int f.r0) rfl (aN rfl rfl rfl (bz bc)) rfl rfl rfl)
def qB:aT (IV n) Ib (cE f xs us wt p k o8 o9 b o11 o12 w)=some (decide (p+2-b<=f.r0),cE f xs us wt p k o8 o9 b o11 o12 w):=aj (ar (dx:=.int (p+2-b)) (dy:=.int f.r0) rfl (aN rfl rfl rfl (bz bc)) rfl rfl rfl)
def vV:aT (IV n) (.nen 3) (cE f xs us wt p k o8 o9 b o11 o12 w)=some (!xs.isEmpty,cE f xs us wt p k o8 o9 b o11 o12 w):=rfl
def zG(a:(k:Int) ∉ us.map (·.1))(c:us.length<1000):cK (IV n) ecy (cE f xs us wt p k o8 o9 b o11 o12 w)=some (.nx,cE f xs (us++[((k:Int),(xs.length:Int)-1)]) wt p k o8 o9 b o11 o12 w):=vS (d:=.int ((xs.length:Int)-1)) (ag (Fq (xs:=xs) rfl) rfl rfl rfl rfl) rfl rfl rfl (by rw[aaa];omega) (putK_new a) rfl
def Fs(d:Gt f k)(i:(k:Int) ∉ us.map (·.1))(g:us.length<1000)(h:nu f k∈w)(e:p-b<=f.r0):aw (IV n) aB (cE f xs us wt p k o8 o9 b o11 o12 w)=some (.nx,cE f xs (us++[((k:Int),(xs.length:Int)-1)]) wt p k o8 o9 b o11 o12 w):=by have a:=zF (n:=n) (xs:=xs) (us:=us) (wt:=wt) (p:=p) (o8:=o8) (o9:=o9) (b:=b) (o11:=o11) (o12:=o12) (w:=w) d;have c:=vU (n:=n) (f:=f) (xs:=xs) (us:=us) (wt:=wt) (p:=p) (k:=k) (o8:=o8) (o9:=o9) (b:=b) (o11:=o11) (o12:=o12) (w:=w);rw[Dac h]at a;rw[Dac e]at c;exact ab (aH (t_andT a c) (ab (zG i g) rfl)) rfl
def Ft(e:Gt f k)(h:¬ (nu f k∈w/\p-b<=f.r0)):aT (IV n) eaj (cE f xs us wt p k o8 o9 b o11 o12 w)=some (false,cE f xs us wt p k o8 o9 b o11 o12 w):=by
 have a:=zF (n:=n) (xs:=xs) (us:=us) (wt:=wt) (p:=p) (o8:=o8) (o9:=o9) (b:=b) (o11:=o11) (o12:=o12) (w:=w) e;have d:=vU (n:=n) (f:=f) (xs:=xs) (us:=us) (wt:=wt) (p:=p) (k:=k) (o8:=o8) (o9:=o9) (b:=b) (o11:=o11) (o12:=o12) (w:=w);by_cases c:nu f k∈w
 ·rw[Dac c]at a;rw[Dab λz=>h ⟨c,z⟩]at d;exact t_andT a d
 ·rw[Dab c]at a;exact eA a
def Fu(a:Gt f k)(o:(k:Int) ∉ us.map (·.1))(j:us.length<1000)(i:w.length<1000)(l:xs≠[])(g:nu f k ∉ w)(h:p+2-b<=f.r0):aw (IV n) aB (cE f xs us [] p k o8 o9 b o11 o12 w)=some (.nx,cE f xs (us++[((k:Int),(xs.length:Int)-1)]) [] (p+2) k o8 o9 b o11 o12 (w++[nu f k])):=by have c:=vV (n:=n) (f:=f) (xs:=xs) (us:=us) (wt:=[]) (p:=p) (k:=k) (o8:=o8) (o9:=o9) (b:=b) (o11:=o11) (o12:=o12) (w:=w);have d:=qA (n:=n) (xs:=xs) (us:=us) (wt:=[]) (p:=p) (o8:=o8) (o9:=o9) (b:=b) (o11:=o11) (o12:=o12) (w:=w) a;have e:=qB (n:=n) (f:=f) (xs:=xs) (us:=us) (wt:=[]) (p:=p) (k:=k) (o8:=o8) (o9:=o9) (b:=b) (o11:=o11) (o12:=o12) (w:=w);have m:=qz (n:=n) (f:=f) (x3:=.lst xs) (x4:=gD us) (wt:=[]) (p:=p) (o7:=IU k) (o8:=o8) (o9:=o9) (o10:=IU b) (o11:=o11) (o12:=o12) (o13:=some (Il w));rw[show xs.isEmpty=false by cases xs with|nil=>exact absurd rfl l|cons _ _=>rfl]at c;rw[Dab g]at d;rw[Dac h]at e;refine ab (az (Ft a λz=>g z.1) (ab (aH (t_andT c (t_andT d (t_andT m e))) (ab (bP (xs:=w.map It) (ρ3:=cE f xs us [] p k o8 o9 b o11 o12 (w++[nu f k])) rfl (lq rfl rfl a) rfl rfl (by rw[aaa];omega) ?_) (ab (zG o j) (ab rfl rfl)))) rfl)) rfl;show _=lE f (.lst xs) (gD us) (Wl []) p (IU k) o8 o9 (IU b) o11 o12 (some (Il (w++[nu f k])));rw[bX];rfl
def vW(j:Gt f k)(r:wt.length<1000)(o:¬ (nu f k∈w/\p-b<=f.r0))(l:¬ (xs≠[]/\nu f k ∉ w/\wt=[]/\p+2-b<=f.r0)):aw (IV n) aB (cE f xs us wt p k o8 o9 b o11 o12 w)=some (.nx,cE f xs us (wt++[((k:Int),p)]) p k o8 o9 b o11 o12 w):=by
 have a:=vV (n:=n) (f:=f) (xs:=xs) (us:=us) (wt:=wt) (p:=p) (k:=k) (o8:=o8) (o9:=o9) (b:=b) (o11:=o11) (o12:=o12) (w:=w);have d:=qA (n:=n) (xs:=xs) (us:=us) (wt:=wt) (p:=p) (o8:=o8) (o9:=o9) (b:=b) (o11:=o11) (o12:=o12) (w:=w) j;have i:=qB (n:=n) (f:=f) (xs:=xs) (us:=us) (wt:=wt) (p:=p) (k:=k) (o8:=o8) (o9:=o9) (b:=b) (o11:=o11) (o12:=o12) (w:=w);have e:=qz (n:=n) (f:=f) (x3:=.lst xs) (x4:=gD us) (wt:=wt) (p:=p) (o7:=IU k) (o8:=o8) (o9:=o9) (o10:=IU b) (o11:=o11) (o12:=o12) (o13:=some (Il w));have m:aT (IV n) ead (cE f xs us wt p k o8 o9 b o11 o12 w)=some (false,cE f xs us wt p k o8 o9 b o11 o12 w):=by
  cases c:xs with
  |nil=>rw[c]at a;exact eA a
  |cons q s=>
   rw[<-c];rw[c]at a;rw[<-c]at a;refine t_andT (ρ1:=cE f xs us wt p k o8 o9 b o11 o12 w) (by rw[c]at a ⊢;exact a) ?_;by_cases g:nu f k∈w
   ·rw[Dac g]at d;exact eA d
   ·rw[Dab g]at d;refine t_andT d ?_;cases h:wt with
    |cons _ _=>rw[h]at e;exact eA e
    |nil=>rw[h]at e i;refine t_andT e ?_;rw[Dab λz=>l ⟨by rw[c];exact List.cons_ne_nil _ _,g,h,z⟩]at i;exact i
 refine ab (az (Ft j o) (ab (az m (ab (bP (xs:=(wt.map Wq).map OD.fz) (z:=.fz (Wq ((k:Int),p))) (ρ2:=cE f xs us wt p k o8 o9 b o11 o12 w) (ρ3:=cE f xs us (wt++[((k:Int),p)]) p k o8 o9 b o11 o12 w) rfl rfl rfl rfl (by rw[aaa,aaa];omega) ?_) rfl)) rfl)) rfl;show _=lE f (.lst xs) (gD us) (Wl (wt++[((k:Int),p)])) p (IU k) o8 o9 (IU b) o11 o12 (some (Il w));rw[qr];rfl
end
section
variable{ts:List Tr}{a b m z:OD}
def zH:(OD.lst (ts.map tO++[.lst [a,m,b]])).kids[ts.length]?=some (.lst [a,m,b]):=by
 show (ts.map tO++[.lst [a,m,b]])[ts.length]?=_;have:=aa1 (l:=ts.map tO) (a:=.lst [a,m,b])
 rwa [aaa]at this
def Hv:(OD.lst (ts.map tO++[.lst [a,m,b]])).at [ts.length,1]=some m:=by simp only[OD.at,zH];rfl
def Fv:OD.put z [ts.length,1] (.lst (ts.map tO++[.lst [a,m,b]]))=.lst (ts.map tO++[.lst [a,z,b]]):=by simp only[OD.put,zH,OD.ej];have d:(OD.lst [a,m,b]).kids[1]?=some m:=rfl;simp only[d];have c:(ts.map tO).length=ts.length:=aaa _;rw[ace _ _ (by rw[c];exact aag _),c,abJ];rfl
end
section
variable{n k:Nat}{f:Cf}{ts:List Tr}{o8 o9 o10 o11 o12 o13:Option OD}
abbrev aS:Ss:=match lB with|.cons _ (.cons _ (.cons _ (.cons _ (.cons (.iff _ s _) _))))=>s|_=>.nil
abbrev hO(ts:List Tr)(t:Tr)(u:V):List OD:=ts.map tO++[.lst [It t.1,.hole u,It t.2.2]]
def oA{t:Tr}{us b wt a:List (Int×Int)}{p e:Int}{c:List Int}(h:∀u,aw (IV n) aB (cE f (hO ts t u) us wt p k o8 o9 t.2.2 o11 o12 t.2.1)=some (.nx,cE f (hO ts t u) b a e k o8 o9 t.2.2 o11 o12 c)):aw (IV n) aS (lE f (TO (ts++[t])) (gD us) (Wl wt) p (IU k) o8 o9 o10 o11 o12 o13)=some (.nx,lE f (TO (ts++[(t.1,c,t.2.2)])) (gD b) (Wl a) e (IU k) o8 o9 (IU t.2.2) o11 o12 none):=by
 refine Cm (ρ1:=lE f (TO (ts++[t])) (gD us) (Wl wt) p (IU k) o8 o9 o10 o11 o12 o13) (ys:=t.2.1.map It) (d:=.int t.2.2) ?_ ⟨by decide,by decide,by decide,by show 13<14;decide,by show 10<14;decide⟩ yJ rfl Hu rfl λu=>⟨cE f (hO ts t u) b a e k o8 o9 t.2.2 o11 o12 c,?_,.lst (hO ts t u),Il c,rfl,Hv,rfl,by decide,?_⟩
 ·show some (!((ts++[t]).map tO).isEmpty,_)=_;rw[aR];cases ts.map tO<;>rfl
 ·show aw (IV n) aB [some (Rl f.rows),some (Lo f),some (Re f),some (OD.put (.hole u) [ts.length,1] (TO (ts++[t]))),some (gD us),some (Wl wt),IU p,IU k,o8,o9,IU t.2.2,o11,o12,some (Il t.2.1)]=_;rw[vR];exact h u
 ·show _=[some (Rl f.rows),some (Lo f),some (Re f),some (OD.put (Il c) [ts.length,1] (.lst (hO ts t u))),some (gD b),some (Wl a),IU e,IU k,o8,o9,IU t.2.2,o11,o12,none];rw[Fv,lE,fX]
def Cn{g A:G}{r:R}(Y:f.rows.length<=200)(L:f.rows[k]?=some r)(U:r.gr=true)(I:Iv f g k (k+1))(T:Tl g ts)(C:Come f g k A):∃s B q,aw (IV n) aS (lE f (TO ts) (gD g.us) (Wl g.wt) g.pl (IU k) o8 o9 o10 o11 o12 o13)=some (.nx,lE f (TO s) (gD A.us) (Wl A.wt) A.pl (IU k) o8 o9 B o11 o12 q)/\Tl A s:=by
 have Z:k<f.rows.length:=(aar.mp L).1;have F:Gt f k:=by obtain⟨x,y,rfl⟩:=gr_st U;exact⟨k,x,y,rfl,L⟩
 have X:=I.len;have d:(k:Int) ∉ g.us.map (·.1):=λh=>by
  have:(k:Int)∈gIx 0 (f.rows.take k):=by rw[<-I.ix];exact aae _ h
  obtain⟨j,_,W,Q,_⟩:=gIx_mem this;have:=(aar.mp Q).1;rw[abk]at this;omega
 rcases acf ts with e|⟨c,t,e⟩
 ·subst e;have o:g.words=[]:=T.ws.symm;have M:∀{m:List (List Int)}{w:List Int},g.words≠m++[w]:=λh=>by rw[o]at h;simp at h
  cases C with
  |put h=>exact absurd h M
  |got h=>exact absurd h M
  |wait P N=>refine⟨[],IU 0,some (Il []),Cj (ρ1:=lE f (TO []) (gD g.us) (Wl g.wt) g.pl (IU k) o8 o9 o10 o11 o12 o13) rfl ⟨by decide,by decide,by decide,by show 13<14;decide,by show 10<14;decide⟩ (vW (xs:=[]) (w:=[]) (b:=0) F (by omega) (λz=>absurd z.1 aaw) λz=>z.1 rfl),T.gs,T.ws,T.bg⟩
 ·rw[acg]at e;subst e;have v:t.2.2=g.bg:=T.bg t (by rw[acj];rfl);have o:g.words=c.map (·.2.1)++[t.2.1]:=by rw[<-T.ws,aR]
  have D:g.gaps=c.map (·.1)++[t.1]:=by rw[<-T.gs,aR]
  have J:t.2.1.length<1000:=by have:=I.j1 t.2.1 (by rw[o];exact aac _ aai);omega
  have i:∀u,((hO c t u).length:Int)-1=(g.gaps.length:Int)-1:=λu=>by rw[D,aal,aal,aaa,aaa];rfl
  have H:∀u,hO c t u≠[]:=λu=>by simp
  have l:∀{m:List (List Int)}{w:List Int},g.words=m++[w]->m=c.map (·.2.1)/\w=t.2.1:=λh=>by obtain⟨a,b⟩:=abt (h.symm.trans o) rfl;exact⟨a,List.singleton_inj.mp b⟩
  cases C with
  |@put m w h hwt hn h0=>
   obtain⟨rfl,rfl⟩:=l h;refine⟨c++[(t.1,t.2.1++[nu f k],t.2.2)],IU t.2.2,none,oA λu=>?_,by rw[aR];exact D.symm,by rw[aR],λS O=>?_⟩
   ·have:=Fu (n:=n) (xs:=hO c t u) (us:=g.us) (p:=g.pl) (o8:=o8) (o9:=o9) (b:=t.2.2) (o11:=o11) (o12:=o12) (w:=t.2.1) F d (by omega) J (H u) hn (by rw[v];exact h0);rw[i u]at this;rw[hwt];exact this
   ·rw[acj]at O;obtain rfl:(t.1,t.2.1++[nu f k],t.2.2)=S:=aaD O;exact v
  |@got m w h hn h0=>obtain⟨rfl,rfl⟩:=l h;refine⟨c++[(t.1,t.2.1,t.2.2)],IU t.2.2,none,oA λu=>?_,T.gs,T.ws,T.bg⟩;have:=Fs (n:=n) (xs:=hO c t u) (us:=g.us) (wt:=g.wt) (p:=g.pl) (o8:=o8) (o9:=o9) (b:=t.2.2) (o11:=o11) (o12:=o12) (w:=t.2.1) F d (by omega) hn (by rw[v];exact h0);rw[i u]at this;exact this
  |wait P N=>refine⟨c++[(t.1,t.2.1,t.2.2)],IU t.2.2,none,oA λu=>?_,T.gs,T.ws,T.bg⟩;exact vW (xs:=hO c t u) F (by omega) (by rw[v];exact N _ _ o) λz=>P _ _ o ⟨z.2.2.1,z.2.1,by rw[<-v];exact z.2.2.2⟩
end
section
variable{n:Nat}{f:Cf}
abbrev lS(n:Nat)(d:PyData)(ρ':DEnv):Option (Fl×DEnv):=(aW (.nm 7) (.fz d) ρ').bind λρ1=>aw (IV n) lB ρ1
abbrev gE(f:Cf)(g:G)(ts:List Tr)(o7 o8 o9 o10 o11 o12 o13:Option OD):DEnv:=lE f (TO ts) (gD g.us) (Wl g.wt) g.pl o7 o8 o9 o10 o11 o12 o13
abbrev lT:Ss:=match lB with|.cons _ (.cons _ (.cons _ t))=>t|_=>.nil
def vX{k:Nat}{g:G}{ts:List Tr}{o7 o8 o9 o10 o11 o12 o13:Option OD}(l:f.rows.length<=200)(hk:k<=f.rows.length)(I:Iv f g k k)(T:Tl g ts):∃d i e b a c,Tl (laysG f g k) d/\∀r,aw (IV (n+2)) lT (gE f (laysG f g k) d (IU k) i e b a c o13)=r->lS (n+2) (.int k) (gE f g ts o7 o8 o9 o10 o11 o12 o13)=r:=by obtain⟨s,e,j,q⟩:=Fp (n:=n) (f:=f) (x3:=TO ts) (x4:=gD g.us) (wt:=g.wt) (p:=g.pl) (o9:=o9) (o10:=o10) (o11:=o11) (o12:=o12) (o13:=o13) hk rfl rfl;obtain⟨d,b,a,c,m,o⟩:=Ci (n:=n+1) (f:=f) (o9:=e) (o10:=o10) (o11:=o11) (o12:=o12) (o13:=o13) hk l I T q;refine⟨d,some (.fz (.bool s)),e,b,a,c,o,λr h=>?_⟩;exact bs (x:=gE f g ts (IU k) o8 o9 o10 o11 o12 o13) rfl (ab (ah (ρ3:=gE f g ts (IU k) (some (.fz (.bool (decide ((k:Int)=f.rows.length))))) o9 o10 o11 o12 o13) zE rfl rfl rfl) (ab j (ab m h)))
def zI{k:Nat}{g:G}{ts:List Tr}{o8 o9 o10 o11 o12 o13:Option OD}:aT (IV n) ecb (gE f g ts (IU k) o8 o9 o10 o11 o12 o13)=some (decide ((k:Int)=f.rows.length),gE f g ts (IU k) o8 o9 o10 o11 o12 o13):=aj zE
def Cp{g:G}{ts:List Tr}{o7 o8 o9 o10 o11 o12 o13:Option OD}(r:f.rows.length<=200)(I:Iv f g f.rows.length f.rows.length)(T:Tl g ts):∃a q t u l e o i,lS (n+2) (.int f.rows.length) (gE f g ts o7 o8 o9 o10 o11 o12 o13)=some (.bk,gE f (laysG f g f.rows.length) a q t u l e o i)/\Tl (laysG f g f.rows.length) a:=by obtain⟨a,m,j,c,b,d,s,h⟩:=vX (n:=n) (f:=f) (o7:=o7) (o8:=o8) (o9:=o9) (o10:=o10) (o11:=o11) (o12:=o12) (o13:=o13) r (aag _) I T;have p:=zI (n:=n+2) (f:=f) (k:=f.rows.length) (g:=laysG f g f.rows.length) (ts:=a) (o8:=m) (o9:=j) (o10:=c) (o11:=b) (o12:=d) (o13:=o13);rw[Dac rfl]at p;exact⟨a,_,_,_,_,_,_,_,h _ (bs (aH p rfl) rfl),s⟩
def Cq{k:Nat}{g v:G}{ts:List Tr}{o7 o8 o9 o10 o11 o12 o13:Option OD}(C:f.rows.length<=200)(hk:k<f.rows.length)(I:Iv f g k k)(X:Cross f g k v)(T:Tl g ts):∃c F H J B z y A,lS (n+2) (.int k) (gE f g ts o7 o8 o9 o10 o11 o12 o13)=some (.nx,gE f (oy v (sz f k)) c F H J B z y A)/\Tl (oy v (sz f k)) c:=by
 obtain⟨c,j,i,d,a,b,t,h⟩:=vX (n:=n) (f:=f) (o7:=o7) (o8:=o8) (o9:=o9) (o10:=o10) (o11:=o11) (o12:=o12) (o13:=o13) C (aaQ hk) I T;have p:f.rows[k]?=some f.rows[k]:=aap hk;have x:=zI (n:=n+2) (f:=f) (k:=k) (g:=laysG f g k) (ts:=c) (o8:=j) (o9:=i) (o10:=d) (o11:=a) (o12:=b) (o13:=o13);rw[Dab (by omega)]at x;have s:aT (IV (n+2)) ecx (gE f (laysG f g k) c (IU k) j i d a b o13)=some ((f.rows[k]).gr,gE f (laysG f g k) c (IU k) j i d a b o13):=bp (ae (ρ3:=gE f (laysG f g k) c (IU k) j i d a b o13) (aa (aN rfl rfl rfl (bS (eE p))) af) rfl (mR (n:=n+1) (f.rows[k])) rfl);have r:∀{u:G}{o:List Tr}{l m:Option OD},cK (IV (n+2)) eay (gE f u o (IU k) j i l a b m)=some (.nx,gE f (oy u (sz f k)) o (IU k) j i l a b m):=λ{u o l m}=>ah (ag rfl (ae (ρ3:=gE f u o (IU k) j i l a b m) rfl rfl (lp (n:=n) p) rfl) rfl rfl rfl) rfl rfl rfl;cases q:(f.rows[k]).gr with
 |false=>rw[q]at s;have D:=X.no (by rw[p];exact q);subst D;exact⟨c,_,_,_,_,_,_,_,h _ (ab (az x rfl) (ab (az s rfl) (ab r rfl))),t.gs,t.ws,t.bg⟩
 |true=>rw[q]at s;obtain⟨o,l,m,e,w⟩:=Cn (n:=n+2) (o8:=j) (o9:=i) (o10:=d) (o11:=a) (o12:=b) (o13:=o13) C p q I.lays t (X.gr (by rw[p];exact q));exact⟨o,_,_,_,_,_,_,_,h _ (ab (az x rfl) (ab (aH s e) (ab r rfl))),w.gs,w.ws,w.bg⟩
def Fw{k:Nat}{g g0:G}(x:f.rows.length<=200)(P:Path f k g g0):∀{m:Nat}{ts:List Tr}{o7 o8 o9 o10 o11 o12 o13:Option OD},k+m=f.rows.length->Tl g ts->∃a j l o i c b d,bE (lS (n+2)) (cC k (m+1)) (gE f g ts o7 o8 o9 o10 o11 o12 o13)=some (.nx,gE f (laysG f g0 f.rows.length) a j l o i c b d)/\Tl (laysG f g0 f.rows.length) a:=by
 induction P with
 |nil r I=>
  intro m ts o7 o8 o9 o10 o11 o12 o13 h T;subst r;obtain rfl:m=0:=by omega
  obtain⟨a,j,l,o,i,c,b,d,e,s⟩:=Cp (n:=n) (o7:=o7) (o8:=o8) (o9:=o9) (o10:=o10) (o11:=o11) (o12:=o12) (o13:=o13) x I T;refine⟨a,j,l,o,i,c,b,d,?_,s⟩;rw[br];exact bs e rfl
 |cons r I X P D=>
  intro m ts o7 o8 o9 o10 o11 o12 o13 h T;obtain⟨q,rfl⟩:∃q,m=q+1:=⟨m-1,by omega⟩
  obtain⟨a,j,l,o,i,c,b,d,e,s⟩:=Cq (n:=n) (o7:=o7) (o8:=o8) (o9:=o9) (o10:=o10) (o11:=o11) (o12:=o12) (o13:=o13) x r I X T;obtain⟨t,z,y,B,u,v,p,w,C,A⟩:=D (m:=q) (o7:=j) (o8:=l) (o9:=o) (o10:=i) (o11:=c) (o12:=b) (o13:=d) (by omega) s;refine⟨t,z,y,B,u,v,p,w,?_,A⟩;rw[br];exact bs e C
end
abbrev tD(t:Tr):PyData:=.list [.int t.1,.list (t.2.1.map PyData.int),.int t.2.2]
def qC:∀ts:List Tr,OD.dv (ts.map tO)=some (ts.map tD)
 |[]=>rfl
 |t::ts=>by
  have e:(tO t).dat=some (tD t):=by simp only[tO,OD.dat,OD.dv,dats_Il1]
  rw[aaj,OD.dv,e,qC ts];rfl
where dats_Il1 {w:List Int}:OD.dv (w.map It)=some (w.map PyData.int):=by rw[<-dQ,dats_fz]
def Cr(ts:List Tr):(TO ts).dat=some (.list (ts.map tD)):=by rw[TO,OD.dat,qC]
def qD{C:Ct}:∀{ts:List Tr}{out:List PyData}{o0 o1 o2:Option OD},∃a,bw (bF C (.tp [0,1,2]) .none (.tup ecd)) (ts.map tD) out [o0,o1,o2]=some (out++(ts.map λt=>Po (t.1,t.2.1)),a)
 |[],out,o0,o1,o2=>⟨[o0,o1,o2],by simp only[aaC,aam];rfl⟩
 |t::ts,out,o0,o1,o2=>by obtain⟨a,e⟩:=qD (C:=C) (ts:=ts) (out:=out++[Po (t.1,t.2.1)]) (o0:=IU t.1) (o1:=some (.fz (.list (t.2.1.map PyData.int)))) (o2:=IU t.2.2);refine⟨a,bs (x:=([Po (t.1,t.2.1)],[IU t.1,some (.fz (.list (t.2.1.map PyData.int))),IU t.2.2])) (su rfl (bM (z:=.fz (Po (t.1,t.2.1))) (aa rfl (aa (pW rfl rfl) af)) rfl rfl rfl) rfl) ?_⟩;rw[aad]at e;exact e
def qH{C:Ct}{us:List (Int×Int)}(b:(us.map (·.1)).Nodup):∀{vs:List (Int×Int)}{i:Nat}{out:List PyData}{o:Option OD},us.drop i=vs->∃a,bw (bF C (.nm 0) .none (.pg 1 [.key 0])) ((vs.map (·.1)).map PyData.int) out [o,some (gD us)]=some (out++(vs.map (·.2)).map PyData.int,[a,some (gD us)])
 |[],i,out,o,_=>⟨o,by simp only[aaC,aam];rfl⟩
 |v::vs,i,out,o,h=>by
  have c:us[i]?=some v:=by have:=congrArg (λl=>l[0]?) h;simp only[ab2,Nat.add_zero]at this;exact this
  have d:us.drop (i+1)=vs:=by have:=congrArg List.tail h;rw[aci]at this;exact this
  obtain⟨a,e⟩:=qH (C:=C) b (vs:=vs) (out:=out++[.int v.2]) (o:=IU v.1) d;have f:ak [IU v.1,some (gD us)] 1 [.key 0]=some (gD us,[i],It v.2):=bs (x:=(gD us,[],gD us)) rfl (bs (x:=i) (find_key b c) (bs (x:=It v.2) (by show (us.map λu=>It u.2)[i]?=_;rw[aav,c];rfl) rfl));refine⟨a,bs (x:=([.int v.2],[IU v.1,some (gD us)])) (su rfl (ck f rfl) rfl) ?_⟩;rw[aad]at e;exact e
def qI:∀{rs:List R}{i:Int},(gIx i rs).Pairwise (·<=·)
 |[],i=>List.Pairwise.nil
 |r::rs,i=>by
  have b:=qI (rs:=rs) (i:=i+1);unfold gIx;split
  ·refine aaT.mpr ⟨λa c=>?_,b⟩;obtain⟨j,_,e,_⟩:=gIx_mem c;omega
  ·exact b
def mZ:∀us:List (Int×Int),mq (us.map λu=>(Sum.inl u.1:Key))=some (us.map (·.1))
 |[]=>rfl
 |u::us=>bs (mZ us) rfl
def Cu{g:G}{ts:List Tr}(T:Tl g ts):(ts.map λt=>Po (t.1,t.2.1))=(g.gaps.zip g.words).map Po:=by rw[<-T.gs,<-T.ws,List.zip_map',aa0];rfl
def Fx{C:Ct}{ρ:DEnv}{i:Nat}{ks:List Key}{xs:List OD}{ns a:List Int}(h:ρ[i]?.join=some (.dic ks xs))(hk:mq ks=some ns)(c:ns.length<64)(b:sortI ns=a):ev C (.sdd i) ρ=some (.val (Il a),ρ):=bs h (bs rfl (bs hk (bg c (by rw[b]))))
def Cv{n:Nat}{f:Cf}{g g0:G}(x:f.rows.length<=200)(A:(f.rows.filter R.gr).length<=60)(u:g=laysG f g0 f.rows.length)(I:Iv f g f.rows.length (f.rows.length+1))(P:Path f 0 ⟨0,[],[],0,[],[]⟩ g0):pl.pg.call (n+3) 32 [Rl f.rows,Lo f,Re f]=some (Pn (g.gaps.zip g.words) (g.us.map (·.2)),[Rl f.rows,Lo f,Re f]):=by
 obtain⟨ts,j,k,l,c,a,d,b,e,T⟩:=Fw (n:=n) x P (m:=f.rows.length) (ts:=[]) (o7:=none) (o8:=none) (o9:=none) (o10:=none) (o11:=none) (o12:=none) (o13:=none) (aaO _) ⟨rfl,rfl,λt h=>nomatch h⟩;have q:g.wt=[]:=by rw[u];exact mY
 rw[<-u]at e T;have r:g.us.map (·.1)=gIx 0 f.rows:=by have v:=I.ix;rw[q,aaC,aam,List.take_length]at v;exact v
 have w:sortI (g.us.map (·.1))=g.us.map (·.1):=fH (sortI_perm _) (eN _) (by rw[r];exact qI);have y:g.us.length<=60:=by have:=congrArg List.length r;rw[aaa,fV]at this;omega
 have M:=I.gl;have L:ts.length=g.gaps.length:=by rw[<-T.gs,aaa]
 obtain⟨ρ1,p⟩:=qD (C:=IV (n+2)) (ts:=ts) (out:=[]) (o0:=none) (o1:=none) (o2:=none);obtain⟨o2,s⟩:=qH (C:=IV (n+2)) (us:=g.us) (by rw[r];exact c9) (vs:=g.us) (i:=0) (out:=[]) (o:=none) rfl;rw[aaM]at p s;rw[Cu T]at p;have F:(((f.rows.length:Nat):Int)+1).toNat=f.rows.length+1:=by omega
 have H:cK (IV (n+2)) (.asg (.tp [3,4,5,6]) (.tup (.cons (.lst .nil) (.cons .dnew ec6)))) (fb 14 [Rl f.rows,Lo f,Re f])=some (.nx,gE f ⟨0,[],[],0,[],[]⟩ [] none none none none none none none):=rfl;have B:ev (IV (n+2)) eaq (gE f g ts j k l c a d b)=some (.val (.lst (((g.gaps.zip g.words).map Po).map OD.fz)),lE f (.fz (.list (ts.map tD))) (gD g.us) (Wl g.wt) g.pl j k l c a d b):=cQ (ρ2:=lE f (.fz (.list (ts.map tD))) (gD g.us) (Wl g.wt) g.pl j k l c a d b) (bQ rfl (bL rfl (Cr _) rfl) rfl) (by rw[aaa];omega) rfl p unca_nil;have D:ev (IV (n+2)) ebs (lE f (.fz (.list (ts.map tD))) (gD g.us) (Wl g.wt) g.pl j k l c a d b)=some (.val (Il (g.us.map (·.2))),lE f (.fz (.list (ts.map tD))) (gD g.us) (Wl g.wt) g.pl j k l c a d b):=by have J:ev (IV (n+2)) (.sdd 4) (lE f (.fz (.list (ts.map tD))) (gD g.us) (Wl g.wt) g.pl j k l c a d b)=some (.val (Il (g.us.map (·.1))),lE f (.fz (.list (ts.map tD))) (gD g.us) (Wl g.wt) g.pl j k l c a d b):=Fx rfl (mZ g.us) (by rw[aaa];omega) w;have:=cQ (C:=IV (n+2)) (nt:=1) (fr:=[4]) (it:=.seq (.sdd 4)) (ρ:=lE f (.fz (.list (ts.map tD))) (gD g.us) (Wl g.wt) g.pl j k l c a d b) (ρ2:=lE f (.fz (.list (ts.map tD))) (gD g.us) (Wl g.wt) g.pl j k l c a d b) (bQ (ds:=(g.us.map (·.1)).map PyData.int) J (show frz1 _ (.val (Il (g.us.map (·.1))))=some (.list ((g.us.map (·.1)).map PyData.int),_) by show ((Il (g.us.map (·.1))).dat).map _=_;rw[aK];rfl) rfl) (by rw[aaa,aaa];omega) (zc:=([some (gD g.us)],[some (Rl f.rows),some (Lo f),some (Re f),some (.fz (.list (ts.map tD))),none,some (Wl g.wt),IU g.pl,j,k,l,c,a,d,b])) rfl s rfl;rw[dQ]at this;exact this
 exact ai (fn:=F_late_plan) rfl rfl (ab H (ab (cp (ρ1:=gE f ⟨0,[],[],0,[],[]⟩ [] none none none none none none none) (dA (n:=(f.rows.length:Int)+1) (ag (dx:=.int f.rows.length) (dy:=.int 1) (aX rfl rfl blen) rfl rfl rfl rfl) rfl (by omega)) (by rw[F];exact e)) (aC (aq (z:=Pn (g.gaps.zip g.words) (g.us.map (·.2))) (bM (zs:=[.lst (((g.gaps.zip g.words).map Po).map OD.fz),Il (g.us.map (·.2))]) (aa B (aa D af)) rfl rfl rfl) rfl)))) rfl
abbrev Pz:=List (Int×List Int)
def m3{f:Cf}{k:Nat}:∀{qs:Pz}{s:Mc},(inner f qs k s).bs.length=s.bs.length+qs.countP λq=>decide (q.1=(k:Int))
 |[],s=>rfl
 |q::qs,s=>by
  show (inner f qs k (inn f k s q)).bs.length=_;rw[m3,abL];unfold inn;by_cases h:q.1=(k:Int)
  ·rw[if_pos h,Dac h,if_pos rfl];show (s.bs++[_]).length+_=_;rw[aal,aaI];omega
  ·rw[if_neg h,Dab h,if_neg aaf];omega
def m4{k:Nat}:∀{qs:Pz},(∀q∈qs,0<=q.1)->qs.countP (λq=>decide (q.1<((k+1:Nat):Int)))=qs.countP (λq=>decide (q.1<(k:Int)))+qs.countP λq=>decide (q.1=(k:Int))
 |[],_=>rfl
 |q::qs,h=>by rw[abL,abL,abL,m4 λq a=>h q (aah _ a)];simp only[decide_eq_true_eq];split<;>split<;>split<;>omega
def jl{f:Cf}{qs:Pz}(h:∀q∈qs,0<=q.1):∀{k:Nat},(fq f qs k).bs.length=qs.countP λq=>decide (q.1<(k:Int))
 |0=>by show 0=_;rw[eq_comm,List.countP_eq_zero];intro q a z;have:=h q a;have:=Daa z;omega
 |k+1=>by show (inner f qs k (fq f qs k)).bs.length=_;rw[m3,jl h,m4 h]
abbrev Pq(qs:Pz):OD:=.fz (.list (qs.map Po))
abbrev qE(f:Cf)(qs:Pz)(s:Mc)(k:Nat)(o7 o8:Option OD):DEnv:=[some (Rl f.rows),some (Lo f),some (Pq qs),some (Il s.ps),some (Il s.bs),IU s.pl,IU k,o7,o8]
abbrev Hw:E:=.or edy eak
def Hx{n:Nat}{f:Cf}{qs:Pz}{s:Mc}{k:Nat}{o7 o8:Option OD}(h:k<=f.rows.length):ev (IV n) Hw (qE f qs s k o7 o8)=some (.val (.fz (.bool (ovN f.rows k))),qE f qs s k o7 o8):=by
 cases k with
 |zero=>exact pY rfl
 |succ k=>
  have a:((k+1:Nat):Int)-1=(k:Int):=by omega
  have b:ovN f.rows (k+1)=(f.rows[k]).fal:=by show (f.rows[k]?).elim true R.fal=_;rw[aap h];rfl
  rw[b];exact pZ (ar rfl rfl rfl rfl (show some (decide (((k+1:Nat):Int)=0))=some false by rw[Dab (by omega)])) (ar (dx:=.str (f.rows[k]).wd) (dy:=.tuple [.str bv,.str lc]) (aN (aN rfl rfl rfl (bS (d:=(f.rows[k]).d) (by rw[a];exact eE (aap (by omega))))) rfl rfl (by rw[R.x6];exact bz bc)) rfl rfl rfl (qy _))
abbrev FZ:Ss:=.cons (.iff ed1 (.cons (.set 5 (.bop .add (.nm 5) (.bop .mul (.int 2) (.blt .int (.cons Hw .nil))))) eab) .nil) .nil
abbrev Tn(q:Int×List Int):OD:=.fz (.tuple (q.2.map PyData.int))
abbrev qF(f:Cf)(qs:Pz)(s:Mc)(k:Nat)(q:Int×List Int):DEnv:=qE f qs s k (IU q.1) (some (Tn q))
def yK{n:Nat}{f:Cf}{qs:Pz}{s:Mc}{k:Nat}{q:Int×List Int}(h:k<=f.rows.length)(g:s.bs.length<1000):aw (IV n) FZ (qF f qs s k q)=some (.nx,qF f qs (inn f k s q) k q):=by
 unfold inn;by_cases e:q.1=(k:Int)
 ·rw[if_pos e];have b:=Hx (n:=n) (qs:=qs) (s:=s) (o7:=IU q.1) (o8:=some (Tn q)) h;refine ab (aH (aj (ar rfl rfl rfl rfl (show some (decide (q.1=(k:Int)))=some true by rw[Dac e]))) ?_) rfl;have i:∀v,ovN f.rows k=v->cK (IV n) (.set 5 (.bop .add (.nm 5) (.bop .mul (.int 2) (.blt .int (.cons Hw .nil))))) (qF f qs s k q)=some (.nx,qF f qs ⟨s.ps,s.bs,if v=true then s.pl+2 else s.pl⟩ k q):=λv c=>by
   rw[c]at b;cases v with
   |true=>exact ah (ag rfl (ag (dx:=.int 2) (dy:=.int 1) rfl (aX (aa b af) rfl rfl) rfl rfl rfl) rfl rfl rfl) rfl rfl rfl
   |false=>exact ah (ag (dx:=.int s.pl) (dy:=.int 0) (d:=.int s.pl) rfl (ag (dx:=.int 2) (dy:=.int 0) rfl (aX (aa b af) rfl rfl) rfl rfl rfl) rfl rfl (by show some (PyData.int (s.pl+0))=_;rw[Int.add_zero])) rfl rfl rfl
  refine ab (i _ rfl) ?_;generalize hq:(if ovN f.rows k=true then s.pl+2 else s.pl)=p;have a:fw f.rows k s.pl=p+2-p%2:=by unfold fw;rw[hq]
  rw[a];refine ab (ah (ρ3:=qF f qs ⟨s.ps,s.bs,p+2-p%2⟩ k q) (ag rfl (ag rfl rfl rfl rfl (cO (by decide))) rfl rfl rfl) rfl rfl rfl) ?_;refine ab (bP (ρ3:=qF f qs ⟨s.ps,s.bs++[p+2-p%2],p+2-p%2⟩ k q) rfl rfl rfl rfl (by rw[aaa];exact abA g (by decide)) (by show _=[some (Rl f.rows),some (Lo f),some (Pq qs),some (Il s.ps),some (Il (s.bs++[p+2-p%2])),IU (p+2-p%2),IU k,IU q.1,some (Tn q)];rw[bX];rfl)) ?_;exact ab (ah (ag rfl (ag (dx:=.int 2) (dy:=.int q.2.length) rfl (aX rfl rfl (by show some (PyData.int ((q.2.map PyData.int).length:Nat))=_;rw[aaa])) rfl rfl (cN (.inl (by decide)))) rfl rfl rfl) rfl rfl rfl) rfl
 ·rw[if_neg e];exact ab (az (aj (ar rfl rfl rfl rfl (show some (decide (q.1=(k:Int)))=some false by rw[Dab e]))) rfl) rfl
abbrev Ic(n:Nat)(d:PyData)(ρ':DEnv):Option (Fl×DEnv):=(aW (.tp [7,8]) (.fz d) ρ').bind λρ1=>aw (IV n) FZ ρ1
def qJ{n:Nat}{f:Cf}{qs:Pz}{k:Nat}(h:k<=f.rows.length):∀{rs:Pz}{s:Mc}{o7 o8:Option OD},s.bs.length+rs.length<1000->∃b a,bE (Ic n) (rs.map Po) (qE f qs s k o7 o8)=some (.nx,qE f qs (inner f rs k s) k b a)
 |[],s,o7,o8,_=>⟨o7,o8,rfl⟩
 |q::rs,s,o7,o8,hb=>by
  rw[aaq]at hb;have e:Ic n (Po q) (qE f qs s k o7 o8)=some (.nx,qF f qs (inn f k s q) k q):=bs (x:=qF f qs s k q) rfl (yK h (by omega));have c:(inn f k s q).bs.length+rs.length<1000:=by
   unfold inn;split
   ·show (s.bs++[_]).length+_<_;rw[aal,aaI];omega
   ·omega
  obtain⟨b,a,d⟩:=qJ (n:=n) (qs:=qs) h (rs:=rs) (s:=inn f k s q) (o7:=IU q.1) (o8:=some (Tn q)) c;exact⟨b,a,bs e d⟩
abbrev qG(f:Cf)(qs:Pz)(s:Mc)(o6 o7 o8:Option OD):DEnv:=[some (Rl f.rows),some (Lo f),some (Pq qs),some (Il s.ps),some (Il s.bs),IU s.pl,o6,o7,o8]
abbrev II:Ss:=.cons (.fr (.tp [7,8]) (.seq (.nm 2)) FZ) eac
abbrev Ie(n:Nat)(d:PyData)(ρ':DEnv):Option (Fl×DEnv):=(aW (.nm 6) (.fz d) ρ').bind λρ1=>aw (IV n) II ρ1
def zJ{n:Nat}{f:Cf}{qs:Pz}{s:Mc}{k:Nat}{o7 o8:Option OD}:aT (IV n) HY (qE f qs s k o7 o8)=some (decide ((k:Int)<(f.rows.length:Int)),qE f qs s k o7 o8):=aj (ar (dx:=.int k) (dy:=.int f.rows.length) rfl (aX rfl rfl (by show some (PyData.int ((f.rows.map R.d).length:Nat))=_;rw[aaa])) rfl rfl rfl)
def zK{n:Nat}{f:Cf}{qs:Pz}{s:Mc}{k:Nat}{o7 o8:Option OD}(h:k<=f.rows.length)(c:s.bs.length+qs.length<1000):∃b a,cK (IV n) (.fr (.tp [7,8]) (.seq (.nm 2)) FZ) (qE f qs s k o7 o8)=some (.nx,qE f qs (inner f qs k s) k b a):=by obtain⟨b,a,e⟩:=qJ (n:=n) (qs:=qs) h (rs:=qs) (s:=s) (o7:=o7) (o8:=o8) c;exact⟨b,a,cp (bQ (ρ2:=qE f qs s k o7 o8) rfl rfl rfl) e⟩
def yL{n:Nat}{f:Cf}{qs:Pz}{s:Mc}{k:Nat}{o6 o7 o8:Option OD}(h:k<f.rows.length)(i:s.bs.length+qs.length<1000)(j:s.ps.length<1000):∃d b a,Ie (n+2) (.int k) (qG f qs s o6 o7 o8)=some (.nx,qG f qs (CS f k (inner f qs k s)) d b a):=by
 obtain⟨b,a,e⟩:=zK (n:=n+2) (qs:=qs) (s:=s) (o7:=o7) (o8:=o8) (aaQ h) i;have c:(inner f qs k s).ps.length<1000000:=by rw[eF];omega
 generalize inner f qs k s=t at e c;have g:=zJ (n:=n+2) (f:=f) (qs:=qs) (s:=t) (k:=k) (o7:=b) (o8:=a);rw[Dac (by omega)]at g;refine⟨IU k,b,a,bs (x:=qE f qs s k o7 o8) rfl (ab e (ab (aH g (ab (bP (ρ3:=qE f qs ⟨t.ps++[t.pl],t.bs,t.pl⟩ k b a) rfl rfl rfl rfl (by rw[aaa];exact c) ?_) (ab (ah (ρ3:=qE f qs (CS f k t) k b a) (ag rfl (ae (ρ3:=qE f qs ⟨t.ps++[t.pl],t.bs,t.pl⟩ k b a) rfl rfl (lp (n:=n) (aap h)) rfl) rfl rfl rfl) rfl rfl rfl) rfl))) rfl))⟩;show _=[some (Rl f.rows),some (Lo f),some (Pq qs),some (Il (t.ps++[t.pl])),some (Il t.bs),IU t.pl,IU k,b,a];rw[bX];rfl
def qK{n:Nat}{f:Cf}{qs:Pz}(j:∀q∈qs,0<=q.1)(u:qs.length<=300)(v:f.rows.length<=200):∀{m k:Nat}{o6 o7 o8:Option OD},k+m=f.rows.length->∃o d g,bE (Ie (n+2)) (cC k (m+1)) (qG f qs (fq f qs k) o6 o7 o8)=some (.nx,qG f qs (inner f qs f.rows.length (fq f qs f.rows.length)) o d g)
 |0,k,o6,o7,o8,h=>by
  obtain rfl:k=f.rows.length:=h;have i:(fq f qs f.rows.length).bs.length+qs.length<1000:=by rw[jl j];have:=abM (p:=λq:Int×List Int=>decide (q.1<(f.rows.length:Int))) (l:=qs);omega
  obtain⟨d,g,e⟩:=zK (n:=n+2) (qs:=qs) (s:=fq f qs f.rows.length) (o7:=o7) (o8:=o8) (aag _) i;have r:=zJ (n:=n+2) (f:=f) (qs:=qs) (s:=inner f qs f.rows.length (fq f qs f.rows.length)) (k:=f.rows.length) (o7:=d) (o8:=g);rw[Dab (by omega)]at r;refine⟨IU f.rows.length,d,g,?_⟩;rw[br];exact bs (bs (x:=qE f qs (fq f qs f.rows.length) f.rows.length o7 o8) rfl (ab e (ab (az r rfl) rfl))) rfl
 |m+1,k,o6,o7,o8,h=>by
  have i:(fq f qs k).bs.length+qs.length<1000:=by rw[jl j];have:=abM (p:=λq:Int×List Int=>decide (q.1<(k:Int))) (l:=qs);omega
  obtain⟨a,b,c,e⟩:=yL (n:=n) (qs:=qs) (s:=fq f qs k) (o6:=o6) (o7:=o7) (o8:=o8) (show k<f.rows.length by omega) i (by rw[ik];omega);obtain⟨y,t,w,z⟩:=qK (n:=n) j u v (m:=m) (k:=k+1) (o6:=a) (o7:=b) (o8:=c) (by omega);refine⟨y,t,w,?_⟩;rw[br];exact bs e z
abbrev CT(s:Mc):OD:=.fz (.tuple [.list (s.ps.map PyData.int),.list (s.bs.map PyData.int),.int s.pl])
abbrev Dl(gs:List Int):OD:=.fz (.list (gs.map PyData.int))
def vY{n:Nat}{f:Cf}{qs:Pz}(j:∀q∈qs,0<=q.1)(a:qs.length<=300)(c:f.rows.length<=200):pl.pg.call (n+3) 30 [Rl f.rows,Lo f,Pq qs]=some (CT (inner f qs f.rows.length (fq f qs f.rows.length)),[Rl f.rows,Lo f,Pq qs]):=by
 obtain⟨o6,o7,o8,e⟩:=qK (n:=n) j a c (m:=f.rows.length) (k:=0) (o6:=none) (o7:=none) (o8:=none) (aaO _);generalize inner f qs f.rows.length (fq f qs f.rows.length)=s at e;have g:(((f.rows.length:Nat):Int)+1).toNat=f.rows.length+1:=by omega
 refine ai (fn:=i6) (ρ:=[some (Rl f.rows),some (Lo f),some (Pq qs),some (Dl s.ps),some (Dl s.bs),IU s.pl,o6,o7,o8]) rfl rfl (ab (fg (ρ3:=qG f qs ⟨[],[],0⟩ none none none) rfl rfl rfl rfl) (ab (cp (ρ1:=qG f qs ⟨[],[],0⟩ none none none) (dA (n:=(f.rows.length:Int)+1) (ag (dx:=.int f.rows.length) (dy:=.int 1) (aX rfl rfl (by show some (PyData.int ((f.rows.map R.d).length:Nat))=_;rw[aaa])) rfl rfl rfl rfl) rfl (by omega)) (by rw[g];exact e)) (aC (aq (z:=CT s) (bM (rs:=[.rf 3,.rf 4,.val (It s.pl)]) (ρ1:=qG f qs s o6 o7 o8) (zs:=[Dl s.ps,Dl s.bs,It s.pl]) (ρ2:=[some (Rl f.rows),some (Lo f),some (Pq qs),some (Dl s.ps),some (Dl s.bs),IU s.pl,o6,o7,o8]) rfl rfl ?_ rfl) rfl)))) rfl;have b:own1 (qG f qs s o6 o7 o8) (.rf 3)=some (Dl s.ps,[some (Rl f.rows),some (Lo f),some (Pq qs),some (Dl s.ps),some (Il s.bs),IU s.pl,o6,o7,o8]):=by show (frz1 _ (.rf 3)).map _=_;rw[bL rfl (aK _) rfl];rfl
 have h:own1 [some (Rl f.rows),some (Lo f),some (Pq qs),some (Dl s.ps),some (Il s.bs),IU s.pl,o6,o7,o8] (.rf 4)=some (Dl s.bs,[some (Rl f.rows),some (Lo f),some (Pq qs),some (Dl s.ps),some (Dl s.bs),IU s.pl,o6,o7,o8]):=by show (frz1 _ (.rf 4)).map _=_;rw[bL rfl (aK _) rfl];rfl
 have i:mapR own1 [some (Rl f.rows),some (Lo f),some (Pq qs),some (Dl s.ps),some (Il s.bs),IU s.pl,o6,o7,o8] [.rf 4,.val (It s.pl)]=some ([Dl s.bs,It s.pl],[some (Rl f.rows),some (Lo f),some (Pq qs),some (Dl s.ps),some (Dl s.bs),IU s.pl,o6,o7,o8]):=bs h rfl;exact bs b (by show Option.map _ (mapR own1 _ _)=_;rw[i];rfl)
def Cw{C:Ct}{i:Nat}{o:Bo}{e:E}{ρ ρ1 ρ2:DEnv}{a r:Int}{x:OR}{d:PyData}(h:ρ[i]?.join=IU a)(g:ev C e ρ=some (x,ρ1))(f:aJ ρ1 x=some d)(c:mr o a d=some r)(b:ρ1.set i (IU r)=ρ2):cK C (.aug i o e) ρ=some (.nx,ρ2):=bs h (bs rfl (bs rfl (bs g (bs f (bs c (by rw[<-b]))))))
def oB{C:Ct}{t:Tg}{e:E}{ρ ρ1 ρ2 ρ3:DEnv}{x:OR}{z:OD}(h:ev C e ρ=some (x,ρ1))(b:own1 ρ1 x=some (z,ρ2))(a:aW t z ρ2=some ρ3):cK C (.asg t e) ρ=some (.nx,ρ3):=bs h (bs b (bs a rfl))
def Cz{C:Ct}{i nt:Nat}{fr:List Nat}{it:It'}{a:Tg}{c b:E}{ρ ρ1 ρ2 ρ3:DEnv}{ds:List PyData}{zc:DEnv×DEnv}{ks:List Key}{vs:List OD}(h:sF C it ρ=some (ds,ρ1))(e:ds.length<1000000)(f:cJ ρ1 fr=some zc)(j:gR (mx C a c b) ds ([],[]) (List.replicate nt none++zc.1)=some ((ks,vs),ρ2))(g:i<(eR zc.2 fr (ρ2.drop nt)).length)(d:(eR zc.2 fr (ρ2.drop nt)).set i (some (.dic ks vs))=ρ3):cK C (.sdc i nt fr it a c b) ρ=some (.nx,ρ3):=bs h (bg e (bs f (bs j (bg g (by rw[<-d])))))
abbrev Qk(qs:Pz):List Key:=(qs.map λq=>(q.1,(q.2.length:Int))).map λu=>.inl u.1
abbrev Qv(qs:Pz):List OD:=(qs.map λq=>(q.1,(q.2.length:Int))).map λu=>It u.2
abbrev Qd(qs:Pz):OD:=.dic (Qk qs) (Qv qs)
def vZ{C:Ct}:∀{qs ps:Pz}{o0 o1:Option OD},(ps++qs).Pairwise (λx y=>x.1<y.1)->∃a b,gR (mx C (.tp [0,1]) (.nm 0) edh) (qs.map Po) (Qk ps,Qv ps) [o0,o1]=some ((Qk (ps++qs),Qv (ps++qs)),[a,b])
 |[],ps,o0,o1,_=>⟨o0,o1,by rw[aam];rfl⟩
 |q::qs,ps,o0,o1,h=>by
  have f:q.1 ∉ (ps.map λq=>(q.1,(q.2.length:Int))).map (·.1):=λz=>by obtain⟨u,j,e⟩:=aay.mp z;obtain⟨x,i,rfl⟩:=aay.mp j;have:=(abN.mp h).2.2 x i q aai;have e:x.1=q.1:=e;omega
  have e:=putK_new (v:=(q.2.length:Int)) f;obtain⟨a,b,c⟩:=vZ (C:=C) (qs:=qs) (ps:=ps++[q]) (o0:=IU q.1) (o1:=some (Tn q)) (by rw[aad];exact h);rw[aad]at c;refine⟨a,b,bs (x:=((Qk (ps++[q]),Qv (ps++[q])),[IU q.1,some (Tn q)])) ?_ c⟩;refine bs (x:=[IU q.1,some (Tn q)]) rfl (bs rfl (bs (aX (d:=.int q.2.length) rfl rfl (by show some (PyData.int ((q.2.map PyData.int).length:Nat))=_;rw[aaa])) (bs rfl (bs rfl (bs rfl (bg rfl ?_))))));have g:(ps++[q]).map (λq=>(q.1,(q.2.length:Int)))=ps.map (λq=>(q.1,(q.2.length:Int)))++[(q.1,(q.2.length:Int))]:=aax;show some (bf (.inl q.1) (.int (q.2.length:Int)) (Qk ps) (Qv ps),[IU q.1,some (Tn q)])=some ((List.map _ ((ps++[q]).map _),List.map _ ((ps++[q]).map _)),_);rw[g,e]
abbrev zP(f:Cf)(qs:Pz)(s:Mc)(o7:Option OD):DEnv:=[some (Rl f.rows),some (Lo f),some (Pq qs),some (Qd qs),some (Il s.ps),some (Il s.bs),IU s.pl,o7]
abbrev zS:Ss:=match F_placed.body with|.cons _ (.cons _ (.cons _ (.cons _ (.cons (.fr _ _ b) _))))=>b|_=>.nil
def zL{n:Nat}{f:Cf}{qs:Pz}{s:Mc}{k:Nat}:aT (IV n) eb7 (zP f qs s (IU k))=some (decide ((k:Int)<(f.rows.length:Int)),zP f qs s (IU k)):=aj (ar (dx:=.int k) (dy:=.int f.rows.length) rfl (aX rfl rfl blen) rfl rfl rfl)
def zM{n:Nat}{f:Cf}{qs:Pz}{s:Mc}{k:Nat}{b:Bool}(h:((Qk qs).any λq=>decide (q=.inl (k:Int)))=b):aT (IV n) HS (zP f qs s (IU k))=some (b,zP f qs s (IU k)):=by rw[<-h];rfl
def Qk_any{qs:Pz}{k:Nat}:((Qk qs).any λq=>decide (q=.inl (k:Int)))=true ↔ ∃q∈qs,q.1=(k:Int):=by
 rw[abG];constructor
 ·rintro⟨x,b,e⟩;obtain⟨u,c,rfl⟩:=aay.mp b;obtain⟨q,a,rfl⟩:=aay.mp c;have:=Daa e;injection this with this;exact⟨q,a,this⟩
 ·rintro⟨q,a,e⟩;exact⟨.inl q.1,aay.mpr ⟨_,aay.mpr ⟨q,a,rfl⟩,rfl⟩,Dac (by rw[e])⟩
def yM{a b:Pz}{q:Int×List Int}{k:Nat}(h:∀x∈a,x.1≠(k:Int))(e:q.1=(k:Int)):(Qk (a++q::b)).findIdx? (λq=>decide (q=.inl (k:Int)))=some a.length:=by
 induction a with
 |nil=>exact(aa9).trans (if_pos (Dac (show (Sum.inl q.1:Key)=.inl (k:Int) by rw[e])))
 |cons x a c=>have d:¬ (decide ((Sum.inl x.1:Key)=.inl (k:Int)))=true:=λz=>h x aai (by have:=Daa z;injection this);refine(aa9).trans ((if_neg d).trans ?_);exact congrArg (Option.map λi=>i+1) (c λy f=>h y (aah _ f))
def Fy{n:Nat}{f:Cf}{qs:Pz}{s:Mc}{k:Nat}(p:qs.Pairwise λx y=>x.1<y.1)(hk:k<=f.rows.length)(A:s.bs.length<1000){m:Ss}{r:Option (Fl×DEnv)}(K:aw (IV (n+3)) m (zP f qs (inner f qs k s) (IU k))=r):aw (IV (n+3)) (.cons eaa m) (zP f qs s (IU k))=r:=by
 by_cases h:∃q∈qs,q.1=(k:Int)
 ·have l:=zM (n:=n+3) (f:=f) (s:=s) (Qk_any.mpr h);obtain⟨q,c,e⟩:=h;obtain⟨a,b,rfl⟩:=List.append_of_mem c;have o:∀x∈a,x.1≠(k:Int):=λx i=>by have:=(abN.mp p).2.2 x i q aai;omega
  have j:∀x∈b,x.1≠(k:Int):=λx i=>by have:=(aaT.mp (abN.mp p).2.1).1 x i;omega
  have v:inner f (a++q::b) k s=⟨s.ps,s.bs++[fw f.rows k s.pl],fw f.rows k s.pl+2*q.2.length⟩:=by rw[sC,fW o];show inner f b k (inn f k s q)=_;rw[fW j];exact if_pos e
  have w:(Qv (a++q::b))[a.length]?=IU q.2.length:=by rw[aav,aav,abx (aag _),abJ];rfl
  have d:∀t:Mc,ak (zP f (a++q::b) t (IU k)) 3 [.key 7]=some (Qd (a++q::b),[a.length],It q.2.length):=λt=>by refine bs (x:=(Qd (a++q::b),[],Qd (a++q::b))) rfl (bs (x:=a.length) ?_ (bs w rfl));exact bs rfl (bs rfl (bs rfl (bs rfl (yM o e))))
  rw[v]at K;refine ab (aH l (ab (bP (ρ3:=zP f (a++q::b) ⟨s.ps,s.bs++[fw f.rows k s.pl],s.pl⟩ (IU k)) rfl (ae (ρ3:=zP f (a++q::b) s (IU k)) rfl rfl (k9 hk) rfl) rfl rfl (by rw[aaa];omega) ?_) (ab (ah (ρ3:=zP f (a++q::b) ⟨s.ps,s.bs++[fw f.rows k s.pl],fw f.rows k s.pl+2*q.2.length⟩ (IU k)) (ag (aN rfl rfl rfl (jf (gs:=s.bs++[fw f.rows k s.pl]) (g:=fw f.rows k s.pl) rfl ?_)) (ag (dx:=.int 2) rfl (ck (d _) rfl) rfl rfl (cN (.inl (by decide)))) rfl rfl rfl) rfl rfl rfl) rfl))) K
  ·show _=[some (Rl f.rows),some (Lo f),some (Pq (a++q::b)),some (Qd (a++q::b)),some (Il s.ps),some (Il (s.bs++[fw f.rows k s.pl])),IU s.pl,IU k];rw[bX];rfl
  ·rw[aax];have u:ixN (s.bs.map It++[fw f.rows k s.pl].map It).length (-1)=some (s.bs.map It).length:=by unfold ixN;rw[if_neg (by decide),aal,aaa,if_pos (by simp;omega)];congr 1;simp;omega
   exact bs u aa1
 ·have l:=zM (n:=n+3) (f:=f) (s:=s) (qs:=qs) (k:=k) (b:=false) (by rw[Bool.eq_false_iff];exact λz=>h (Qk_any.mp z));rw[fW λq c e=>h ⟨q,c,e⟩]at K;exact ab (az l rfl) K
def v3{n:Nat}{f:Cf}{qs:Pz}(c:qs.Pairwise λx y=>x.1<y.1)(i:∀q∈qs,0<=q.1)(u:qs.length<=300)(w:f.rows.length<=200):∀{m k:Nat}{o7:Option OD},k+m=f.rows.length->∃g,bE (λd e=>(aW (.nm 7) (.fz d) e).bind λρ1=>aw (IV (n+3)) zS ρ1) (cC k (m+1)) (zP f qs (fq f qs k) o7)=some (.nx,zP f qs (inner f qs f.rows.length (fq f qs f.rows.length)) g)
 |0,k,o7,h=>by
  obtain rfl:k=f.rows.length:=h;have b:(fq f qs f.rows.length).bs.length<1000:=by rw[jl i];have:=abM (p:=λq:Int×List Int=>decide (q.1<(f.rows.length:Int))) (l:=qs);omega
  have a:=zL (n:=n+3) (f:=f) (qs:=qs) (s:=inner f qs f.rows.length (fq f qs f.rows.length)) (k:=f.rows.length);rw[Dab (by omega)]at a;refine⟨IU f.rows.length,?_⟩;rw[br];exact bs (bs (x:=zP f qs (fq f qs f.rows.length) (IU f.rows.length)) rfl (Fy c (aag _) b (ab (az a rfl) rfl))) rfl
 |m+1,k,o7,h=>by
  have j:k<f.rows.length:=by omega
  have b:(fq f qs k).bs.length<1000:=by rw[jl i];have:=abM (p:=λq:Int×List Int=>decide (q.1<(k:Int))) (l:=qs);omega
  have a:=zL (n:=n+3) (f:=f) (qs:=qs) (s:=inner f qs k (fq f qs k)) (k:=k);rw[Dac (by omega)]at a;have v:fq f qs (k+1)=CS f k (inner f qs k (fq f qs k)):=rfl;have z:(inner f qs k (fq f qs k)).ps.length<1000000:=by rw[eF,ik];omega
  obtain⟨t,o⟩:=v3 (n:=n) c i u w (m:=m) (k:=k+1) (o7:=IU k) (by omega);rw[v]at o;refine⟨t,?_⟩;rw[br];refine bs (x:=(Fl.nx,zP f qs (CS f k (inner f qs k (fq f qs k))) (IU k))) (bs (x:=zP f qs (fq f qs k) (IU k)) rfl (Fy c (aaQ j) b ?_)) o;generalize inner f qs k (fq f qs k)=s at *;refine ab (aH a (ab (bP (ρ3:=zP f qs ⟨s.ps++[s.pl],s.bs,s.pl⟩ (IU k)) rfl rfl rfl rfl (by rw[aaa];exact z) ?_) (ab (Cw (r:=s.pl+sz f k) (ρ2:=zP f qs (CS f k s) (IU k)) rfl (ae (ρ3:=zP f qs ⟨s.ps++[s.pl],s.bs,s.pl⟩ (IU k)) rfl rfl (ow (n:=n+1) (aap j)) rfl) rfl rfl rfl) rfl))) rfl;show _=[some (Rl f.rows),some (Lo f),some (Pq qs),some (Qd qs),some (Il (s.ps++[s.pl])),some (Il s.bs),IU s.pl,IU k];rw[bX];rfl
def yN{n:Nat}{f:Cf}{qs:Pz}(a:qs.Pairwise λx y=>x.1<y.1)(l:∀q∈qs,0<=q.1)(b:qs.length<=300)(g:f.rows.length<=200):pl.pg.call (n+4) 8 [Rl f.rows,Lo f,Pq qs]=some (CT (inner f qs f.rows.length (fq f qs f.rows.length)),[Rl f.rows,Lo f,Pq qs]):=by
 obtain⟨o7,e⟩:=v3 (n:=n) a l b g (m:=f.rows.length) (k:=0) (o7:=none) (aaO _);generalize inner f qs f.rows.length (fq f qs f.rows.length)=s at e;have i:(((f.rows.length:Nat):Int)+1).toNat=f.rows.length+1:=by omega
 obtain⟨p,r,j⟩:=vZ (C:=IV (n+3)) (qs:=qs) (ps:=[]) (o0:=none) (o1:=none) a;have o:cK (IV (n+3)) ea5 [some (Rl f.rows),some (Lo f),some (Pq qs),none,none,none,none,none]=some (.nx,[some (Rl f.rows),some (Lo f),some (Pq qs),some (Qd qs),none,none,none,none]):=Cz (zc:=([],[some (Rl f.rows),some (Lo f),some (Pq qs),none,none,none,none,none])) (bQ (ds:=qs.map Po) (ρ2:=[some (Rl f.rows),some (Lo f),some (Pq qs),none,none,none,none,none]) rfl rfl rfl) (by rw[aaa];omega) rfl j (by show 3<8;decide) rfl;refine ai (fn:=F_placed) (ρ:=[some (Rl f.rows),some (Lo f),some (Pq qs),some (Qd qs),some (Dl s.ps),some (Dl s.bs),IU s.pl,o7]) rfl rfl (ab o (ab (ρ1:=[some (Rl f.rows),some (Lo f),some (Pq qs),some (Qd qs),some (.lst []),none,none,none]) rfl (ab (ρ1:=[some (Rl f.rows),some (Lo f),some (Pq qs),some (Qd qs),some (.lst []),some (.lst []),none,none]) rfl (ab (ρ1:=zP f qs ⟨[],[],0⟩ none) rfl (ab (cp (ρ1:=zP f qs ⟨[],[],0⟩ none) (dA (n:=(f.rows.length:Int)+1) (ag (dx:=.int f.rows.length) (dy:=.int 1) (aX rfl rfl blen) rfl rfl rfl rfl) rfl (by omega)) (by rw[i];exact e)) (aC (aq (z:=CT s) (bM (rs:=[.rf 4,.rf 5,.val (It s.pl)]) (ρ1:=zP f qs s o7) (zs:=[Dl s.ps,Dl s.bs,It s.pl]) (ρ2:=[some (Rl f.rows),some (Lo f),some (Pq qs),some (Qd qs),some (Dl s.ps),some (Dl s.bs),IU s.pl,o7]) rfl rfl ?_ rfl) rfl))))))) rfl;have c:own1 (zP f qs s o7) (.rf 4)=some (Dl s.ps,[some (Rl f.rows),some (Lo f),some (Pq qs),some (Qd qs),some (Dl s.ps),some (Il s.bs),IU s.pl,o7]):=by show (frz1 _ (.rf 4)).map _=_;rw[bL rfl (aK _) rfl];rfl
 have d:own1 [some (Rl f.rows),some (Lo f),some (Pq qs),some (Qd qs),some (Dl s.ps),some (Il s.bs),IU s.pl,o7] (.rf 5)=some (Dl s.bs,[some (Rl f.rows),some (Lo f),some (Pq qs),some (Qd qs),some (Dl s.ps),some (Dl s.bs),IU s.pl,o7]):=by show (frz1 _ (.rf 5)).map _=_;rw[bL rfl (aK _) rfl];rfl
 have h:mapR own1 [some (Rl f.rows),some (Lo f),some (Pq qs),some (Qd qs),some (Dl s.ps),some (Il s.bs),IU s.pl,o7] [.rf 5,.val (It s.pl)]=some ([Dl s.bs,It s.pl],[some (Rl f.rows),some (Lo f),some (Pq qs),some (Qd qs),some (Dl s.ps),some (Dl s.bs),IU s.pl,o7]):=bs d rfl;exact bs c (by show Option.map _ (mapR own1 _ _)=_;rw[h];rfl)
def eQ{C:Ct}{t:E}{p:Int->Bool}{ρ:DEnv}:∀{js:List Int}{out:List PyData}{o:Option OD},(∀j∈js,aT C t (IU j::ρ)=some (p j,IU j::ρ))->∃a,bw (bF C (.nm 0) (.some t) (.nm 0)) (js.map PyData.int) out (o::ρ)=some (out++(js.filter p).map PyData.int,a::ρ)
 |[],out,o,_=>⟨o,by rw[abq,aaC,aam];rfl⟩
 |j::js,out,o,h=>by
  have b:=h j aai;have f:=λk g=>h k (aah _ g);have d:aW (.nm 0) (.fz (.int j)) (o::ρ)=some (IU j::ρ):=by unfold aW;exact bg (Nat.succ_pos _) rfl
  cases c:p j with
  |false=>rw[c]at b;obtain⟨a,e⟩:=eQ (js:=js) (out:=out++[]) (o:=IU j) f;refine⟨a,bs (x:=([],IU j::ρ)) (yB d b) ?_⟩;rw[e,aam,abr (by rw[c];decide)]
  |true=>rw[c]at b;obtain⟨a,e⟩:=eQ (js:=js) (out:=out++[.int j]) (o:=IU j) f;refine⟨a,bs (x:=([.int j],IU j::ρ)) (yA d b rfl rfl) ?_⟩;rw[e,abI c,aad];rfl
def zN(r:R):r.jm=(decide (r.wd=bv)||decide (r.wd=cr)):=by cases r<;>rfl
def CA{C:Ct}{o:Co}{r:R}{x:Str}{k:Bool}{ρ:DEnv}{e:E}(a:ev C e ρ=some (.val (Rd r),ρ))(h:mo o (.str r.wd) (.str x)=some k):ev C (.cmp o (.ix e (.int 0)) (.str x)) ρ=some (.val (.fz (.bool k)),ρ):=ar (aN (z:=.fz (.str r.wd)) a rfl rfl (by show bu ρ (.val (.fz r.d)) 0=_;rw[R.x6];exact bz bc)) rfl rfl rfl h
def FA{n:Nat}(r:R):pl.pg.call (n+1) 1 [Rd r]=some (.fz (.bool r.jm),[Rd r]):=by
 have b:∀x:Str,ev (IV n) (.cmp .eq ed6 (.str x)) [some (Rd r)]=some (.val (.fz (.bool (decide (r.wd=x)))),[some (Rd r)]):=λx=>CA rfl rfl;refine ai (fn:=jP) (ρ:=[some (Rd r)]) rfl rfl (aC (aq (z:=.fz (.bool r.jm)) (x:=.val (.fz (.bool r.jm))) ?_ rfl)) rfl;rw[zN];have a:=b bv;cases c:decide (r.wd=bv) with
 |true=>rw[c]at a;exact pY a
 |false=>rw[c]at a;exact pZ a (b cr)
def jIx:Int->List R->List Int
 |_,[]=>[]
 |i,r::rs=>if r.jm=true then i::jIx (i+1) rs else jIx (i+1) rs
def lu:∀{rs:List R}{i a:Int},a∈jIx i rs->∃(j:Nat) (r:R),a=i+j/\rs[j]?=some r/\r.jm=true
 |[],i,a,h=>absurd h aaw
 |r::rs,i,a,h=>by
  rw[jIx]at h;by_cases b:r.jm=true
  ·rw[if_pos b]at h;rcases aab.mp h with rfl|h
   ·exact⟨0,r,by omega,rfl,b⟩
   ·obtain⟨j,q,e,d,c⟩:=lu h;exact⟨j+1,q,by rw[e];omega,d,c⟩
  ·rw[if_neg b]at h;obtain⟨j,q,e,d,c⟩:=lu h;exact⟨j+1,q,by rw[e];omega,d,c⟩
def fY:∀{rs:List R}{i:Int},(jIx i rs).length=(rs.filter R.jm).length
 |[],i=>rfl
 |r::rs,i=>by
  rw[jIx];by_cases a:r.jm=true
  ·rw[if_pos a,abI a,aaq,aaq,fY]
  ·rw[if_neg a,abr a,fY]
def lx{n:Nat}:∀{rs:List R}{i:Int}{out:List PyData}{o0 o1:Option OD},∃a,bw (bF (IV (n+1)) (.tp [0,1]) (.some edo) (.nm 0)) (enF i rs) out [o0,o1]=some (out++(jIx i rs).map PyData.int,a)
 |[],i,out,o0,o1=>⟨[o0,o1],by rw[jIx,aaC,aam];rfl⟩
 |r::rs,i,out,o0,o1=>by
  have b:aT (IV (n+1)) edo [IU i,some (Rd r)]=some (r.jm,[IU i,some (Rd r)]):=bp (ae (ρ3:=[IU i,some (Rd r)]) rfl rfl (FA r) rfl);rw[jIx];cases c:r.jm with
  |false=>rw[c]at b;obtain⟨a,e⟩:=lx (n:=n) (rs:=rs) (i:=i+1) (out:=out++[]) (o0:=IU i) (o1:=some (Rd r));refine⟨a,bs (x:=([],[IU i,some (Rd r)])) (yB rfl b) ?_⟩;rw[if_neg aaf,e,aam]
  |true=>rw[c]at b;obtain⟨a,e⟩:=lx (n:=n) (rs:=rs) (i:=i+1) (out:=out++[.int i]) (o0:=IU i) (o1:=some (Rd r));refine⟨a,bs (x:=([.int i],[IU i,some (Rd r)])) (yA rfl b rfl rfl) ?_⟩;rw[if_pos rfl,e,aad];rfl
def yO{n:Nat}{rs:List R}(b:rs.length<=1000):pl.pg.call (n+2) 3 [Rl rs]=some (Il (jIx 0 rs),[Rl rs]):=by obtain⟨a,e⟩:=lx (n:=n) (rs:=rs) (i:=0) (out:=[]) (o0:=none) (o1:=none);rw[aaM,<-lh]at e;refine ai (fn:=i4) (ρ:=[some (Rl rs)]) rfl rfl (aC (aq (z:=Il (jIx 0 rs)) (cQ (ρ2:=[some (Rl rs)]) (oo rfl rfl) (by rw[gj,aaa];omega) rfl e unca_nil) (by rw[dQ];rfl))) rfl
def farN(r:R)(hop:Int):Int:=if r.wd=cr then (if 99<hop then 99 else hop) else hop
def FB{n:Nat}{r:R}{hop:Int}:pl.pg.call (n+1) 18 [Rd r,It hop]=some (It (farN r hop),[Rd r,It hop]):=by
 have a:aT (IV n) ecr [some (Rd r),IU hop]=some (decide (r.wd=cr),[some (Rd r),IU hop]):=aj (CA rfl rfl);unfold farN;refine ai (fn:=i5) (ρ:=[some (Rd r),IU hop]) rfl rfl (aC (aq (z:=It _) (x:=.val (It _)) ?_ rfl)) rfl;by_cases h:r.wd=cr
 ·rw[Dac h]at a;rw[if_pos h];exact fN a rfl
 ·rw[Dab h]at a;rw[if_neg h];exact jL a rfl
abbrev fin(f:Cf)(qs:Pz):Mc:=inner f qs f.rows.length (fq f qs f.rows.length)
def qL{f:Cf}{qs:Pz}:(fin f qs).ps.length=f.rows.length:=by rw[eF,ik]
def gol(s:Mc)(r:R)(k:Nat):Int:=(s.ps++[s.pl]).getD r.tg.toNat 0-s.ps.getD k 0
def tq(f:Cf)(s:Mc)(hop a:Int):Bool:=(f.rows[a.toNat]?).elim false λr=>decide (farN r hop<if gol s r a.toNat<0 then -(gol s r a.toNat) else gol s r a.toNat)
def tsF(f:Cf)(qs:Pz)(hop:Int):List Int:=((jIx 0 f.rows).filter λa=>!decide (a∈f.longs)).filter (tq f (fin f qs) hop)
def atI_last{a:Type}{xs:List a}{x:a}:atI (xs++[x]) (-1)=some x:=by
 have e:ixN (xs++[x]).length (-1)=some xs.length:=by unfold ixN;rw[aal,aaI];rw[if_neg (by omega),if_pos (by omega)];congr 1;omega
 exact bs e aa1
def atI_get{b:Type}{g:Int->b}{gs:List Int}{i:Int}(d:0<=i)(c:i<gs.length):atI (gs.map g) i=some (g (gs.getD i.toNat 0)):=by
 have e:i=(i.toNat:Int):=by omega
 have a:i.toNat<gs.length:=by omega
 rw[e];refine jO ?_;rw[aav,abe,aap a,ab0,aap a];rfl
def FC{C:Ct}{r:R}{ρ:DEnv}{e:E}{N:Int}(f:ev C e ρ=some (.val (Rd r),ρ))(b:Jok N r)(a:r.jm=true):ev C (.ix e (.neg (.int 1))) ρ=some (.val (It r.tg),ρ):=by obtain⟨_,_,g,c⟩:=b a;exact aN f rfl rfl (by show bu ρ (.val (.fz r.d)) (-1)=_;rw[c];exact bz atI_last)
abbrev iE(f:Cf)(s:Mc)(hop a:Int):DEnv:=[IU a,IU hop,some (Rl f.rows),some (Il (s.ps++[s.pl])),some (Dl s.ps)]
abbrev iT:E:=.cmp .gt eam ebq
def t_ts{n k:Nat}{f:Cf}{s:Mc}{hop:Int}{r:R}(g:Nb f.rows.length f.rows)(j:s.ps.length=f.rows.length)(h:f.rows[k]?=some r)(b:r.jm=true):aT (IV (n+1)) iT (iE f s hop k)=some (tq f s hop k,iE f s hop k):=by
 have c:=g r (abd h);obtain⟨d,m,_⟩:=c b;have o:k<f.rows.length:=(aar.mp h).1;have a:ev (IV (n+1)) Hr (iE f s hop k)=some (.val (Rd r),iE f s hop k):=aN rfl rfl rfl (bS (eE h));have e:ev (IV (n+1)) Ia (iE f s hop k)=some (.val (It ((s.ps++[s.pl]).getD r.tg.toNat 0)),iE f s hop k):=aN rfl (FC a c b) rfl (jf rfl (atI_get d (by rw[aal,j,aaI];omega)));have l:ev (IV (n+1)) (.ix (.nm 4) (.nm 0)) (iE f s hop k)=some (.val (It (s.ps.getD k 0)),iE f s hop k):=aN rfl rfl rfl (bS (atI_get (i:=(k:Int)) (by omega) (by omega)));have q:tq f s hop k=decide (farN r hop<if gol s r k<0 then -(gol s r k) else gol s r k):=by unfold tq;rw[abe,h];rfl
 rw[q];exact aj (ar (aX (aa (ag e l rfl rfl rfl) af) rfl rfl) (ae (aa a (aa rfl af)) rfl FB rfl) rfl rfl rfl)
def v5{ps:List Int}{p:Int}:(OD.lst ((ps.map PyData.int++[PyData.int p]).map OD.fz))=Il (ps++[p]):=by have e:(ps++[p]).map PyData.int=ps.map PyData.int++[PyData.int p]:=aax;rw[Il,<-dQ,e]
def ly{n:Nat}{f:Cf}{qs:Pz}{hop:Int}(A:qs.Pairwise λx y=>x.1<y.1)(H:∀q∈qs,0<=q.1)(u:qs.length<=300)(w:f.rows.length<=200)(D:Nb f.rows.length f.rows):pl.pg.call (n+5) 19 [Rl f.rows,Lo f,Pq qs,It hop]=some (Il (tsF f qs hop),[Rl f.rows,Lo f,Pq qs,It hop]):=by
 have h:pl.pg.call (n+4) 8 [Rl f.rows,Lo f,Pq qs]=some (CT (fin f qs),[Rl f.rows,Lo f,Pq qs]):=yN (n:=n) A H u w;have g:=qL (f:=f) (qs:=qs);unfold tsF;generalize fin f qs=s at *;obtain⟨J,i⟩:=eQ (C:=IV (n+4)) (t:=.cmp .nin (.nm 0) (.nm 1)) (p:=λa=>!decide (a∈f.longs)) (ρ:=[some (Lo f)]) (js:=jIx 0 f.rows) (out:=[]) (o:=none) λj _=>aj (ar rfl rfl rfl rfl ninL);have I:∀j∈(jIx 0 f.rows).filter (λa=>!decide (a∈f.longs)),aT (IV (n+4)) iT (IU j::[IU hop,some (Rl f.rows),some (Il (s.ps++[s.pl])),some (Dl s.ps)])=some (tq f s hop j,IU j::[IU hop,some (Rl f.rows),some (Il (s.ps++[s.pl])),some (Dl s.ps)]):=λj B=>by obtain⟨k,r,e,F,v⟩:=lu (abi.mp B).1;rw[ach]at e;subst e;exact t_ts D g F v
 have c:((jIx 0 f.rows).filter (λa=>!decide (a∈f.longs))).length<=1000:=aan (aaU _ _) (by rw[fY];exact aan (aaU _ _) (by omega));generalize (jIx 0 f.rows).filter (λa=>!decide (a∈f.longs))=js at *;obtain⟨L,l⟩:=eQ (C:=IV (n+4)) (t:=iT) (p:=tq f s hop) (ρ:=[IU hop,some (Rl f.rows),some (Il (s.ps++[s.pl])),some (Dl s.ps)]) (js:=js) (out:=[]) (o:=none) I;rw[aaM]at i l;have m:(IV (n+4)).call=pl.pg.call (n+4):=rfl;rw[<-m]at h;have d:=yO (n:=n+2) (rs:=f.rows) (by omega);rw[<-m]at d;have b:(jIx 0 f.rows).length<1000000:=by rw[fY];exact abX (aaU _ _) (by omega)
 refine ai (fn:=gX) (ρ:=[some (Rl f.rows),some (Lo f),some (Pq qs),IU hop,some (Dl s.ps),some (Dl s.bs),IU s.pl,some (Il (s.ps++[s.pl])),some (Dl js)]) rfl rfl ?_ rfl;refine ab (oB (ρ3:=[some (Rl f.rows),some (Lo f),some (Pq qs),IU hop,some (Dl s.ps),some (Dl s.bs),IU s.pl,none,none]) (ae (ρ3:=[some (Rl f.rows),some (Lo f),some (Pq qs),IU hop,none,none,none,none,none]) rfl rfl h rfl) rfl rfl) ?_;refine ab (ah (ρ3:=[some (Rl f.rows),some (Lo f),some (Pq qs),IU hop,some (Dl s.ps),some (Dl s.bs),IU s.pl,some (Il (s.ps++[s.pl])),none]) (pX rfl (cG (aa rfl af) rfl rfl) rfl rfl (by rw[aaa,g];show _+1<=_;omega)) rfl rfl (by rw[v5];rfl)) ?_;refine ab (ah (ρ3:=[some (Rl f.rows),some (Lo f),some (Pq qs),IU hop,some (Dl s.ps),some (Dl s.bs),IU s.pl,some (Il (s.ps++[s.pl])),some (Il js)]) (cQ (ρ2:=[some (Rl f.rows),some (Lo f),some (Pq qs),IU hop,some (Dl s.ps),some (Dl s.bs),IU s.pl,some (Il (s.ps++[s.pl])),none]) (bQ (ae (ρ3:=[some (Rl f.rows),some (Lo f),some (Pq qs),IU hop,some (Dl s.ps),some (Dl s.bs),IU s.pl,some (Il (s.ps++[s.pl])),none]) rfl rfl d rfl) (by show (Il _).dat.map _=_;rw[aK];rfl) rfl) (by rw[aaa];exact b) rfl i rfl) rfl rfl (by rw[dQ];rfl)) ?_;exact aC (aq (z:=Il (js.filter (tq f s hop))) (cQ (ρ2:=[some (Rl f.rows),some (Lo f),some (Pq qs),IU hop,some (Dl s.ps),some (Dl s.bs),IU s.pl,some (Il (s.ps++[s.pl])),some (Dl js)]) (bQ rfl (bL rfl (aK _) rfl) rfl) (by rw[aaa];omega) rfl l rfl) (by rw[dQ];rfl))
def FD{C:Ct}{a b:E}{ρ:DEnv}{x y:Bool}(c:aT C a ρ=some (x,ρ))(d:aT C b ρ=some (y,ρ)):aT C (.or a b) ρ=some (x||y,ρ):=by cases x with|true=>exact jM c|false=>exact cH c d
def t_andB{C:Ct}{a b:E}{ρ:DEnv}{x y:Bool}(c:aT C a ρ=some (x,ρ))(d:aT C b ρ=some (y,ρ)):aT C (.and a b) ρ=some (x&&y,ρ):=by cases x with|true=>exact t_andT c d|false=>exact eA c
def FE(r:R):mo .inn (.str r.wd) (.tuple [.str bv,.str cr])=some r.jm:=by rw[zN];show some (decide (bv=r.wd)||(decide (cr=r.wd)||false))=_;rw[abz,decide_eq_decide.mpr (eq_comm (a:=Str.ofString "go")),decide_eq_decide.mpr (eq_comm (a:=Str.ofString "nil"))]
def CB{r:R}{hop m:Int}:(decide (hop<m)||(decide (r.wd=cr)&&decide (99<m)))=decide (farN r hop<m):=by
 unfold farN;by_cases h:r.wd=cr
 ·rw[Dac h,if_pos h,abh,<-Bool.decide_or];refine decide_eq_decide.mpr ?_;split<;>omega
 ·rw[Dab h,if_neg h,abR,abz]
abbrev lU(f:Cf)(qs:Pz)(s:Mc)(hop:Int)(out:List Int)(o9 o10 o11:Option OD):DEnv:=[some (Rl f.rows),some (Lo f),some (Pq qs),IU hop,some (Dl s.ps),some (Dl s.bs),IU s.pl,some (Il (s.ps++[s.pl])),some (Il out),o9,o10,o11]
abbrev lV:Ss:=match F_l_too_short.body with|.cons _ (.cons _ (.cons (.fr _ _ b) _))=>b|_=>.nil
def adds(f:Cf)(s:Mc)(hop:Int)(r:R)(k:Int):Bool:=r.jm&&(!decide (k∈f.longs)&&tq f s hop k)
def yP{n k:Nat}{f:Cf}{qs:Pz}{s:Mc}{hop:Int}{out:List Int}{r:R}{o11:Option OD}(w:Nb f.rows.length f.rows)(x:s.ps.length=f.rows.length)(h:f.rows[k]?=some r)(C:out.length<=1000):∃q,aw (IV n) lV (lU f qs s hop out (IU k) (some (Rd r)) o11)=some (.nx,lU f qs s hop (out++if adds f s hop r k=true then [(k:Int)] else []) (IU k) (some (Rd r)) q):=by
 have u:aT (IV n) ea0 (lU f qs s hop out (IU k) (some (Rd r)) o11)=some (r.jm,lU f qs s hop out (IU k) (some (Rd r)) o11):=aj (ar (aN (z:=.fz (.str r.wd)) rfl rfl rfl (by rw[R.x6];exact bz bc)) rfl rfl rfl (FE r));have y:aT (IV n) edz (lU f qs s hop out (IU k) (some (Rd r)) o11)=some (!decide ((k:Int)∈f.longs),lU f qs s hop out (IU k) (some (Rd r)) o11):=aj (ar rfl rfl rfl rfl ninL);have b:=t_andB u y;unfold adds;cases a:r.jm&&!decide ((k:Int)∈f.longs) with
 |false=>rw[a]at b;rw[<-Bool.and_assoc,a,abR,if_neg aaf,aam];exact⟨_,ab (az b rfl) rfl⟩
 |true=>
  rw[a]at b;rw[<-Bool.and_assoc,a,abh];obtain⟨l,_⟩:=abm.mp a;have e:=w r (abd h);obtain⟨p,A,_⟩:=e l;have B:k<f.rows.length:=(aar.mp h).1;have d:ev (IV n) Ht (lU f qs s hop out (IU k) (some (Rd r)) o11)=some (.val (It ((s.ps++[s.pl]).getD r.tg.toNat 0)),lU f qs s hop out (IU k) (some (Rd r)) o11):=aN rfl (FC rfl e l) rfl (jf rfl (atI_get p (by rw[aal,x,aaI];omega)));have j:ev (IV n) Hq (lU f qs s hop out (IU k) (some (Rd r)) o11)=some (.val (It (s.ps.getD k 0)),lU f qs s hop out (IU k) (some (Rd r)) o11):=aN rfl rfl rfl (bS (atI_get (i:=(k:Int)) (by omega) (by omega)));obtain⟨m,o⟩:∃m:Int,m=if gol s r k<0 then -(gol s r k) else gol s r k:=⟨_,rfl⟩
  have v:ev (IV n) eae (lU f qs s hop out (IU k) (some (Rd r)) o11)=some (.val (It m),lU f qs s hop out (IU k) (some (Rd r)) o11):=by refine aX (aa (ag d j rfl rfl rfl) (aa (ag j d rfl rfl rfl) af)) rfl ?_;show some (PyData.int (if s.ps.getD k 0-(s.ps++[s.pl]).getD r.tg.toNat 0>(s.ps++[s.pl]).getD r.tg.toNat 0-s.ps.getD k 0 then s.ps.getD k 0-(s.ps++[s.pl]).getD r.tg.toNat 0 else (s.ps++[s.pl]).getD r.tg.toNat 0-s.ps.getD k 0))=some (.int m);rw[o];unfold gol;congr 2;split<;>split<;>omega
  have t:tq f s hop k=decide (farN r hop<m):=by unfold tq;rw[abe,h,o];rfl
  have c:aT (IV n) eal (lU f qs s hop out (IU k) (some (Rd r)) (IU m))=some (tq f s hop k,lU f qs s hop out (IU k) (some (Rd r)) (IU m)):=by rw[t,<-CB];exact FD (aj (ar rfl rfl rfl rfl rfl)) (t_andB (aj (CA rfl rfl)) (aj (ar rfl rfl rfl rfl rfl)))
  refine⟨IU m,ab (aH b (ab (ah (ρ3:=lU f qs s hop out (IU k) (some (Rd r)) (IU m)) v rfl rfl rfl) ?_)) rfl⟩;cases g:tq f s hop k with
  |false=>rw[g]at c;rw[if_neg aaf,aam];exact ab (az c rfl) rfl
  |true=>rw[g]at c;rw[if_pos rfl];refine ab (aH c (ab (bP (ρ3:=lU f qs s hop (out++[(k:Int)]) (IU k) (some (Rd r)) (IU m)) rfl rfl rfl rfl (by rw[aaa];omega) ?_) rfl)) rfl;unfold lU;rw[bX (ns:=out)];rfl
def tsL(f:Cf)(s:Mc)(hop:Int)(i:Int)(rs:List R):List Int:=((jIx i rs).filter λa=>!decide (a∈f.longs)).filter (tq f s hop)
def v7{f:Cf}{s:Mc}{hop i:Int}{r:R}{rs:List R}:tsL f s hop i (r::rs)=(if adds f s hop r i=true then [i] else [])++tsL f s hop (i+1) rs:=by
 unfold tsL adds;rw[jIx];cases r.jm with
 |false=>rfl
 |true=>
  rw[if_pos rfl,abh,aa2];cases !decide (i∈f.longs) with
  |false=>rfl
  |true=>rw[if_pos rfl,abh,aa2];split<;>rfl
def qM{n:Nat}{f:Cf}{qs:Pz}{s:Mc}{hop:Int}(j:Nb f.rows.length f.rows)(l:s.ps.length=f.rows.length):∀{rs:List R}{k:Nat}{out:List Int}{o9 o10 o11:Option OD},f.rows.drop k=rs->out.length+rs.length<=1000->∃g b a,bE (λd c=>(aW (.tp [9,10]) (.fz d) c).bind λρ1=>aw (IV n) lV ρ1) (enF k rs) (lU f qs s hop out o9 o10 o11)=some (.nx,lU f qs s hop (out++tsL f s hop k rs) g b a)
 |[],k,out,o9,o10,o11,_,_=>⟨o9,o10,o11,by show some _=some _;rw[tsL,jIx,abq,abq,aam]⟩
 |r::rs,k,out,o9,o10,o11,h,hb=>by
  have p:f.rows[k]?=some r:=by rw[<-List.head?_drop,h];rfl
  have q:f.rows.drop (k+1)=rs:=by rw[<-aci,h];rfl
  rw[aaq]at hb;obtain⟨m,e⟩:=yP (n:=n) (qs:=qs) (hop:=hop) (out:=out) (o11:=o11) j l p (by omega);have i:(out++if adds f s hop r k=true then [(k:Int)] else []).length<=out.length+1:=by rw[aal];split<;>simp
  obtain⟨g,b,a,o⟩:=qM (n:=n) (qs:=qs) (hop:=hop) j l (rs:=rs) (k:=k+1) (out:=out++if adds f s hop r k=true then [(k:Int)] else []) (o9:=IU k) (o10:=some (Rd r)) (o11:=m) q (by omega);refine⟨g,b,a,bs (bs (x:=lU f qs s hop out (IU k) (some (Rd r)) o11) rfl e) ?_⟩;rw[v7,<-aad];exact o
def v8{n:Nat}{f:Cf}{qs:Pz}{hop:Int}(o:∀q∈qs,0<=q.1)(h:qs.length<=300)(l:f.rows.length<=200)(i:Nb f.rows.length f.rows):pl.pg.call (n+4) 31 [Rl f.rows,Lo f,Pq qs,It hop]=some (Il (tsF f qs hop),[Rl f.rows,Lo f,Pq qs,It hop]):=by have d:pl.pg.call (n+3) 30 [Rl f.rows,Lo f,Pq qs]=some (CT (fin f qs),[Rl f.rows,Lo f,Pq qs]):=vY (n:=n) o h l;have c:=qL (f:=f) (qs:=qs);have m:tsF f qs hop=tsL f (fin f qs) hop 0 f.rows:=rfl;rw[m];generalize fin f qs=s at *;have g:(IV (n+3)).call=pl.pg.call (n+3):=rfl;rw[<-g]at d;obtain⟨j,a,b,e⟩:=qM (n:=n+3) (qs:=qs) (hop:=hop) i c (rs:=f.rows) (k:=0) (out:=[]) (o9:=none) (o10:=none) (o11:=none) rfl (by rw[aaX];omega);rw[aaM]at e;refine ai (fn:=F_l_too_short) (ρ:=lU f qs s hop [] j a b |>.set 8 none) rfl rfl ?_ rfl;refine ab (oB (ρ3:=[some (Rl f.rows),some (Lo f),some (Pq qs),IU hop,some (Dl s.ps),some (Dl s.bs),IU s.pl,none,none,none,none,none]) (ae (ρ3:=[some (Rl f.rows),some (Lo f),some (Pq qs),IU hop,none,none,none,none,none,none,none,none]) rfl rfl d rfl) rfl rfl) ?_;refine ab (fg (ρ3:=lU f qs s hop [] none none none) (aa (pX rfl (cG (aa rfl af) rfl rfl) rfl rfl (by rw[aaa,c];show _+1<=_;omega)) (aa rfl af)) rfl rfl (by rw[v5];rfl)) ?_;refine ab (cp (oo rfl rfl) (by rw[lh];exact e)) ?_;exact aC (aq rfl rfl)
abbrev Sm(n:Nat)(d:PyData):Prop:=pl.pg.call (n+1) 35 [.fz d,.fz d]=some (.fz (.bool true),[.fz d,.fz d])
def c_same0{n:Nat}{a:Int}:Sm n (.int a):=by have h:ev (IV n) ed2 [IU a,IU a]=some (.val (.fz (.bool true)),[IU a,IU a]):=ar rfl rfl rfl rfl (show some (decide (a=a))=some true by rw[Dac rfl]);exact ai (fn:=ou) rfl rfl (ab (az rfl rfl) (ab (az rfl rfl) (ab (az rfl rfl) (aC (aq (oi rfl (oi rfl h)) rfl))))) rfl
def m5:∀m:Nat,allB (List.replicate m (.bool true))=some (List.replicate m true)
 |0=>rfl
 |m+1=>by rw[abf,allB,m5 m];rfl
def yQ{m:Nat}:CP .all [.list (List.replicate m (.bool true))]=some (.bool true):=by show (allB (List.replicate m (.bool true))).bind _=_;rw[m5];show some (PyData.bool ((List.replicate m true).all id))=_;rw[List.all_replicate];simp
def v9{ρ:DEnv}{ds:List PyData}:iL ρ [.val (.lst (ds.map OD.fz))]=some [.list ds]:=by have:aJ ρ (.val (.lst (ds.map OD.fz)))=some (.list ds):=fj ds;simp only[iL,this];rfl
def qN{n:Nat}:∀{ds out:List PyData}{o0 o1:Option OD},(∀d∈ds,Sm n d)->∃a c,bw (bF (IV (n+1)) (.tp [0,1]) .none ecp) (gk ds ds) out [o0,o1]=some (out++List.replicate ds.length (.bool true),[a,c])
 |[],out,o0,o1,_=>⟨o0,o1,by show some (out,_)=some (out++[],_);rw[aam]⟩
 |x::xs,out,o0,o1,h=>by obtain⟨f,b,e⟩:=qN (n:=n) (ds:=xs) (out:=out++[.bool true]) (o0:=some (.fz x)) (o1:=some (.fz x)) λd g=>h d (aah _ g);refine⟨f,b,bs (x:=([.bool true],[some (.fz x),some (.fz x)])) (su (x:=.val (.fz (.bool true))) rfl (ae (ρ3:=[some (.fz x),some (.fz x)]) rfl rfl (h x aai) rfl) rfl) ?_⟩;rw[aad]at e;exact e
def dH{n:Nat}{ds:List PyData}(p:ds.length<=1000)(h:∀d∈ds,Sm n d):Sm (n+1) (.list ds)/\Sm (n+1) (.tuple ds):=by
 obtain⟨o0,o1,e⟩:=qN (n:=n) (ds:=ds) (out:=[]) (o0:=none) (o1:=none) h;rw[aaM]at e;have j:(gk ds ds).length<1000000:=by unfold gk;rw[acb];omega
 have a:∀x:PyData,uB x=some ds->iM x=some ds.length->wD .seq x=true->Sm (n+1) x:=λx c m g=>by
  have l:=cQ (C:=IV (n+1)) (nt:=2) (fr:=[]) (it:=.zip (.nm 0) (.nm 1)) (ρ:=[some (.fz x),some (.fz x)]) (ρ1:=[some (.fz x),some (.fz x)]) (ρ2:=[some (.fz x),some (.fz x)]) (vA (ρ3:=[some (.fz x),some (.fz x)]) rfl rfl rfl rfl c c) j rfl e unca_nil;have b:CP .len [x]=some (.int ds.length):=by show (iM x).bind (λn=>some (PyData.int n))=_;rw[m];rfl
  have o:aT (IV (n+1)) eba [some (.fz x),some (.fz x)]=some (false,[some (.fz x),some (.fz x)]):=aj (ar (dx:=.int ds.length) (dy:=.int ds.length) (aX rfl rfl b) (aX rfl rfl b) rfl rfl (show some (!decide ((ds.length:Int)=ds.length))=some false by rw[Dac rfl];rfl));have f:∀k,aT (IV (n+1)) (.cmp .ne (.isi k (.nm 0)) (.isi k (.nm 1))) [some (.fz x),some (.fz x)]=some (false,[some (.fz x),some (.fz x)]):=λk=>aj (ar (dx:=.bool (wD k x)) (dy:=.bool (wD k x)) rfl rfl rfl rfl (by cases wD k x<;>rfl));have i:aT (IV (n+1)) (.isi .seq (.nm 1)) [some (.fz x),some (.fz x)]=some (true,[some (.fz x),some (.fz x)]):=by show some (wD .seq x,_)=_;rw[g]
  exact ai (fn:=ou) rfl rfl (aC (aH i (ab (az (cH (f .list) (f .tuple)) rfl) (ab (az o rfl) (aC (aq (aX (ds:=[.list (List.replicate ds.length (.bool true))]) (aa l af) v9 yQ) rfl)))))) rfl
 exact⟨a _ rfl rfl rfl,a _ rfl rfl rfl⟩
abbrev dPn(qs:List (Int×List Int))(us:List Int):PyData:=.tuple [.list (qs.map Po),.list (us.map PyData.int)]
def CD(qs:List (Int×List Int))(us:List Int):(Pn qs us).dat=some (dPn qs us):=by simp only[Pn,OD.dat,OD.dv,dats_fz];rw[<-dQ,dats_fz]
def yR{n:Nat}{qs:List (Int×List Int)}{us:List Int}(j:qs.length<=1000)(g:us.length<=1000)(f:∀q∈qs,q.2.length<=1000):Sm (n+4) (dPn qs us):=by
 have e:∀{m:Nat}{c:List Int},∀d∈c.map PyData.int,Sm m d:=λ{m c} d b=>by obtain⟨a,_,rfl⟩:=aay.mp b;exact c_same0
 have i:∀d∈qs.map Po,Sm (n+2) d:=λd b=>by
  obtain⟨q,h,rfl⟩:=aay.mp b;refine(dH (n:=n+1) (by show 2<=1000;decide) λd b=>?_).2;rcases aab.mp b with rfl|b
  ·exact c_same0
  ·rw[aaz.mp b];exact(dH (n:=n) (by rw[aaa];exact f q h) e).2
 refine(dH (n:=n+3) (by show 2<=1000;decide) λd b=>?_).2;rcases aab.mp b with rfl|b
 ·exact(dH (n:=n+2) (by rw[aaa];exact j) i).1
 ·rw[aaz.mp b];exact(dH (n:=n+2) (by rw[aaa];exact g) e).1
def wa{f:Cf}{g a b:G}{k:Int}(h:Come f g k a)(h':Come f g k b):a=b:=by
 cases h with
 |put e m c j=>
  cases h' with
  |put d _ _ _=>rw[e]at d;obtain⟨rfl,i⟩:=abt d rfl;cases i;rfl
  |got d l _=>rw[e]at d;obtain⟨rfl,i⟩:=abt d rfl;cases i;exact absurd l c
  |wait n _=>exact absurd ⟨m,c,j⟩ (n _ _ e)
 |got e c j=>
  cases h' with
  |put d _ l _=>rw[e]at d;obtain⟨rfl,i⟩:=abt d rfl;cases i;exact absurd c l
  |got d _ _=>rfl
  |wait _ i=>exact absurd ⟨c,j⟩ (i _ _ e)
 |wait n i=>
  cases h' with
  |put e m c j=>exact absurd ⟨m,c,j⟩ (n _ _ e)
  |got e c j=>exact absurd ⟨c,j⟩ (i _ _ e)
  |wait _ _=>rfl
def sE{f:Cf}{g a b:G}{k:Nat}(h:Cross f g k a)(h':Cross f g k b):a=b:=by
 cases e:(f.rows[k]?).elim false R.gr with
 |true=>exact wa (h.gr e) (h'.gr e)
 |false=>rw[h.no e,h'.no e]
def wb{f:Cf}{k:Nat}{g a b:G}(h:Path f k g a):Path f k g b->a=b:=by
 induction h with
 |nil l _=>intro e;cases e with
  |nil _ _=>rfl
  |cons d _ _ _=>omega
 |cons l _ C _ i=>intro e;cases e with
  |nil d _=>omega
  |cons _ _ j c=>rw[sE C j]at i;exact i c
def CU(gs:List Int)(k:Nat):Prop:=gs.Pairwise (·<·)/\∀x∈gs,0<=x/\x<(k:Int)
def lays_inc{f:Cf}{g:G}{k:Nat}(h:CU g.gaps k):CU (laysG f g k).gaps (k+1):=by
 unfold laysG;split
 ·refine⟨abN.mpr ⟨h.1,List.pairwise_singleton _ _,λx a y b=>?_⟩,λx a=>?_⟩
  ·rw[aaz.mp b];exact(h.2 x a).2
  ·rcases aak.mp a with a|a
   ·have:=h.2 x a;omega
   ·rw[aaz.mp a];omega
 ·exact⟨h.1,λx a=>by have:=h.2 x a;omega⟩
def jn{f:Cf}{g a:G}{k:Nat}(h:Cross f g k a):a.gaps=(laysG f g k).gaps:=by
 cases e:(f.rows[k]?).elim false R.gr with
 |true=>cases h.gr e<;>rfl
 |false=>rw[h.no e]
def wc{f:Cf}{k:Nat}{g a:G}(h:Path f k g a):CU g.gaps k->CU a.gaps f.rows.length:=by
 induction h with
 |nil b _=>intro i;rw[<-b];exact i
 |cons b _ C _ c=>intro i;exact c (by show CU _ _;rw[jn C];exact lays_inc i)
def we:∀{rs:List R}{i:Int},(∀r∈rs,r.gr=false)->gIx i rs=[]
 |[],_,_=>rfl
 |r::rs,i,h=>by rw[gIx,h r aai,if_neg aaf,we λr a=>h r (aah _ a)]
def Iv.no{f:Cf}{g:G}{k m:Nat}(I:Iv f g k m)(h:∀r∈f.rows,r.gr=false):g.us=[]/\g.wt=[]:=by have e:=I.ix;rw[we λr a=>h r (List.mem_of_mem_take a)]at e;obtain⟨b,c⟩:=List.append_eq_nil_iff.mp e;exact⟨acB.mp b,acB.mp c⟩
def qO{f:Cf}{g:G}{k:Nat}(h:g.wt=[]):laysG f g k=g:=by unfold laysG due;rw[h];rfl
def path_no{f:Cf}{k:Nat}{g a:G}(b:∀r∈f.rows,r.gr=false)(h:Path f k g a):g.gaps=[]->a.gaps=[]/\a.wt=[]:=by
 induction h with
 |nil _ I=>intro e;exact⟨e,(I.no b).2⟩
 |cons _ I C _ c=>intro e;exact c (by show G.gaps _=_;rw[jn C,qO (I.no b).2];exact e)
def PlanOf(f:Cf)(qs:Pz)(us:List Int):Prop:=∃g a,g=laysG f a f.rows.length/\Iv f g f.rows.length (f.rows.length+1)/\Path f 0 ⟨0,[],[],0,[],[]⟩ a/\qs=g.gaps.zip g.words/\us=g.us.map (·.2)
def PlanOf.one{f:Cf}{qs a:Pz}{us b:List Int}(h:PlanOf f qs us)(h':PlanOf f a b):qs=a/\us=b:=by obtain⟨g,n,e,_,P,i,j⟩:=h;obtain⟨o,l,m,_,k,d,c⟩:=h';have:=wb P k;subst this e m i d j c;exact⟨rfl,rfl⟩
def qP:∀{gs:List Int}{ws:List (List Int)},gs.Pairwise (·<·)->(gs.zip ws).Pairwise λx y=>x.1<y.1
 |[],_,_=>by rw[List.zip_nil_left];exact .nil
 |_::_,[],_=>by rw[List.zip_nil_right];exact .nil
 |g::gs,w::ws,h=>by obtain⟨c,a⟩:=aaT.mp h;exact aaT.mpr ⟨λq b=>c _ (abb b).1,qP a⟩
structure Pln (f:Cf)(qs:Pz)(us:List Int):Prop where
 inc:qs.Pairwise λx y=>x.1<y.1
 nn:∀q∈qs,0<=q.1
 len:qs.length<=300
 ul:us.length<=1000
 wl:∀q∈qs,q.2.length<=1000
 no:(∀r∈f.rows,r.gr=false)->qs=[]/\us=[]
def PlanOf.pln{f:Cf}{qs:Pz}{us:List Int}(p:f.rows.length<=200)(h:PlanOf f qs us):Pln f qs us:=by
 obtain⟨g,n,e,I,P,rfl,rfl⟩:=h;have k:=wc P ⟨List.Pairwise.nil,λx l=>absurd l aaw⟩;have b:CU g.gaps (f.rows.length+1):=by rw[e];exact lays_inc k
 have o:=I.len;have r:=I.gl;have m:=I.j1;refine⟨qP b.1,λq a=>(b.2 _ (abb a).1).1,by rw[List.length_zip];omega,by rw[aaa];omega,λq a=>by have:=m q.2 (abb a).2;omega,λc=>?_⟩;obtain⟨i,j⟩:=path_no c P rfl;have d:g.gaps=[]:=by rw[e,qO j];exact i
 exact⟨by rw[d];rfl,by rw[(I.no c).1];rfl⟩
def PlanOf.ex{f:Cf}(c:f.rows.length<=200):∃qs us,PlanOf f qs us:=by obtain⟨g,_,a,b,I,P⟩:=qx (n:=0) (f:=f) c;exact⟨_,_,g,a,b,I,P,rfl,rfl⟩
def PlanOf.call{n:Nat}{f:Cf}{qs:Pz}{us:List Int}(c:f.rows.length<=200)(h:PlanOf f qs us):pl.pg.call (n+6) 17 [Rl f.rows,Lo f,Re f]=some (Pn qs us,[Rl f.rows,Lo f,Re f]):=by obtain⟨g,e,a,b,I,P⟩:=qx (n:=n) (f:=f) c;obtain⟨rfl,rfl⟩:=h.one ⟨g,a,b,I,P,rfl,rfl⟩;exact e
def PlanOf.late{n:Nat}{f:Cf}{qs:Pz}{us:List Int}(c:f.rows.length<=200)(a:(f.rows.filter R.gr).length<=60)(h:PlanOf f qs us):pl.pg.call (n+3) 32 [Rl f.rows,Lo f,Re f]=some (Pn qs us,[Rl f.rows,Lo f,Re f]):=by obtain⟨g,d,b,I,P,rfl,rfl⟩:=h;exact Cv c a b I P
def m6{i a:Int}:∀{l:List Int},a∈insI i l ↔ a=i\/a∈l
 |[]=>by simp[insI]
 |j::r=>by
  rw[insI];split
  ·simp
  ·rw[aab,m6,aab];constructor<;>(intro h;rcases h with h|h|h<;>simp[h])
def jY{a:Int}:∀{l:List Int},a∈sortI l ↔ a∈l
 |[]=>Iff.rfl
 |j::r=>by rw[sortI,m6,jY,aab]
def m7{i:Int}:∀{l:List Int},(insI i l).length=l.length+1
 |[]=>rfl
 |j::r=>by
  rw[insI];split
  ·rfl
  ·rw[aaq,m7];rfl
def jZ:∀{l:List Int},(sortI l).length=l.length
 |[]=>rfl
 |j::r=>by rw[sortI,m7,jZ];rfl
def free(f:Cf):List Int:=(jIx 0 f.rows).filter λa=>!decide (a∈f.longs)
abbrev nx(f:Cf)(sh:List Int):Cf:=⟨f.rows,sortI (f.longs++sh),f.r0,f.r1⟩
def split_len{b:Type}{p:b->Bool}:∀{l:List b},(l.filter p).length+(l.filter λa=>!p a).length=l.length
 |[]=>rfl
 |x::l=>by
  have:=split_len (p:=p) (l:=l);rw[aa2,aa2];cases p x with
  |true=>rw[if_pos rfl,if_neg (by decide),aaq,aaq];omega
  |false=>rw[if_neg (by decide),if_pos (by decide),aaq,aaq];omega
def lz{f:Cf}{qs:Pz}{hop:Int}:(free (nx f (tsF f qs hop))).length+(tsF f qs hop).length<=(free f).length:=by
 have d:tsF f qs hop=(free f).filter (tq f (fin f qs) hop):=rfl;have j:=split_len (p:=tq f (fin f qs) hop) (l:=free f);have g:(free (nx f (tsF f qs hop))).length<=((free f).filter λa=>!tq f (fin f qs) hop a).length:=by
  unfold free;rw[List.filter_filter,<-abO,<-abO];refine List.countP_mono_left λa i h=>?_;have b:a ∉ sortI (f.longs++tsF f qs hop):=by simpa using h
  rw[jY,aak]at b;have c:a ∉ f.longs:=λz=>b (.inl z);rw[Dab c,Bool.not_false,Bool.and_true];cases e:tq f (fin f qs) hop a with
  |false=>rfl
  |true=>exact absurd (.inr (by rw[d];exact abi.mpr ⟨abi.mpr ⟨i,by rw[Dab c];rfl⟩,e⟩)) b
 rw[d]at g ⊢;omega
inductive Rnd (hop:Int):Nat->Cf->Cf->Prop
 |done {f:Cf}{qs:Pz}{us:List Int} (P:PlanOf f qs us) (h:tsF f qs hop=[]):Rnd hop 0 f f
 |more {k:Nat}{f f':Cf}{qs:Pz}{us:List Int} (P:PlanOf f qs us) (h:tsF f qs hop≠[]) (r:Rnd hop k (nx f (tsF f qs hop)) f'):Rnd hop (k+1) f f'
def wg{hop:Int}:∀{m:Nat}{f:Cf},(free f).length<=m->f.rows.length<=200->∃k a,k<=m/\Rnd hop k f a
 |m,f,hm,hN=>by
  obtain⟨qs,us,P⟩:=PlanOf.ex hN;by_cases h:tsF f qs hop=[]
  ·exact⟨0,f,aaH _,.done P h⟩
  ·have d:=lz (f:=f) (qs:=qs) (hop:=hop);have b:0<(tsF f qs hop).length:=List.length_pos_iff.mpr h;cases m with
   |zero=>omega
   |succ m=>obtain⟨k,a,c,r⟩:=wg (m:=m) (f:=nx f (tsF f qs hop)) (by omega) hN;exact⟨k+1,a,by omega,.more P h r⟩
structure Bd (f:Cf):Prop where
 hN:f.rows.length<=200
 h60:(f.rows.filter R.gr).length<=60
 hJ:Nb f.rows.length f.rows
 bd:f.longs.length+(free f).length<=60
def Bd.next{f:Cf}{qs:Pz}{hop:Int}(B:Bd f):Bd (nx f (tsF f qs hop)):=by refine⟨B.hN,B.h60,B.hJ,?_⟩;have b:=lz (f:=f) (qs:=qs) (hop:=hop);have a:=B.bd;show (sortI _).length+_<=60;rw[jZ,aal];omega
def Bd.srt{f:Cf}{qs:Pz}{hop:Int}(B:Bd f):(f.longs++tsF f qs hop).length<64:=by have b:=lz (f:=f) (qs:=qs) (hop:=hop);have a:=B.bd;rw[aal];omega
def Rnd.keeps{hop:Int}{k:Nat}{f a:Cf}(h:Rnd hop k f a):Bd f->Bd a/\a.rows=f.rows/\a.r0=f.r0/\a.r1=f.r1:=by
 induction h with
 |done _ _=>intro B;exact⟨B,rfl,rfl,rfl⟩
 |more _ _ _ b=>intro B;exact b B.next
def eS{ios:List Bool}{ρ ρ1 ρ2:DEnv}{r:OR}{rs:List OR}{d:PyData}{xs:List OD}(h:frz1 ρ r=some (d,ρ1))(k:ba ios ρ1 rs=some (xs,ρ2)):ba (false::ios) ρ (r::rs)=some (.fz d::xs,ρ2):=by simp only[ba,h,k]
def m8:∀{ns:List Int},jF (ns.map PyData.int)=some ns
 |[]=>rfl
 |i::ns=>by show (jF (ns.map PyData.int)).bind _=_;rw[m8];rfl
def lA(ls:List Int):listOf (Il ls)=some (ls.map PyData.int):=by show tZ (ls.map It)=_;rw[<-dQ];exact gh _
def wm{C:Ct}{a b:E}{ρ ρ1 ρ2:DEnv}{x y:OR}{xs ys:List Int}(g:ev C a ρ=some (x,ρ1))(e:ev C b ρ1=some (y,ρ2))(f:zk ρ2 x=some (xs.map PyData.int))(i:zk ρ2 y=some (ys.map PyData.int))(d:(xs++ys).length<64):ev C (.bnw .sorted (.cat a b)) ρ=some (.val (Il (sortI (xs++ys))),ρ2):=by have c:=d;rw[aal]at c;have h:=pX g e f i (by rw[aaa,aaa];omega);rw[<-aax]at h;exact vu h (fj _) m8 d
def FF{c:DEnv->Option (Bool×DEnv)}{b:DEnv->Option (Fl×DEnv)}{n:Nat}{ρ ρ1:DEnv}(h:c ρ=some (false,ρ1))(a:0<n):eh c b n ρ=some (.nx,ρ1):=by
 cases n with
 |zero=>omega
 |succ n=>exact bs h rfl
def CF{c:DEnv->Option (Bool×DEnv)}{b:DEnv->Option (Fl×DEnv)}{n:Nat}{ρ ρ1 ρ2:DEnv}{r:Option (Fl×DEnv)}(h:c ρ=some (true,ρ1))(a:b ρ1=some (.nx,ρ2))(k:eh c b n ρ2=r):eh c b (n+1) ρ=r:=bs h (by rw[if_pos rfl];exact bs a k)
def Hy{c:DEnv->Option (Bool×DEnv)}{b:DEnv->Option (Fl×DEnv)}{n:Nat}{ρ ρ1 ρ2:DEnv}{x:OD}(h:c ρ=some (true,ρ1))(a:b ρ1=some (.rt x,ρ2))(d:0<n):eh c b n ρ=some (.rt x,ρ2):=by
 cases n with
 |zero=>omega
 |succ n=>exact bs h (by rw[if_pos rfl];exact bs a rfl)
abbrev Ph(qs:Pz)(us:List Int):OD:=.tup [Pq qs,Il us]
abbrev dSt(f:Cf)(qs:Pz)(us:List Int):PyData:=.tuple [.list (f.longs.map PyData.int),dPn qs us]
def wo(qs:Pz)(us:List Int):(Ph qs us).dat=some (dPn qs us):=by simp only[Ph,OD.dat,OD.dv];rw[<-dQ,dats_fz]
def qQ{ρ a:DEnv}{j:Nat}{qs:Pz}{us:List Int}(h:ρ[j]?.join=some (Pn qs us))(b:ρ.set j (some (Ph qs us))=a):bu ρ (.rf j) 0=some (Pq qs,a):=by
 have e:itemS (Pn qs us) 0=some (.list (qs.map Po),Ph qs us):=by show (match (OD.lst ((qs.map Po).map OD.fz)).dat with|some d=>some (d,OD.tup ([OD.lst ((qs.map Po).map OD.fz),Il us].set 0 (.fz d)))|none=>none)=_;rw[fj];rfl
 simp only[bu,h,e,b]
abbrev sE'(f:Cf)(hop:Int)(x3:OD)(o4 o5:Option OD):DEnv:=[some (Rl f.rows),some (Re f),IU hop,some x3,o4,o5]
abbrev sT(f:Cf)(hop:Int)(qs:Pz)(us:List Int):DEnv:=sE' f hop (Lo f) (some (Ph qs us)) (some (Il (tsF f qs hop)))
abbrev sP:S':=.set 4 ebm
abbrev sQ:S':=.set 5 eav
def zO{n:Nat}{f:Cf}{hop:Int}{qs:Pz}{us:List Int}{o4 o5:Option OD}{c:Ss}{r:Option (Fl×DEnv)}(B:Bd f)(P:PlanOf f qs us)(k:aw (IV (n+6)) c (sT f hop qs us)=r):aw (IV (n+6)) (.cons sP (.cons sQ c)) (sE' f hop (Il f.longs) o4 o5)=r:=by have p:=P.pln B.hN;have b:=P.call (n:=n) B.hN;have a:=ly (n:=n+1) (hop:=hop) p.inc p.nn p.len B.hN B.hJ;have d:(IV (n+6)).call=pl.pg.call (n+6):=rfl;rw[<-d]at b a;refine ab (ah (ρ3:=sE' f hop (Lo f) (some (Pn qs us)) o5) (ae (rs:=[.val (Rl f.rows),.rf 3,.val (Re f)]) (ρ2:=sE' f hop (Lo f) o4 o5) (ρ3:=sE' f hop (Lo f) o4 o5) rfl (show ba [false,false,false] _ _=_ from eS rfl (eS (bL rfl (aK _) rfl) (eS rfl rfl))) b rfl) rfl rfl rfl) ?_;exact ab (ah (ρ3:=sT f hop qs us) (ae (ρ3:=sE' f hop (Lo f) (some (Ph qs us)) o5) (aa rfl (aa rfl (aa (aN rfl rfl rfl (qQ rfl rfl)) (aa rfl af)))) rfl a rfl) rfl rfl rfl) k
abbrev sB:Ss:=.cons ecu (.cons sP (.cons sQ .nil))
def FG{C:Ct}{i:Nat}{ρ:DEnv}{x:OR}{d:PyData}{k:Bool}(h:ev C (.nm i) ρ=some (x,ρ))(b:aJ ρ x=some d)(a:kE d=some k):aT C (.nm i) ρ=some (k,ρ):=bs h (bs b (bs a rfl))
def yS{C:Ct}{ρ:DEnv}{i:Nat}{ls:List Int}(h:ev C (.nm i) ρ=some (.rf i,ρ))(a:ρ[i]?.join=some (Il ls)):aT C (.nm i) ρ=some (!ls.isEmpty,ρ):=FG (x:=.rf i) (d:=.list (ls.map PyData.int)) h (by show (ρ[i]?.join).bind OD.dat=_;rw[a];exact aK ls) (by cases ls<;>rfl)
def wq{n:Nat}{hop:Int}{k:Nat}{f b:Cf}(h:Rnd hop k f b):Bd f->∀{qs us},PlanOf f qs us->∀{fuel:Nat},k<fuel->∃a c,PlanOf b a c/\tsF b a hop=[]/\eh (aT (IV (n+6)) (.nm 5)) (aw (IV (n+6)) sB) fuel (sT f hop qs us)=some (.nx,sT b hop a c):=by
 induction h with
 |@done f qs0 us0 P h=>intro B qs us d fuel v;obtain⟨rfl,rfl⟩:=P.one d;have t:=yS (C:=IV (n+6)) (ρ:=sT f hop qs0 us0) (i:=5) rfl rfl;rw[h]at t;exact⟨_,_,P,h,FF t (by omega)⟩
 |@more k f b qs0 us0 P h r ih=>
  intro B qs us d fuel v;obtain⟨rfl,rfl⟩:=P.one d;have t:=yS (C:=IV (n+6)) (ρ:=sT f hop qs0 us0) (i:=5) rfl rfl;have p:(!(tsF f qs0 hop).isEmpty)=true:=by cases e:tsF f qs0 hop with|nil=>exact absurd e h|cons _ _=>rfl
  rw[p]at t;cases fuel with
  |zero=>omega
  |succ m=>
   have g:=B.next (qs:=qs0) (hop:=hop)
   obtain⟨w,x,j⟩:=PlanOf.ex g.hN;obtain⟨q,o,s,l,u⟩:=ih g j (fuel:=m) (by omega);refine⟨q,o,s,l,CF t (ab (ah (ρ3:=sE' (nx f (tsF f qs0 hop)) hop (Il (nx f (tsF f qs0 hop)).longs) (some (Ph qs0 us0)) (some (Il (tsF f qs0 hop)))) (wm (xs:=f.longs) (ys:=tsF f qs0 hop) rfl rfl rfl (lA _) B.srt) rfl rfl rfl) (zO g j rfl)) u⟩
def j2{n:Nat}{hop:Int}{k:Nat}{f a:Cf}(h:Rnd hop k f a)(B:Bd f)(d:f.longs=[])(hk:k<100000):∃qs us,PlanOf a qs us/\tsF a qs hop=[]/\pl.pg.call (n+7) 21 [Rl f.rows,Re f,It hop]=some (.fz (dSt a qs us),[Rl f.rows,Re f,It hop]):=by
 obtain⟨i,m,b⟩:=PlanOf.ex B.hN;obtain⟨qs,us,P,c,e⟩:=wq (n:=n) h B b hk;obtain⟨_,l,j,g⟩:=h.keeps B;refine⟨qs,us,P,c,ai (fn:=jQ) (ρ:=sE' a hop (Lo a) (some (.fz (dPn qs us))) (some (Il (tsF a qs hop)))) rfl rfl ?_ (by show aU 0 [false,false,false] _ _=_;rfl)⟩;refine ab (ah (ρ3:=sE' f hop (Il f.longs) none none) (cG af rfl rfl) rfl rfl (by rw[d];rfl)) (zO B b ?_);refine ab (show cK _ (.whl (.nm 5) sB) _=_ from e) ?_;exact aC (aq (z:=.fz (dSt a qs us)) (bM (zs:=[Lo a,.fz (dPn qs us)]) (rs:=[.val (Lo a),.rf 4]) rfl rfl (by
  have z:own1 (sT a hop qs us) (.rf 4)=some (.fz (dPn qs us),sE' a hop (Lo a) (some (.fz (dPn qs us))) (some (Il (tsF a qs hop)))):=by show (frz1 _ (.rf 4)).map _=_;rw[bL (x:=Ph qs us) rfl (wo _ _) rfl];rfl
  show (mapR own1 (sT a hop qs us) [.rf 4]).map _=_;simp only[mapR,z];rfl) rfl) rfl)
def lay_ints:∀ns:List Int,PyData.canLayAll0 (ns.map PyData.int)=true
 |[]=>rfl
 |_::r=>by simp[PyData.canLayAll0,PyData.canLay0,lay_ints r]
def dm:∀ns:List Int,PyData.depthAll (ns.map PyData.int)=0
 |[]=>rfl
 |_::r=>by simp[PyData.depthAll,PyData.depth,dm r]
def yT(ns:List Int):mo .eq (.list (ns.map PyData.int)) (.list [])=some ns.isEmpty:=by
 have h:SeqAt.shaped (.list (ns.map PyData.int))=true:=by simp[SeqAt.shaped,PyData.canLay0,PyData.depth,lay_ints,dm]
 have a:SeqAt.shaped (.list [])=true:=by decide +kernel
 have:PyData.eqv (.list (ns.map PyData.int)) (.list [])=ns.isEmpty:=by cases ns<;>simp[PyData.eqv,PyData.eqvAll]
 show (if (SeqAt.shaped (.list (ns.map PyData.int))&&SeqAt.shaped (.list []))=true then some (PyData.eqv (.list (ns.map PyData.int)) (.list [])) else none)=_;rw[h,a,abK,if_pos rfl,this]
def Hz{C:Ct}{f:Cf}{hop:Int}{qs:Pz}{us:List Int}:cK C HW (sT f hop qs us)=some (.rt (.fz (dSt f qs us)),sE' f hop (Lo f) (some (.fz (dPn qs us))) (some (Il (tsF f qs hop)))):=
 aq (z:=.fz (dSt f qs us)) (bM (zs:=[Lo f,.fz (dPn qs us)]) (rs:=[.val (Lo f),.rf 4]) rfl rfl (by
  have z:own1 (sT f hop qs us) (.rf 4)=some (.fz (dPn qs us),sE' f hop (Lo f) (some (.fz (dPn qs us))) (some (Il (tsF f qs hop)))):=by show (frz1 _ (.rf 4)).map _=_;rw[bL (x:=Ph qs us) rfl (wo _ _) rfl];rfl
  show (mapR own1 (sT f hop qs us) [.rf 4]).map _=_;simp only[mapR,z];rfl) rfl) rfl
abbrev lP:S':=.set 4 ebo
abbrev lQ:S':=.set 5 eaw
def zQ{n:Nat}{f:Cf}{hop:Int}{qs:Pz}{us:List Int}{o4 o5:Option OD}{c:Ss}{r:Option (Fl×DEnv)}(B:Bd f)(P:PlanOf f qs us)(k:aw (IV (n+4)) c (sT f hop qs us)=r):aw (IV (n+4)) (.cons lP (.cons lQ c)) (sE' f hop (Il f.longs) o4 o5)=r:=by have p:=P.pln B.hN;have b:=P.late (n:=n+1) B.hN B.h60;have a:=v8 (n:=n) (hop:=hop) p.nn p.len B.hN B.hJ;have d:(IV (n+4)).call=pl.pg.call (n+4):=rfl;rw[<-d]at b a;refine ab (ah (ρ3:=sE' f hop (Lo f) (some (Pn qs us)) o5) (ae (rs:=[.val (Rl f.rows),.rf 3,.val (Re f)]) (ρ2:=sE' f hop (Lo f) o4 o5) (ρ3:=sE' f hop (Lo f) o4 o5) rfl (show ba [false,false,false] _ _=_ from eS rfl (eS (bL rfl (aK _) rfl) (eS rfl rfl))) b rfl) rfl rfl rfl) ?_;exact ab (ah (ρ3:=sT f hop qs us) (ae (ρ3:=sE' f hop (Lo f) (some (Ph qs us)) o5) (aa rfl (aa rfl (aa (aN rfl rfl rfl (qQ rfl rfl)) (aa rfl af)))) rfl a rfl) rfl rfl rfl) k
abbrev lW:Ss:=.cons lP (.cons lQ eaf)
def yU{n:Nat}{hop:Int}{k:Nat}{f b:Cf}(h:Rnd hop k f b):Bd f->∀{qs us},PlanOf b qs us->∀{fuel:Nat}{o4 o5:Option OD},k<fuel->∃a,eh (aT (IV (n+4)) (.bl true)) (aw (IV (n+4)) lW) fuel (sE' f hop (Il f.longs) o4 o5)=some (.rt (.fz (dSt b qs us)),a)/\a.take 3=(sE' b hop (Il f.longs) o4 o5).take 3:=by
 have d:∀{f:Cf}{qs:Pz}{us:List Int},aT (IV (n+4)) FY (sT f hop qs us)=some ((tsF f qs hop).isEmpty,sT f hop qs us):=λ{f qs us}=>aj (ar rfl rfl (by show (some (Il (tsF f qs hop))).bind OD.dat=_;exact aK _) rfl (yT _));induction h with
 |@done f qs0 us0 P h=>intro B qs us c fuel o4 o5 j;obtain⟨rfl,rfl⟩:=P.one c;have t:=d (f:=f) (qs:=qs0) (us:=us0);rw[h]at t;refine⟨_,Hy (ρ1:=sE' f hop (Il f.longs) o4 o5) rfl (zQ B P (aC (aH t (aC Hz)))) (by omega),rfl⟩
 |@more k f b qs0 us0 P h r ih=>
  intro B qs us c fuel o4 o5 j;have g:(tsF f qs0 hop).isEmpty=false:=by cases e:tsF f qs0 hop with|nil=>exact absurd e h|cons _ _=>rfl
  have t:=d (f:=f) (qs:=qs0) (us:=us0);rw[g]at t;cases fuel with
  |zero=>omega
  |succ m=>obtain⟨a,e,i⟩:=ih (B.next (qs:=qs0) (hop:=hop)) c (fuel:=m) (o4:=some (Ph qs0 us0)) (o5:=some (Il (tsF f qs0 hop))) (by omega);refine⟨a,CF (ρ1:=sE' f hop (Il f.longs) o4 o5) rfl (zQ B P (ab (az t rfl) (ab (ah (ρ3:=sE' (nx f (tsF f qs0 hop)) hop (Il (nx f (tsF f qs0 hop)).longs) (some (Ph qs0 us0)) (some (Il (tsF f qs0 hop)))) (wm (xs:=f.longs) (ys:=tsF f qs0 hop) rfl rfl rfl (lA _) B.srt) rfl rfl rfl) rfl))) e,i⟩
def oC{n:Nat}{hop:Int}{k:Nat}{f b:Cf}{qs:Pz}{us:List Int}(h:Rnd hop k f b)(B:Bd f)(c:f.longs=[])(hk:k<100000)(P:PlanOf b qs us):pl.pg.call (n+5) 36 [Rl f.rows,Re f,It hop]=some (.fz (dSt b qs us),[Rl f.rows,Re f,It hop]):=by obtain⟨a,e,d⟩:=yU (n:=n) h B P hk (o4:=none) (o5:=none);refine ai (fn:=gY) (ρ:=a) rfl rfl ?_ (by show aU 0 [false,false,false] _ _=_;rfl);refine ab (ah (ρ3:=sE' f hop (Il f.longs) none none) (cG af rfl rfl) rfl rfl (by rw[c];rfl)) ?_;exact aC (show cK _ (.whl (.bl true) lW) _=_ from e)
abbrev mE(f:Cf)(hop:Int)(x2:OD)(o3:Option OD):DEnv:=[some (Rl f.rows),IU hop,some x2,o3]
abbrev mQ:S':=.set 3 ea1
abbrev mB:Ss:=.cons ect (.cons mQ .nil)
def zR{n:Nat}{f:Cf}{hop:Int}{o3:Option OD}{b:Ss}{r:Option (Fl×DEnv)}(B:Bd f)(k:aw (IV (n+5)) b (mE f hop (Lo f) (some (Il (tsF f [] hop))))=r):aw (IV (n+5)) (.cons mQ b) (mE f hop (Il f.longs) o3)=r:=by have a:=ly (n:=n) (f:=f) (qs:=[]) (hop:=hop) .nil (λ_ h=>nomatch h) (by decide) B.hN B.hJ;have c:(IV (n+5)).call=pl.pg.call (n+5):=rfl;rw[<-c]at a;exact ab (ah (ρ3:=mE f hop (Lo f) (some (Il (tsF f [] hop)))) (ae (rs:=[.val (Rl f.rows),.rf 2,.val (.lst []),.val (It hop)]) (ρ2:=mE f hop (Lo f) o3) (ρ3:=mE f hop (Lo f) o3) rfl (show ba [false,false,false,false] _ _=_ from eS rfl (eS (bL rfl (aK _) rfl) (eS rfl (eS rfl rfl)))) a rfl) rfl rfl rfl) k
def CG{n:Nat}{hop:Int}{k:Nat}{f a:Cf}(h:Rnd hop k f a):Bd f->(∀r∈f.rows,r.gr=false)->∀{fuel:Nat},k<fuel->∃o,eh (aT (IV (n+5)) (.nm 3)) (aw (IV (n+5)) mB) fuel (mE f hop (Lo f) (some (Il (tsF f [] hop))))=some (.nx,mE a hop (Lo a) o):=by
 induction h with
 |@done f qs0 us0 P h=>intro B b fuel d;rw[((P.pln B.hN).no b).1]at h;have t:=yS (C:=IV (n+5)) (ρ:=mE f hop (Lo f) (some (Il (tsF f [] hop)))) (i:=3) rfl rfl;rw[h]at t;rw[h];exact⟨_,FF t (by omega)⟩
 |@more k f a qs0 us0 P h r ih=>
  intro B b fuel d;have c:=B.next (qs:=qs0) (hop:=hop)
  rw[((P.pln B.hN).no b).1]at h ih c;have t:=yS (C:=IV (n+5)) (ρ:=mE f hop (Lo f) (some (Il (tsF f [] hop)))) (i:=3) rfl rfl;have j:(!(tsF f [] hop).isEmpty)=true:=by cases e:tsF f [] hop with|nil=>exact absurd e h|cons _ _=>rfl
  rw[j]at t;cases fuel with
  |zero=>omega
  |succ m=>obtain⟨o,g⟩:=ih c b (fuel:=m) (by omega);exact⟨o,CF t (ab (ah (ρ3:=mE (nx f (tsF f [] hop)) hop (Il (nx f (tsF f [] hop)).longs) (some (Il (tsF f [] hop)))) (wm (xs:=f.longs) (ys:=tsF f [] hop) rfl rfl rfl (lA _) B.srt) rfl rfl rfl) (zR c rfl)) g⟩
def yV{n:Nat}{hop:Int}{k:Nat}{f a:Cf}(h:Rnd hop k f a)(B:Bd f)(b:f.longs=[])(hk:k<100000)(c:∀r∈f.rows,r.gr=false):pl.pg.call (n+6) 20 [Rl f.rows,It hop]=some (Lo a,[Rl f.rows,It hop]):=by obtain⟨o,e⟩:=CG (n:=n) h B c hk;refine ai (fn:=eV) (ρ:=mE a hop (Lo a) o) rfl rfl ?_ (by show aU 0 [false,false] _ _=_;rfl);refine ab (ah (ρ3:=mE f hop (Il f.longs) none) (cG af rfl rfl) rfl rfl (by rw[b];rfl)) (zR B ?_);exact ab (show cK _ (.whl (.nm 3) mB) _=_ from e) (aC (aq rfl rfl))
abbrev HA(k l:Int):E:=.call 24 (.cons (.nm 0) (.cons (.ix (.lst (.cons (.int k) (.cons (.int l) .nil))) ecm) .nil))
def zT{n m:Nat}{a b c k l:Int}{ρ:DEnv}(h:TpOk b c m)(s:m<=100000)(J:0<k/\k<1000)(L:0<l/\l<1000):∃x C i o,ev (IV (n+1)) (HA k l) (some (Tp a b c)::ρ)=some (.val (It x),some (Tp C i o)::ρ)/\0<=x/\(x<k\/x<l)/\TpOk i o (m+2):=by
 obtain⟨I,q,v,F,u,e,d,t⟩:=ax (n:=n) (a:=a) (many:=2) h (up (k:=0) s rfl) (by decide) (by decide);obtain⟨y,z,D⟩:=dE (ks:=[k,l]) e d;have g:y=k\/y=l:=by simpa using z
 obtain⟨A,r,p,j,w,f,B,H⟩:=ax (n:=n) (a:=q) (many:=y) t (up (k:=1) s rfl) (by omega) (by omega);refine⟨A,r,p,j,ae (ρ3:=some (Tp r p j)::ρ) (aa rfl (aa (aN (cG (aa rfl (aa rfl af)) rfl rfl) (ae (ρ3:=some (Tp q v F)::ρ) rfl rfl u rfl) rfl (cR D)) af)) rfl w rfl,f,by rcases g with rfl|rfl<;>omega,H⟩
abbrev jE(a b c many:Int)(rs:List R)(o3 o4 o5 o6:Option OD):DEnv:=[some (Tp a b c),IU many,some (Rs rs),o3,o4,o5,o6]
def qR{a b c many:Int}{rs:List R}{o3 o4 o5 o6:Option OD}{r:R}:(jE a b c many rs o3 o4 o5 o6).set 2 (some (.lst ((rs.map λr=>OD.fz r.d)++[.fz r.d])))=jE a b c many (rs++[r]) o3 o4 o5 o6:=by rw[<-k4];rfl
abbrev HB:Ss:=match F_jumpy.body with|.cons _ (.cons _ (.cons _ (.cons (.fr _ _ b) _)))=>b|_=>.nil
abbrev F0:Ss:=match F_jumpy.body with|.cons _ (.cons _ (.cons _ (.cons _ (.cons (.fr _ _ b) _))))=>b|_=>.nil
def CH{n:Nat}{a b c many:Int}{rs:List R}{o3 o4 o5 o6:Option OD}(g:rs.length<=1000):cK (IV (n+2)) ear (jE a b c many rs o3 o4 o5 o6)=some (.nx,jE a b c many rs o3 (some (It (rs.filter R.gr).length)) o5 o6):=by obtain⟨f,e⟩:=k5 (n:=n+1) (o:=none) (rs:=rs) (out:=[]);refine ah (aX (ds:=[.list ((rs.filter R.gr).map R.d)]) (d:=.int (rs.filter R.gr).length) (aa (yz (ds:=rs.map R.d) (ρ2:=jE a b c many rs o3 o4 o5 o6) (by rw[mS];rfl) (by rw[aaa];omega) rfl e (by rw[unca_nil,mS];rfl)) af) (uG (fj _)) ?_) rfl rfl rfl;show some (PyData.int (((rs.filter R.gr).map R.d).length:Nat))=_;rw[aaa]
def IJ{n m:Nat}{a b c many i:Int}{rs:List R}{o3 o4 o5 o6:Option OD}(h:TpOk b c m)(A:m<=100000)(T:rs.length<=1000)(m1:many<=120)(W:(rs.filter R.gr).length<=60):
  ∃v,((aW (.nm 3) (.fz (.int i)) (jE a b c many rs o3 o4 o5 o6)).bind λρ1=>aw (IV (n+2)) HB ρ1)=some (.nx,v)/\∃(r:R) (a' M Q:Int) (p3 X:Option OD),v=jE a' M Q many (rs++[r]) p3 X o5 o6/\((rs++[r]).filter R.gr).length<=60/\r.jm=false/\TpOk M Q (m+8):=by
 obtain⟨g,Z⟩:∃g:Int,g=(rs.filter R.gr).length:=⟨_,rfl⟩
 have I:=CH (n:=n) (a:=a) (b:=b) (c:=c) (many:=many) (o3:=IU i) (o4:=o4) (o5:=o5) (o6:=o6) T;rw[<-Z]at I;obtain⟨o,H,U,c1,O,a0,S,P⟩:=zT (n:=n+1) (a:=a) (k:=9) (l:=4) (ρ:=[IU many,some (Rs rs),IU i,IU g,o5,o6]) h A (by decide) (by decide);have f:aT (IV (n+2)) (.and (.cmp .eq (HA 9 4) (.int 0)) ecn) (jE a b c many rs (IU i) (IU g) o5 o6)=some (decide (o=0/\g<many/2),jE H U c1 many rs (IU i) (IU g) o5 o6):=by
  by_cases x:o=0
  ·refine t_andT (aj (ar O rfl rfl rfl (show some (decide (o=0))=some true by rw[Dac x]))) ?_;have z:(decide (o=0/\g<many/2))=decide (g<many/2):=decide_eq_decide.mpr (by simp[x]);rw[z];exact aj (ar rfl (ag rfl rfl rfl rfl (vH (j:=2) (by decide))) rfl rfl rfl)
  ·rw[Dab (λz=>x z.1)];exact eA (aj (ar O rfl rfl rfl (show some (decide (o=0))=some false by rw[Dab x])))
 by_cases N:o=0/\g<many/2
 ·rw[Dac N]at f;obtain⟨q,p,u,s,D,w,t,J⟩:=ax (n:=n+1) (a:=H) (many:=5) P (up (k:=2) A rfl) (by decide) (by decide);obtain⟨y,L,B,F,e3,y0,Y⟩:=qi (n:=n) (a:=p) J (up (k:=3) A rfl);refine⟨_,bs rfl (ab I (ab (aH f (ab (bP (ρ3:=jE L B F many (rs++[.st q y]) (IU i) (IU g) o5 o6) (xs:=rs.map λr=>.fz r.d) rfl (bM (z:=.fz (R.st q y).d) (aa rfl (aa (ae (ρ3:=jE p u s many rs (IU i) (IU g) o5 o6) rfl rfl D rfl) (aa (ae (ρ3:=jE L B F many rs (IU i) (IU g) o5 o6) rfl rfl e3 rfl) af))) rfl rfl rfl) rfl rfl (by rw[aaa];omega) qR) rfl)) rfl)),.st q y,L,B,F,_,_,rfl,?_,rfl,Y.up (upA (k:=7) rfl)⟩;rw[List.filter_append,aal];have:([R.st q y].filter R.gr).length<=1:=aaU _ _;omega
 ·rw[Dab N]at f;obtain⟨q,p,u,s,D,w,t,J⟩:=ax (n:=n+1) (a:=H) (many:=3) P (up (k:=2) A rfl) (by decide) (by decide);obtain⟨r,e,er⟩:=ql (rs:=[dP 1,mP 1 2,.st 0 99]) w t;refine⟨_,bs rfl (ab I (ab (az f (ab (bP (ρ3:=jE p u s many (rs++[r]) (IU i) (IU g) o5 o6) (xs:=rs.map λr=>.fz r.d) rfl (aN rfl (ae (ρ3:=jE p u s many rs (IU i) (IU g) o5 o6) rfl rfl D rfl) rfl (cR er)) rfl rfl (by rw[aaa];omega) qR) rfl)) rfl)),r,p,u,s,_,_,rfl,?_,?_,J.up (upA (k:=3) rfl)⟩
  ·have C:r.gr=false:=by simp only[aab,aaw,or_false]at e;rcases e with rfl|rfl|rfl<;>rfl
   rw[List.filter_append,abr (by rw[C];decide),abq,aam];exact W
  ·simp only[aab,aaw,or_false]at e;rcases e with rfl|rfl|rfl<;>rfl
def lC{p:R->Bool}{r:R}:∀{rs:List R}{k:Nat},((rs.set k r).filter p).length<=(rs.filter p).length+(if p r=true then 1 else 0)
 |[],k=>by rw[List.set_nil];exact aa8 _ _
 |x::rs,0=>by rw[abD,aa2,aa2];split<;>split<;>simp
 |x::rs,k+1=>by
  have:=lC (p:=p) (r:=r) (rs:=rs) (k:=k);rw[aaF,aa2,aa2];split
  ·rw[aaq,aaq];omega
  ·exact this
def CI{N:Int}{r:R}{rs:List R}{k:Nat}(h:Nb N rs)(a:Jok N r):Nb N (rs.set k r):=λx b=>by
 rcases List.mem_or_eq_of_mem_set b with z|rfl
 ·exact h x z
 ·exact a
structure Jr (many:Int)(rs:List R)(J:Nat):Prop where
 nb:Nb many rs
 g60:(rs.filter R.gr).length<=60
 js:(rs.filter R.jm).length<=J
def Jr.set{many:Int}{rs:List R}{J k:Nat}{r:R}(h:Jr many rs J)(c:Jok many r)(a:r.gr=false):Jr many (rs.set k r) (J+1):=by have d:=lC (p:=R.gr) (r:=r) (rs:=rs) (k:=k);have b:=lC (p:=R.jm) (r:=r) (rs:=rs) (k:=k);have f:=h.g60;have e:=h.js;rw[a,if_neg aaf]at d;refine⟨CI h.nb c,by omega,?_⟩;split at b<;>omega
def IK{n m J:Nat}{a b c many i:Int}{rs:List R}{o3 o4 o5 o6:Option OD}(h:TpOk b c m)(p:m<=100000)(hl:(rs.length:Int)=many)(Q:0<many)(m1:many<=120)(H:Jr many rs J):
  ∃j,((aW (.nm 5) (.fz (.int i)) (jE a b c many rs o3 o4 o5 o6)).bind λρ1=>aw (IV (n+2)) F0 ρ1)=some (.nx,j)/\∃(f:List R) (Z x B:Int) (p3 L:Option OD),j=jE Z x B many f p3 o4 (IU i) L/\f.length=rs.length/\Jr many f (J+1)/\TpOk x B (m+4):=by
 obtain⟨k,D,O,c1,P,k0,k1,M⟩:=ax (n:=n+1) (a:=a) (many:=many) h (up (k:=0) p rfl) Q (by omega);obtain⟨t,w,C,A,S,F,y1,t2⟩:=ax (n:=n+1) (a:=D) (many:=many+1) M (up (k:=1) p rfl) (by omega) (by omega);obtain⟨u,I,N,U,X,_,_,T⟩:=ax (n:=n+1) (a:=w) (many:=5) t2 (up (k:=2) p rfl) (by decide) (by decide);obtain⟨x4,l,q,o,W,v,s,t4⟩:=ax (n:=n+1) (a:=I) (many:=2) T (up (k:=3) p rfl) (by decide) (by decide);obtain⟨r,g,er⟩:=ql (rs:=[oGo t,cX u t]) v s;have y:Jok many r/\r.gr=false:=by
  simp only[aab,aaw,or_false]at g;rcases g with rfl|rfl
  ·exact⟨yC F (by omega),rfl⟩
  ·exact⟨qk F (by omega),rfl⟩
 have Y:ixN (rs.map λr=>OD.fz r.d).length k=some k.toNat:=by
  have e:k=(k.toNat:Int):=by omega
  rw[e];exact fO (by rw[aaa];omega)
 refine⟨_,bs rfl (ab (fg (ρ3:=jE w C A many rs (IU k) o4 (IU i) (IU t)) (aa (ae (ρ3:=jE D O c1 many rs o3 o4 (IU i) o6) rfl rfl P rfl) (aa (ae (ρ3:=jE w C A many rs o3 o4 (IU i) o6) (aa rfl (aa (ag rfl rfl rfl rfl rfl) af)) rfl S rfl) af)) rfl rfl rfl) (ab (kW (xs:=rs.map λr=>.fz r.d) (ys:=rs.map λr=>.fz r.d) (ρ3:=jE l q o many rs (IU k) o4 (IU i) (IU t)) (ρ4:=jE l q o many (rs.set k.toNat r) (IU k) o4 (IU i) (IU t)) (aN (cG (zs:=[.fz (oGo t).d,.fz (cX u t).d]) (aa rfl (aa (bM (z:=.fz (cX u t).d) (aa rfl (aa (ae (ρ3:=jE I N U many rs (IU k) o4 (IU i) (IU t)) rfl rfl X rfl) (aa rfl af))) rfl rfl rfl) af)) rfl rfl) (ae (ρ3:=jE l q o many rs (IU k) o4 (IU i) (IU t)) rfl rfl W rfl) rfl (cR er)) rfl rfl rfl rfl rfl Y (by unfold jE Rs;rw[ack];rfl)) rfl)),rs.set k.toNat r,l,q,o,_,_,rfl,aaN,H.set y.1 y.2,t4⟩
def CJ{ρ:DEnv}{i k l:Nat}{x z w:OD}{ys:List OD}(c:unpA x=some [z,w])(a:ρ[i]?.join=some (.lst ys))(hk:k<ys.length)(b:l<ys.length):aW (.sb i k l) x ρ=some (ρ.set i (some (.lst ((ys.set k z).set l w)))):=by unfold aW;exact bs c (bs rfl (bs a (bs rfl (bs (fO hk) (bs (fO b) rfl)))))
def wu{n m:Nat}{a b c many:Int}{o3 o4 o5 o6:Option OD}(h:TpOk b c m)(N:m<=90000)(M:0<=many)(D:many<=120):∃(rs:List R) (u l o:Int) (k j:Option OD),bE (λd f=>(aW (.nm 3) (.fz d) f).bind λρ1=>aw (IV (n+2)) HB ρ1) (cC 0 many.toNat) (jE a b c many [] o3 o4 o5 o6)=some (.nx,jE u l o many rs k j o5 o6)/\(rs.length:Int)=many/\Jr many rs 0/\TpOk l o (m+960):=by
 obtain⟨f,e,rs,I,H,F,k,j,rfl,w,s,p,_,L⟩:=gF (step:=λd f=>(aW (.nm 3) (.fz d) f).bind λρ1=>aw (IV (n+2)) HB ρ1)
  (λds ρ=>∃(rs:List R) (a b c:Int) (o3 o4:Option OD),ρ=jE a b c many rs o3 o4 o5 o6/\rs.length+ds.length=many.toNat/\(rs.filter R.gr).length<=60/\(∀r∈rs,r.jm=false)/\(∀d∈ds,∃i,d=.int i)/\TpOk b c (m+8*rs.length)) (λd ds ρ=>by
   rintro⟨rs,a,b,c,o3,o4,rfl,w,s,p,B,t⟩;obtain⟨i,rfl⟩:=B _ aai;rw[aaq]at w;obtain⟨f,e,r,u,l,o,k,j,rfl,v,q,C⟩:=IJ (n:=n) (i:=i) (a:=a) (many:=many) (o3:=o3) (o4:=o4) (o5:=o5) (o6:=o6) t (by omega) (by omega) D s;have A:(rs++[r]).length=rs.length+1:=aal;exact⟨.nx,_,e,.inl rfl,rs++[r],u,l,o,k,j,rfl,by rw[A];omega,v,λx J=>by
    rcases aak.mp J with z|z
    ·exact p x z
    ·rw[aaz.mp z];exact q,λd y=>B d (aah _ y),C.up (by rw[A];omega)⟩)
  (ds:=cC 0 many.toNat) (ρ:=jE a b c many [] o3 o4 o5 o6) ⟨[],a,b,c,o3,o4,rfl,by rw[fB,aaX,aaO],aaH _,λr g=>absurd g aaw,gI,h⟩
 rw[aaX]at w;refine⟨rs,I,H,F,k,j,e,by omega,⟨λr g=>kZ (p r g),s,?_⟩,L.up (by omega)⟩;rw[acC.mpr λr g=>by rw[p r g];decide];exact aag _
def wx{n m N:Nat}{a b c many:Int}{rs:List R}{o3 o4 o5 o6:Option OD}(h:TpOk b c m)(P:m<=95000)(q:(rs.length:Int)=many)(B:0<many)(D:many<=120)(H:Jr many rs 0)(O:N<=8):∃(g:List R) (w o p:Int) (l z k:Option OD),bE (λd f=>(aW (.nm 5) (.fz d) f).bind λρ1=>aw (IV (n+2)) F0 ρ1) (cC 0 N) (jE a b c many rs o3 o4 o5 o6)=some (.nx,jE w o p many g l o4 z k)/\(g.length:Int)=many/\Jr many g 8/\TpOk o p (m+32):=by
 obtain⟨f,e,s,J,I,F,l,z,k,j,rfl,x,u,r,_,L⟩:=gF (step:=λd f=>(aW (.nm 5) (.fz d) f).bind λρ1=>aw (IV (n+2)) F0 ρ1)
  (λds ρ=>∃(rs:List R) (a b c:Int) (o3 o5 o6:Option OD) (j:Nat),ρ=jE a b c many rs o3 o4 o5 o6/\(rs.length:Int)=many/\j+ds.length=N/\Jr many rs j/\(∀d∈ds,∃i,d=.int i)/\TpOk b c (m+4*j)) (λd ds ρ=>by
   rintro⟨rs,a,b,c,o3,o5,o6,j,rfl,q,u,H,A,t⟩;obtain⟨i,rfl⟩:=A _ aai;rw[aaq]at u;obtain⟨f,e,g,w,o,p,l,k,rfl,v,M,C⟩:=IK (n:=n) (i:=i) (a:=a) (o3:=o3) (o4:=o4) (o5:=o5) (o6:=o6) t (by omega) q B D H;exact⟨.nx,_,e,.inl rfl,g,w,o,p,l,_,k,j+1,rfl,by rw[v];exact q,by omega,M,λd y=>A d (aah _ y),C.up (by omega)⟩)
  (ds:=cC 0 N) (ρ:=jE a b c many rs o3 o4 o5 o6) ⟨rs,a,b,c,o3,o5,o6,0,rfl,q,by rw[fB,aaO],H,gI,h⟩
 rw[aaX]at u;exact⟨s,J,I,F,l,z,k,e,x,⟨r.nb,r.g60,aan r.js (by omega)⟩,L.up (by omega)⟩
def yW{n m:Nat}{a b c:Int}(h:TpOk b c m)(hm:m<=50000):∃(rs:List R) (U v B:Int),pl.pg.call (n+3) 34 [Tp a b c]=some (Rs rs,[Tp U v B])/\rs.length<=120/\Nb rs.length rs/\(rs.filter R.gr).length<=60/\(rs.filter R.jm).length<=10/\TpOk v B (m+1000):=by
 have A:∀(a b c many:Int),TpOk b c (m+3)->20<=many->many<=120->∃(rs:List R) (U v B:Int) (ρ:DEnv),aw (IV (n+2)) (match F_jumpy.body with|.cons _ (.cons _ ss)=>ss|_=>.nil) [some (Tp a b c),IU many,none,none,none,none,none]=some (.rt (Rs rs),some (Tp U v B)::ρ)/\rs.length<=120/\Nb rs.length rs/\(rs.filter R.gr).length<=60/\(rs.filter R.jm).length<=10/\TpOk v B (m+1000):=by
  intro a b c many h m0 Z;obtain⟨D,u,H,M,X,x,F,l1,H1,P⟩:=wu (n:=n) (a:=a) (many:=many) (o3:=none) (o4:=none) (o5:=none) (o6:=none) h (by omega) (by omega) Z;obtain⟨I,q,t,s,S,W,T,O⟩:=ax (n:=n+1) (a:=u) (many:=8) P (by omega) (by decide) (by decide);obtain⟨f,p,g,j,q3,q5,q6,y,l3,L,t3⟩:=wx (n:=n) (N:=(1+I).toNat) (a:=q) (o3:=X) (o4:=x) (o5:=none) (o6:=none) O (by omega) l1 (by omega) Z H1 (by omega);have s1:cK (IV (n+2)) (.fr (.nm 5) ea9 F0) (jE u H M many D X x none none)=some (.nx,jE p g j many f q3 x q5 q6):=cp (dA (ag rfl (ae (ρ3:=jE q t s many D X x none none) rfl rfl S rfl) rfl rfl rfl) rfl (by omega)) y;by_cases o:many=120
  ·have Q:=(L.set (k:=1) (r:=oGo 120) (yC (by decide) (by omega)) rfl).set (k:=118) (r:=cX 2 0) (qk (by decide) (by omega)) rfl;have ll:((f.set 1 (oGo 120)).set 118 (cX 2 0)).length=f.length:=by rw[aaN,aaN]
   refine⟨(f.set 1 (oGo 120)).set 118 (cX 2 0),p,g,j,_,ab (ah (ρ3:=jE a b c many [] none none none none) rfl rfl rfl rfl) (ab (cp (dA rfl rfl (by omega)) F) (ab s1 (ab (aH (aj (ar rfl rfl rfl rfl (show some (decide (many=120))=some true by rw[Dac o]))) (ab (oB (ρ3:=jE p g j many ((f.set 1 (oGo 120)).set 118 (cX 2 0)) q3 x q5 q6) rfl rfl ?_) rfl)) (aC (aq rfl rfl))))),by rw[ll];omega,by rw[ll,l3];exact Q.nb,Q.g60,Q.js,t3.up (by omega)⟩;refine(CJ (i:=2) (k:=1) (l:=118) (z:=.fz (oGo 120).d) (w:=.fz (cX 2 0).d) (ys:=f.map λr=>OD.fz r.d) rfl rfl (by rw[aaa];omega) (by rw[aaa];omega)).trans ?_;have e:OD.lst (((f.map λr=>OD.fz r.d).set 1 (.fz (oGo 120).d)).set 118 (.fz (cX 2 0).d))=Rs ((f.set 1 (oGo 120)).set 118 (cX 2 0)):=by unfold Rs;rw[ack,ack]
   rw[e];generalize (f.set 1 (oGo 120)).set 118 (cX 2 0)=z;rfl
  ·exact⟨f,p,g,j,_,ab (ah (ρ3:=jE a b c many [] none none none none) rfl rfl rfl rfl) (ab (cp (dA rfl rfl (by omega)) F) (ab s1 (ab (az (aj (ar rfl rfl rfl rfl (show some (decide (many=120))=some false by rw[Dab o]))) rfl) (aC (aq rfl rfl))))),by omega,by rw[l3];exact L.nb,L.g60,aan L.js (by decide),t3.up (by omega)⟩
 obtain⟨C,u,H,M,F,a4,a0,P⟩:=zT (n:=n+1) (a:=a) (k:=20) (l:=81) (ρ:=[none,none,none,none,none,none]) h (by omega) (by decide) (by decide);obtain⟨I,q,t,s,S,W,T,O⟩:=ax (n:=n+1) (a:=u) (many:=8) P (by omega) (by decide) (by decide);have s0:cK (IV (n+2)) (.set 1 (.bop .add (.int 20) (HA 20 81))) [some (Tp a b c),none,none,none,none,none,none]=some (.nx,[some (Tp u H M),IU (20+C),none,none,none,none,none]):=ah (ag rfl F rfl rfl rfl) rfl rfl rfl;have J:aT (IV (n+2)) ebj [some (Tp u H M),IU (20+C),none,none,none,none,none]=some (decide (I=0),[some (Tp q t s),IU (20+C),none,none,none,none,none]):=aj (ar (ae (ρ3:=[some (Tp q t s),IU (20+C),none,none,none,none,none]) rfl rfl S rfl) rfl rfl rfl rfl);by_cases Y:I=0
 ·rw[Dac Y]at J;obtain⟨rs,p,g,j,ρ,y,r⟩:=A q t s 120 O (by decide) (by decide);exact⟨rs,p,g,j,ai (fn:=F_jumpy) rfl rfl (ab s0 (ab (aH J rfl) y)) rfl,r⟩
 ·rw[Dab Y]at J;obtain⟨rs,p,g,j,ρ,y,r⟩:=A q t s (20+C) O (by omega) (by omega);exact⟨rs,p,g,j,ai (fn:=F_jumpy) rfl rfl (ab s0 (ab (az J rfl) y)) rfl,r⟩
def jo:∀rs:List R,PyData.canLayAll0 (rs.map R.d)=true
 |[]=>rfl
 |.st _ _::r=>by
  have:PyData.strOk (Str.ofString "set")=true:=by decide +kernel
  simp[PyData.canLayAll0,PyData.canLay0,R.d,jo r,this]
 |.ot _ _ h::r=>by simp[PyData.canLayAll0,PyData.canLay0,R.d,lay_ints,jo r,h.2]
def jq:∀rs:List R,PyData.depthAll (rs.map R.d)<=1
 |[]=>by simp[PyData.depthAll]
 |.st _ _::r=>by have:=jq r;simp[PyData.depthAll,PyData.depth,R.d,this]
 |.ot _ _ _::r=>by have:=jq r;simp[PyData.depthAll,PyData.depth,R.d,dm,this]
def oE:∀qs:Pz,PyData.canLayAll0 (qs.map Po)=true
 |[]=>rfl
 |q::r=>by simp[PyData.canLayAll0,PyData.canLay0,lay_ints,oE r]
def oF:∀qs:Pz,PyData.depthAll (qs.map Po)<=2
 |[]=>by simp[PyData.depthAll]
 |q::r=>by have:=oF r;simp[PyData.depthAll,PyData.depth,dm,this]
def Ig{d:PyData}(a:PyData.canLay0 d=true)(b:PyData.depth d<=10):SeqAt.shaped d=true:=by unfold SeqAt.shaped;rw[a,abh];exact Dac (by omega)
def FH{ds:List PyData}(a:PyData.canLay0 (.list ds)=true)(b:PyData.depth (.list ds)<=10):mo .ne (.list ds) (.list ds)=some false:=by show (if (SeqAt.shaped (.list ds)&&SeqAt.shaped (.list ds))=true then some (PyData.eqv (.list ds) (.list ds)) else none).bind _=_;rw[Ig a b,abK,if_pos rfl,eqv_refl _ a];rfl
def ne_T{ds:List PyData}(a:PyData.canLay0 (.tuple ds)=true)(b:PyData.depth (.tuple ds)<=10):mo .ne (.tuple ds) (.tuple ds)=some false:=by show (if (SeqAt.shaped (.tuple ds)&&SeqAt.shaped (.tuple ds))=true then some (PyData.eqv (.tuple ds) (.tuple ds)) else none).bind _=_;rw[Ig a b,abK,if_pos rfl,eqv_refl _ a];rfl
def yX{rs:List R}:mo .ne (.list (rs.map R.d)) (.list (rs.map R.d))=some false:=by have:=jq rs;exact FH (by simp[PyData.canLay0,jo]) (by simp[PyData.depth];omega)
def FI{qs:Pz}{us:List Int}:mo .ne (dPn qs us) (dPn qs us)=some false:=by have:=oF qs;exact ne_T (by simp[PyData.canLay0,PyData.canLayAll0,lay_ints,oE]) (by simp[PyData.depth,PyData.depthAll,dm];omega)
def FJ{f:Cf}{qs:Pz}{us:List Int}:mo .ne (dSt f qs us) (dSt f qs us)=some false:=by have:=oF qs;exact ne_T (by simp[PyData.canLay0,PyData.canLayAll0,lay_ints,oE]) (by simp[PyData.depth,PyData.depthAll,dm];omega)
def yY{n:Nat}{f:Cf}{qs:Pz}{us:List Int}(c:f.longs.length<=1000)(p:Pln f qs us):Sm (n+5) (dSt f qs us):=by
 refine(dH (n:=n+4) (by show 2<=1000;decide) λd b=>?_).2;rcases aab.mp b with rfl|b
 ·exact(dH (n:=n+3) (by rw[aaa];exact c) λd b=>by obtain⟨a,_,rfl⟩:=aay.mp b;exact c_same0).1
 ·rw[aaz.mp b];exact yR (aan p.len (by decide)) p.ul p.wl
def R.sm:R->R|.st x k=>if 99<k then .st x 99 else .st x k|r=>r
def CK{x k:Int}(h:99<k):(R.st x k).sm=.st x 99:=if_pos h
def CL{x k:Int}(h:¬ 99<k):(R.st x k).sm=.st x k:=if_neg h
def zU(r:R):r.sm.gr=false:=by
 cases r with
 |st x k=>
  by_cases h:99<k
  ·rw[CK h];rfl
  ·rw[CL h];exact Dab h
 |ot _ _ _=>rfl
def zV(r:R):r.sm.jm=r.jm:=by
 cases r with
 |st x k=>
  by_cases h:99<k
  ·rw[CK h];rfl
  ·rw[CL h]
 |ot _ _ _=>rfl
def FK{N:Int}{r:R}(h:Jok N r):Jok N r.sm:=by
 cases r with
 |st x k=>exact kZ (zV _)
 |ot _ _ _=>exact h
abbrev Ih:E:=.ife ec8 (.nm 0) (.tup ebc)
def HC{n:Nat}{r:R}:ev (IV (n+1)) Ih [some (Rd r)]=some (.val (Rd r.sm),[some (Rd r)]):=by
 have a:aT (IV (n+1)) ec8 [some (Rd r)]=some (!r.gr,[some (Rd r)]):=eB (bp (ae (ρ3:=[some (Rd r)]) rfl rfl (mR r) rfl));cases r with
 |st x k=>
  by_cases h:99<k
  ·rw[CK h];refine jL (ρ1:=[some (Rd (.st x k))]) (a.trans (by show some (!decide (99<k),_)=_;rw[Dac h];rfl)) rfl
  ·rw[CL h];exact fN (ρ1:=[some (Rd (.st x k))]) (a.trans (by show some (!decide (99<k),_)=_;rw[Dab h];rfl)) rfl
 |ot w b c=>exact fN a rfl
def qS{n:Nat}:∀{rs:List R}{out:List PyData}{o:Option OD},∃a,bw (bF (IV (n+1)) (.nm 0) .none Ih) (rs.map R.d) out [o]=some (out++(rs.map R.sm).map R.d,[a])
 |[],out,o=>⟨o,by show some (out,_)=some (out++[],_);rw[aam]⟩
 |r::rs,out,o=>by obtain⟨a,e⟩:=qS (n:=n) (rs:=rs) (out:=out++[r.sm.d]) (o:=some (Rd r));refine⟨a,bs (x:=([r.sm.d],[some (Rd r)])) (su (x:=.val (Rd r.sm)) rfl HC rfl) ?_⟩;rw[e,aad];rfl
structure Ok (rs:List R):Prop where
 len:rs.length<=200
 g60:(rs.filter R.gr).length<=60
 nb:Nb rs.length rs
 js:(rs.filter R.jm).length<=60
def Ok.bd{rs:List R}{r0 r1:Int}(h:Ok rs):Bd ⟨rs,[],r0,r1⟩:=⟨h.len,h.g60,h.nb,by
 show 0+(free _).length<=60;rw[aaO];exact aan (aaU _ _) (by rw[fY];exact h.js)⟩
def Ok.sm{rs:List R}(h:Ok rs):Ok (rs.map R.sm):=by
 refine⟨by rw[aaa];exact h.len,?_,λr a=>?_,?_⟩
 ·rw[acC.mpr λr a=>by obtain⟨q,_,rfl⟩:=aay.mp a;rw[zU];decide];exact aaH _
 ·rw[aaa];obtain⟨q,b,rfl⟩:=aay.mp a;exact FK (h.nb q b)
 ·rw[<-abO,List.countP_map];have e:(R.jm ∘ R.sm)=R.jm:=funext zV;rw[e,abO];exact h.js
abbrev Ra(r0 r1:Int):OD:=.fz (.tuple [.int r0,.int r1])
def qT{rs:List R}{r0 r1:Int}(h:Ok rs)(hop:Int):∃k a,k<100000/\Rnd hop k ⟨rs,[],r0,r1⟩ a:=by obtain⟨k,a,b,r⟩:=wg (hop:=hop) (m:=60) (f:=⟨rs,[],r0,r1⟩) (by have:=(h.bd (r0:=r0) (r1:=r1)).bd;exact aan (Nat.le_add_left _ _) this) h.len;exact⟨k,a,by omega,r⟩
def wy{n:Nat}{rs:List R}{r0 r1 hop:Int}(h:Ok rs):∃a qs us,a.rows=rs/\a.r0=r0/\a.r1=r1/\Bd a/\PlanOf a qs us/\tsF a qs hop=[]/\pl.pg.call (n+7) 21 [Rl rs,Ra r0 r1,It hop]=some (.fz (dSt a qs us),[Rl rs,Ra r0 r1,It hop])/\pl.pg.call (n+7) 36 [Rl rs,Ra r0 r1,It hop]=some (.fz (dSt a qs us),[Rl rs,Ra r0 r1,It hop])/\pl.pg.call (n+7) 35 [.fz (dSt a qs us),.fz (dSt a qs us)]=some (.fz (.bool true),[.fz (dSt a qs us),.fz (dSt a qs us)]):=by obtain⟨k,a,e,r⟩:=qT (r0:=r0) (r1:=r1) h hop;obtain⟨b,f,g,j⟩:=r.keeps h.bd;obtain⟨qs,us,P,i,c⟩:=j2 (n:=n) r h.bd rfl e;have d:=oC (n:=n+2) r h.bd rfl e P;exact⟨a,qs,us,f,g,j,b,P,i,c,d,yY (n:=n+1) (by have:=b.bd;omega) (P.pln b.hN)⟩
def yZ{n:Nat}{rs:List R}{r0 r1 hop:Int}(h:Ok rs):∃a,pl.pg.call (n+7) 21 [Rl (rs.map R.sm),Ra r0 r1,It hop]=some (.fz (dSt a [] []),[Rl (rs.map R.sm),Ra r0 r1,It hop])/\pl.pg.call (n+7) 20 [Rl (rs.map R.sm),It hop]=some (Lo a,[Rl (rs.map R.sm),It hop]):=by
 obtain⟨k,a,e,r⟩:=qT (r0:=r0) (r1:=r1) h.sm hop;have d:∀r∈rs.map R.sm,r.gr=false:=λr g=>by obtain⟨q,_,rfl⟩:=aay.mp g;exact zU q
 obtain⟨j,i,l,p⟩:=r.keeps h.sm.bd;obtain⟨s,m,P,o,c⟩:=j2 (n:=n) r h.sm.bd rfl e;obtain⟨rfl,rfl⟩:=(P.pln j.hN).no (by rw[i];exact d);have b:=yV (n:=n+1) (f:=⟨rs.map R.sm,[],r0,r1⟩) r h.sm.bd rfl e d;exact⟨a,c,b⟩
abbrev wE(sc k t:OD)(rs:List R)(r0 r1:Int)(x5:OD)(o6 o7 o8 o9 o10 o11:Option OD):DEnv:=[some sc,some k,some t,some (Rl rs),some (Ra r0 r1),some x5,o6,o7,o8,o9,o10,o11]
abbrev bR:Ss:=match F_law.body with|.cons (.fr _ _ (.cons _ (.cons (.fr _ _ b) _))) _=>b|_=>.nil
abbrev bH:Ss:=match bR with|.cons _ (.cons (.fr _ _ b) _)=>b|_=>.nil
abbrev bO:Ss:=match bR with|.cons _ (.cons _ (.cons _ (.cons (.fr _ _ b) _)))=>b|_=>.nil
def lD{rs:List R}:(Rs rs).dat=some (.list (rs.map R.d)):=by rw[Rs,<-mS];exact fj _
def qU{n:Nat}{sc k t x5:OD}{rs:List R}{r0 r1 hop:Int}{o6 o7 o8 o9 o10 o11:Option OD}(h:Ok rs)(w:x5=Rs rs\/x5=Rl rs):∃u y z,((aW (.nm 6) (.fz (.int hop)) (wE sc k t rs r0 r1 x5 o6 o7 o8 o9 o10 o11)).bind λρ1=>aw (IV (n+7)) bH ρ1)=some (.nx,wE sc k t rs r0 r1 (Rl rs) (IU hop) u y z o10 o11):=by
 obtain⟨f,b,a,rfl,rfl,rfl,B,P,v,d,m,g⟩:=wy (n:=n) (r0:=r0) (r1:=r1) (hop:=hop) h;obtain⟨q,j,e⟩:=yZ (n:=n) (r0:=f.r0) (r1:=f.r1) (hop:=hop) h;have p:=P.pln B.hN;have c:=ly (n:=n+2) (hop:=hop) p.inc p.nn p.len B.hN B.hJ;have l:=P.call (n:=n+1) B.hN;rw[v]at c;have C:(IV (n+7)).call=pl.pg.call (n+7):=rfl;rw[<-C]at d m g c l j e;have A:cK (IV (n+7)) ebg (wE sc k t f.rows f.r0 f.r1 x5 (IU hop) o7 o8 o9 o10 o11)=some (.nx,wE sc k t f.rows f.r0 f.r1 x5 (IU hop) (some (.fz (dSt f b a))) o8 o9 o10 o11):=ah (ae (ρ3:=wE sc k t f.rows f.r0 f.r1 x5 (IU hop) o7 o8 o9 o10 o11) rfl rfl m rfl) rfl rfl rfl;have D:cK (IV (n+7)) ebh (wE sc k t f.rows f.r0 f.r1 x5 (IU hop) (some (.fz (dSt f b a))) o8 o9 o10 o11)=some (.nx,wE sc k t f.rows f.r0 f.r1 (Rl f.rows) (IU hop) (some (.fz (dSt f b a))) (some (.fz (dSt f b a))) o9 o10 o11):=by
  rcases w with rfl|rfl
  ·exact ah (ae (rs:=[.rf 5,.val (Ra f.r0 f.r1),.val (It hop)]) (ρ2:=wE sc k t f.rows f.r0 f.r1 (Rl f.rows) (IU hop) (some (.fz (dSt f b a))) o8 o9 o10 o11) (ρ3:=wE sc k t f.rows f.r0 f.r1 (Rl f.rows) (IU hop) (some (.fz (dSt f b a))) o8 o9 o10 o11) rfl (show ba [false,false,false] _ _=_ from eS (bL rfl lD rfl) (eS rfl (eS rfl rfl))) d rfl) rfl rfl rfl
  ·exact ah (ae (ρ3:=wE sc k t f.rows f.r0 f.r1 (Rl f.rows) (IU hop) (some (.fz (dSt f b a))) o8 o9 o10 o11) rfl rfl d rfl) rfl rfl rfl
 have s:∀{o9:Option OD},ev (IV (n+7)) ed9 (wE sc k t f.rows f.r0 f.r1 (Rl f.rows) (IU hop) (some (.fz (dSt f b a))) (some (.fz (dSt f b a))) o9 o10 o11)=some (.val (Lo f),wE sc k t f.rows f.r0 f.r1 (Rl f.rows) (IU hop) (some (.fz (dSt f b a))) (some (.fz (dSt f b a))) o9 o10 o11):=aN rfl rfl rfl (bz bc);have r:∀{o9:Option OD},ev (IV (n+7)) eea (wE sc k t f.rows f.r0 f.r1 (Rl f.rows) (IU hop) (some (.fz (dSt f b a))) (some (.fz (dSt f b a))) o9 o10 o11)=some (.val (.fz (dPn b a)),wE sc k t f.rows f.r0 f.r1 (Rl f.rows) (IU hop) (some (.fz (dSt f b a))) (some (.fz (dSt f b a))) o9 o10 o11):=aN rfl rfl rfl (bz (jO (k:=1) rfl));obtain⟨F,i⟩:=qS (n:=n+6) (rs:=f.rows) (out:=[]) (o:=none);rw[aaM]at i;refine⟨_,_,_,bs (x:=wE sc k t f.rows f.r0 f.r1 x5 (IU hop) o7 o8 o9 o10 o11) rfl (ab A (ab D (ab (az (cH (eB (k:=true) (bp (ae (ρ3:=wE sc k t f.rows f.r0 f.r1 (Rl f.rows) (IU hop) (some (.fz (dSt f b a))) (some (.fz (dSt f b a))) o9 o10 o11) rfl rfl g rfl))) (aj (ar rfl rfl rfl rfl yX))) rfl) (ab (az (cH (aj (ar (ae (ρ3:=wE sc k t f.rows f.r0 f.r1 (Rl f.rows) (IU hop) (some (.fz (dSt f b a))) (some (.fz (dSt f b a))) o9 o10 o11) (aa rfl (aa s (aa (aN r rfl rfl (bz bc)) (aa rfl af)))) rfl c rfl) (cG af rfl rfl) rfl rfl (FH (ds:=[]) rfl (by decide)))) (aj (ar (ae (ρ3:=wE sc k t f.rows f.r0 f.r1 (Rl f.rows) (IU hop) (some (.fz (dSt f b a))) (some (.fz (dSt f b a))) o9 o10 o11) (aa rfl (aa s (aa rfl af))) rfl l rfl) r (CD b a) rfl FI))) rfl) (ab (ah (ρ3:=wE sc k t f.rows f.r0 f.r1 (Rl f.rows) (IU hop) (some (.fz (dSt f b a))) (some (.fz (dSt f b a))) (some (Rs (f.rows.map R.sm))) o10 o11) (cQ (ρ2:=wE sc k t f.rows f.r0 f.r1 (Rl f.rows) (IU hop) (some (.fz (dSt f b a))) (some (.fz (dSt f b a))) o9 o10 o11) (bQ rfl rfl rfl) (by rw[aaa];have:=h.len;omega) rfl i unca_nil) rfl rfl (by rw[mS];rfl)) (ab (az (aj (ar (dx:=dSt q [] []) (dy:=dSt q [] []) (ae (rs:=[.rf 9,.val (Ra f.r0 f.r1),.val (It hop)]) (ρ2:=wE sc k t f.rows f.r0 f.r1 (Rl f.rows) (IU hop) (some (.fz (dSt f b a))) (some (.fz (dSt f b a))) (some (Rl (f.rows.map R.sm))) o10 o11) (ρ3:=wE sc k t f.rows f.r0 f.r1 (Rl f.rows) (IU hop) (some (.fz (dSt f b a))) (some (.fz (dSt f b a))) (some (Rl (f.rows.map R.sm))) o10 o11) rfl (show ba [false,false,false] _ _=_ from eS (bL rfl lD rfl) (eS rfl (eS rfl rfl))) j rfl) (bM (rs:=[.val (Lo q),.val (.tup [.lst [],.lst []])]) (aa (ae (ρ3:=wE sc k t f.rows f.r0 f.r1 (Rl f.rows) (IU hop) (some (.fz (dSt f b a))) (some (.fz (dSt f b a))) (some (Rl (f.rows.map R.sm))) o10 o11) rfl rfl e rfl) (aa (bM (aa rfl (aa rfl af)) rfl rfl rfl) af)) rfl rfl rfl) rfl rfl FJ)) rfl) rfl))))))⟩
def y3{C:Ct}{e:E}{ρ ρ1:DEnv}{x:OR}{ds:List PyData}(b:ev C e ρ=some (x,ρ1))(a:(dW ρ1 x).bind seqOf=some ds):ev C (.bnw .list e) ρ=some (.val (.lst (ds.map OD.fz)),ρ1):=bs b (bs a rfl)
abbrev IL(k l:Int):E:=.call 24 (.cons (.nm 2) (.cons (.ix (.lst (.cons (.int k) (.cons (.int l) .nil))) eco) .nil))
def FL{n m:Nat}{a b c k l:Int}{x y:Option OD}{ρ:DEnv}(h:TpOk b c m)(q:m<=100000)(M:0<k/\k<1000)(N:0<l/\l<1000):∃z C f i,ev (IV (n+1)) (IL k l) (x::y::some (Tp a b c)::ρ)=some (.val (It z),x::y::some (Tp C f i)::ρ)/\TpOk f i (m+2):=by
 obtain⟨L,o,t,F,s,e,d,r⟩:=ax (n:=n) (a:=a) (many:=2) h (up (k:=0) q rfl) (by decide) (by decide);obtain⟨u,H,I⟩:=dE (ks:=[k,l]) e d;have B:u=k\/u=l:=by simpa using H
 obtain⟨w,p,j,g,v,D,A,J⟩:=ax (n:=n) (a:=o) (many:=u) r (up (k:=1) q rfl) (by omega) (by omega);exact⟨w,p,j,g,ae (ρ3:=x::y::some (Tp p j g)::ρ) (aa rfl (aa (aN (cG (aa rfl (aa rfl af)) rfl rfl) (ae (ρ3:=x::y::some (Tp o t F)::ρ) rfl rfl s rfl) rfl (cR I)) af)) rfl v rfl,J⟩
def qV{n:Nat}{sc k t x5:OD}{rs:List R}{r0 r1 s0 s1:Int}{o6 o7 o8 o9 o10 o11:Option OD}(h:Ok rs):((aW (.nm 11) (Ra s0 s1) (wE sc k t rs r0 r1 x5 o6 o7 o8 o9 o10 o11)).bind λρ1=>aw (IV (n+7)) bO ρ1)=some (.nx,wE sc k t rs r0 r1 x5 o6 o7 o8 o9 o10 (some (Ra s0 s1))):=by obtain⟨f,i,e,_,_,_,B,P,g,b,c,a⟩:=wy (n:=n) (r0:=s0) (r1:=s1) (hop:=9) h;have d:(IV (n+7)).call=pl.pg.call (n+7):=rfl;rw[<-d]at b c a;exact bs (x:=wE sc k t rs r0 r1 x5 o6 o7 o8 o9 o10 (some (Ra s0 s1))) rfl (ab (az (eB (k:=true) (bp (ae (ρ3:=wE sc k t rs r0 r1 x5 o6 o7 o8 o9 o10 (some (Ra s0 s1))) (aa (ae (ρ3:=wE sc k t rs r0 r1 x5 o6 o7 o8 o9 o10 (some (Ra s0 s1))) rfl rfl b rfl) (aa (ae (ρ3:=wE sc k t rs r0 r1 x5 o6 o7 o8 o9 o10 (some (Ra s0 s1))) rfl rfl c rfl) af)) rfl a rfl))) rfl) rfl)
def m9{n m:Nat}{sc k:OD}{a b c:Int}{o3 o4 o5 o6 o7 o8 o9 o10 o11:Option OD}{rs:List R}(t:TpOk b c m)(hm:m<=40000)(h:Ok rs):
  ∃j,((aW (.nm 3) (.fz (.list (rs.map R.d))) [some sc,some k,some (Tp a b c),o3,o4,o5,o6,o7,o8,o9,o10,o11]).bind λρ1=>aw (IV (n+7)) bR ρ1)=some (.nx,j)/\∃W F L Y T p5 N v w z D B,j=[some sc,some k,some (Tp W F L),Y,T,p5,N,v,w,z,D,B]/\TpOk F L (m+100):=by
 obtain⟨r0,r1,i,q,s,H,O,_⟩:=qj (n:=n+5) (a:=a) t (by omega);obtain⟨hop,A,M,I,P,t2⟩:=FL (n:=n+6) (a:=i) (k:=40) (l:=500) (x:=some sc) (y:=some k) (ρ:=[some (Rl rs),some (Ra r0 r1),some (Rs rs),o6,o7,o8,o9,o10,o11]) O (by omega) (by decide) (by decide);obtain⟨s0,s1,o,f,g,J,U,_⟩:=qj (n:=n+5) (a:=A) t2 (by omega);obtain⟨v,w,z,X⟩:=qU (n:=n) (sc:=sc) (k:=k) (t:=Tp A M I) (r0:=r0) (r1:=r1) (hop:=0) (o6:=o6) (o7:=o7) (o8:=o8) (o9:=o9) (o10:=o10) (o11:=o11) h (.inl rfl);obtain⟨r,p,u,Z⟩:=qU (n:=n) (sc:=sc) (k:=k) (t:=Tp A M I) (r0:=r0) (r1:=r1) (hop:=hop) (o6:=IU 0) (o7:=v) (o8:=w) (o9:=z) (o10:=o10) (o11:=o11) h (.inr rfl);have Q:=qV (n:=n) (sc:=sc) (k:=k) (t:=Tp o f g) (x5:=Rl rs) (r0:=r0) (r1:=r1) (s0:=s0) (s1:=s1) (o6:=IU hop) (o7:=r) (o8:=p) (o9:=u) (o10:=some (Ra s0 s1)) (o11:=o11) h;have S:=qV (n:=n) (sc:=sc) (k:=k) (t:=Tp o f g) (x5:=Rl rs) (r0:=r0) (r1:=r1) (s0:=r0) (s1:=r1) (o6:=IU hop) (o7:=r) (o8:=p) (o9:=u) (o10:=some (Ra s0 s1)) (o11:=some (Ra s0 s1)) h;have ec:(IV (n+7)).call=pl.pg.call (n+7):=rfl;rw[<-ec]at H J;refine⟨_,bs (x:=[some sc,some k,some (Tp a b c),some (Rl rs),o4,o5,o6,o7,o8,o9,o10,o11]) rfl (ab (fg (zs:=[Ra r0 r1,Rs rs]) (ρ3:=wE sc k (Tp i q s) rs r0 r1 (Rs rs) o6 o7 o8 o9 o10 o11) (aa (ae (ρ3:=[some sc,some k,some (Tp i q s),some (Rl rs),o4,o5,o6,o7,o8,o9,o10,o11]) rfl rfl H rfl) (aa (x:=.val (Rs rs)) (by
  have:=y3 (C:=IV (n+7)) (e:=.nm 3) (ρ:=[some sc,some k,some (Tp i q s),some (Rl rs),o4,o5,o6,o7,o8,o9,o10,o11]) (ρ1:=[some sc,some k,some (Tp i q s),some (Rl rs),o4,o5,o6,o7,o8,o9,o10,o11]) (x:=.val (Rl rs)) (ds:=rs.map R.d) rfl rfl;rw[mS]at this;exact this) af)) rfl rfl rfl) (ab (cp (bQ (d:=.tuple [.int 0,.int hop]) (bM (aa rfl (aa P af)) rfl rfl rfl) rfl rfl) (bs X (bs Z rfl))) (ab (ah (ρ3:=wE sc k (Tp o f g) rs r0 r1 (Rl rs) (IU hop) r p u (some (Ra s0 s1)) o11) (ae (ρ3:=wE sc k (Tp o f g) rs r0 r1 (Rl rs) (IU hop) r p u o10 o11) rfl rfl J rfl) rfl rfl rfl) (ab (cp (bQ (d:=.tuple [.tuple [.int s0,.int s1],.tuple [.int r0,.int r1]]) (bM (aa rfl (aa rfl af)) rfl rfl rfl) rfl rfl) (bs Q (bs S rfl))) rfl)))),o,f,g,_,_,_,_,_,_,_,_,_,rfl,U.up (by omega)⟩
def pure(ns:List Int)(a5:ns.length<=63):∃ys,pl.pg.call 8 Fd [.fz (.list (ns.map PyData.int))]=some (.fz (.bool true),ys):=by
 have H:∀(i:Nat) (l o3 o4 o5 o6 o7 o8 o9 o10 o11:Option OD) (A:Option OD),i<=8->∃c,((aW (.nm 1) (.fz (.int i)) [some (.fz (.list (ns.map PyData.int))),A,l,o3,o4,o5,o6,o7,o8,o9,o10,o11]).bind λo=>aw (IV 7) (match F_law.body with|.cons (.fr _ _ b) _=>b|_=>.nil) o)=some (.nx,c)/\∃D C u w s v p r q f g,c=[some (.fz (.list (ns.map PyData.int))),D,C,u,w,s,v,p,r,q,f,g]:=by
  intro i l o3 o4 o5 o6 o7 o8 o9 o10 o11 A hi;obtain⟨a,b,et,t⟩:=B3 (n:=5) (ns:=ns) hi;obtain⟨rs,Z,b1,c1,T,y,U,t1⟩:=B4 (n:=4) (a:=a) t (aaH _);obtain⟨j,N,Y,c2,Q,L,M,X,S,t2⟩:=yW (n:=4) (a:=Z) t1 (by decide);obtain⟨ρ3,f1,a3,b3,c3,q3,q4,q5,q6,q7,q8,q9,O,P,rfl,t3⟩:=m9 (n:=0) (sc:=.fz (.list (ns.map PyData.int))) (k:=It i) (a:=N) (o3:=o3) (o4:=o4) (o5:=o5) (o6:=o6) (o7:=o7) (o8:=o8) (o9:=o9) (o10:=o10) (o11:=o11) (rs:=rs) t2 (by decide) ⟨aan y (by decide),aan (aaU _ _) y,U,aan (aaU _ _) y⟩;obtain⟨a0,f2,a4,b4,c4,u,w,s,v,p,r,q,f,g,rfl,t4⟩:=m9 (n:=0) (sc:=.fz (.list (ns.map PyData.int))) (k:=It i) (a:=a3) (o3:=q3) (o4:=q4) (o5:=q5) (o6:=q6) (o7:=q7) (o8:=q8) (o9:=q9) (o10:=O) (o11:=P) (rs:=j) t3 (by decide) ⟨aan L (by decide),X,M,aan S (by decide)⟩;refine⟨_,bs (x:=[some (.fz (.list (ns.map PyData.int))),IU i,l,o3,o4,o5,o6,o7,o8,o9,o10,o11]) rfl ?_,IU i,some (Tp a4 b4 c4),u,w,s,v,p,r,q,f,g,rfl⟩;refine ab (ah (ρ3:=[some (.fz (.list (ns.map PyData.int))),IU i,some (Tp a b 0),o3,o4,o5,o6,o7,o8,o9,o10,o11]) (ae (ρ3:=[some (.fz (.list (ns.map PyData.int))),IU i,l,o3,o4,o5,o6,o7,o8,o9,o10,o11]) rfl rfl et rfl) rfl rfl rfl) ?_;have hw:sF (IV 7) eat [some (.fz (.list (ns.map PyData.int))),IU i,some (Tp a b 0),o3,o4,o5,o6,o7,o8,o9,o10,o11]=some ([.list (rs.map R.d),.list (j.map R.d)],[some (.fz (.list (ns.map PyData.int))),IU i,some (Tp N Y c2),o3,o4,o5,o6,o7,o8,o9,o10,o11]):=by refine bQ (d:=.tuple [.list (rs.map R.d),.list (j.map R.d)]) (bM (zs:=[Rs rs,Rs j]) (z:=mkTup [Rs rs,Rs j]) (aa (ae (ρ3:=[some (.fz (.list (ns.map PyData.int))),IU i,some (Tp Z b1 c1),o3,o4,o5,o6,o7,o8,o9,o10,o11]) rfl rfl T rfl) (aa (ae (ρ3:=[some (.fz (.list (ns.map PyData.int))),IU i,some (Tp N Y c2),o3,o4,o5,o6,o7,o8,o9,o10,o11]) rfl rfl Q rfl) af)) rfl rfl rfl) ?_ rfl;show ((OD.tup [Rs rs,Rs j]).dat).map _=_;rw[OD.dat,OD.dv,lD,OD.dv,lD];rfl
  exact ab (cp hw (bs f1 (bs f2 rfl))) rfl
 have J:∀(m i:Nat) (A l o3 o4 o5 o6 o7 o8 o9 o10 o11:Option OD),i+m<=9->∃c,bE (λd c=>(aW (.nm 1) (.fz d) c).bind λo=>aw (IV 7) (match F_law.body with|.cons (.fr _ _ b) _=>b|_=>.nil) o) (cC i m) [some (.fz (.list (ns.map PyData.int))),A,l,o3,o4,o5,o6,o7,o8,o9,o10,o11]=some (.nx,c)/\∃D C u w s v p r q f g,c=[some (.fz (.list (ns.map PyData.int))),D,C,u,w,s,v,p,r,q,f,g]:=by
  intro m;induction m with
  |zero=>intro i A l o3 o4 o5 o6 o7 o8 o9 o10 o11 _;exact⟨_,rfl,_,_,_,_,_,_,_,_,_,_,_,rfl⟩
  |succ m ih=>intro i A l o3 o4 o5 o6 o7 o8 o9 o10 o11 h;obtain⟨o,T,D,C,u,w,s,v,p,r,q,f,g,rfl⟩:=H i l o3 o4 o5 o6 o7 o8 o9 o10 o11 A (by omega);obtain⟨W,Q,h2⟩:=ih (i+1) D C u w s v p r q f g (by omega);refine⟨W,?_,h2⟩;rw[br];exact bs T Q
 obtain⟨B,I⟩:∃B:Int,B=if (ns.length:Int)<1 then (ns.length:Int) else 1:=⟨_,rfl⟩
 have hb:0<=B/\B<=1:=by rw[I];split<;>omega
 obtain⟨c,e,D,C,u,w,s,v,p,r,q,f,g,rfl⟩:=J (1+B).toNat 0 none none none none none none none none none none none (by omega);have F:ev (IV 7) ebb [some (.fz (.list (ns.map PyData.int))),none,none,none,none,none,none,none,none,none,none,none]=some (.val (It B),[some (.fz (.list (ns.map PyData.int))),none,none,none,none,none,none,none,none,none,none,none]):=aX (aa rfl (aa (aX rfl rfl blen) af)) rfl (by rw[I];rfl);exact⟨_,ai (fn:=F_law) rfl rfl (ab (cp (dA (n:=1+B) (ag rfl F rfl rfl rfl) rfl (by omega)) e) (aC (aq rfl rfl))) rfl⟩
set_option maxHeartbeats 0
def lm:Str:="law_nearpool_k27_rows_that_settle"
open PySem.W in
def vi(n:Int):Value:=.int n 0
def vr(a:Addr):Value:=.ref a
def vs(x:Str)(t:Nat):Value:=.str x t
def nt(P:Params)(k:Str)(t:Nat)(v:Value):DictEntry:=⟨PyData.keyHash P k,.str k t,v⟩
def fo(d:Df)(m:Str)(t c:Nat):Obj:=⟨.type "function",none,.func (PySem.W.fnOf d.name d.qual (eI d.st) (cv d.st) (aL d.st) .none .none .none (.str m t) none (.ref c) .none),List.toArray []⟩
def cq(vs:List Value):Obj:=⟨.type "code",none,.fields (List.toArray vs),List.toArray []⟩
def cu(n q:Str)(t l a r T:Nat):Obj:=cq [vs n t,vs q (t+1),vs IN (t+2),vi l,vi a,vi 0,vi 0,vi 3,vr r,.bool true,vi 181,vr (r+1),.none,vr (r+2),vr (r+3),vr (r+4),vi T,vi l,vs IN (T+1)]
def cw(n q:Str)(t l a r T:Nat):Obj:=cq [vs n t,vs q (t+1),vs IN (t+2),vi l,vi a,vi 0,vi 0,vi 3,vr r,.bool true,vi 181,vr (r+1),.none,.none,.none,vr (r+2),vi T,vi l,vs IN (T+1)]
def KK(P:Params):Waa:=[(3,⟨(.type "dict"),none,(.dict (List.toArray [nt P "__name__" 165 (vs lm 415),nt P "__doc__" 166 .none,nt P "__package__" 167 .none,nt P "__loader__" 168 (.builtin "__main__.__loader__#opaque"),nt P "__spec__" 169 .none,nt P "__annotations__" 170 (vr 6),nt P "__builtins__" 171 (vr 4),nt P "__file__" 173 (vs IN 172),nt P "__cached__" 174 .none,nt P "GREATEST_SMALL" 190 (.int (99) 189),nt P nX 197 (vr 21),nt P ol 204 (vr 28),nt P oD 210 (vr 33),nt P pc 216 (vr 38),nt P pi 223 (vr 45),nt P "FARTHEST_NIL" 225 (.int (99) 224),nt P "OVER_CELLS" 229 (.int (2) 228),nt P "WORD_CELLS" 231 (.int (2) 230),nt P pp 240 (vr 52),nt P pr 248 (vr 59),nt P pu 257 (vr 66),nt P rc 263 (vr 71),nt P ac 365 (vr 135),nt P sw 376 (vr 146),nt P sK 386 (vr 153),nt P ut 392 (vr 158),nt P wp 402 (vr 165),nt P wr 414 (vr 172),nt P wv 424 (vr 179),nt P ww 433 (vr 186),nt P wP 443 (vr 193),nt P wS 452 (vr 200),nt P wT 469 (vr 207),nt P "_law_longs" 475 (vr 212),nt P xz 484 (vr 219),nt P xL 491 (vr 226),nt P zn 500 (vr 233),nt P At 515 (vr 240),nt P BT 533 (vr 247),nt P Db 539 (vr 252),nt P EQ 548 (vr 259),nt P Fa 554 (vr 264),nt P Go 560 (vr 269),nt P Ix 572 (vr 276),nt P lw 578 (vr 281)]) 45),List.toArray []⟩),
 (20,cu nX nX 191 3 1 15 195),
 (21,fo i7 jp 187 20),
 (27,cu ol ol 198 5 1 22 202),
 (28,fo jR jp 187 27),
 (32,cw oD oD 205 7 1 29 208),
 (33,fo gZ jp 187 32),
 (37,cw pc pc 211 9 1 34 214),
 (38,fo ja jp 187 37),
 (44,cu pi pi 217 11 1 39 221),
 (45,fo qe jp 187 44),
 (51,cu pp pp 232 17 3 46 238),
 (52,fo jS na 226 51),
 (58,cu pr pr 241 19 2 53 246),
 (59,fo jb na 226 58),
 (65,cu pu pu 249 21 3 60 255),
 (66,fo fR na 226 65),
 (70,cw rc rc 258 25 3 67 261),
 (71,fo mO na 226 70),
 (84,cu IP "Going.__init__" 278 41 4 79 285),
 (85,fo cW ce 264 84),
 (91,cu "is_due" "Going.is_due" 288 52 2 86 296),
 (92,fo eC ce 264 91),
 (98,cu "lay" "Going.lay" 299 61 2 93 307),
 (99,fo g6 ce 264 98),
 (105,cu "finds" "Going.finds" 310 73 2 100 315),
 (106,fo eW ce 264 105),
 (112,cu "may_put" "Going.may_put" 318 78 2 107 323),
 (113,fo dO ce 264 112),
 (119,cu "come" "Going.come" 326 83 2 114 332),
 (120,fo fS ce 264 119),
 (126,cu "cross" "Going.cross" 335 93 2 121 340),
 (127,fo eX ce 264 126),
 (131,cw "plan" "Going.plan" 343 101 1 128 346),
 (132,fo fT ce 264 131),
 (134,⟨(.type "dict"),none,(.dict (List.toArray [nt P "__module__" 273 (vs ce 264),nt P "__firstlineno__" 277 (.int (39) 276),nt P IP 287 (vr 85),nt P "is_due" 298 (vr 92),nt P "lay" 309 (vr 99),nt P "finds" 317 (vr 106),nt P "may_put" 325 (vr 113),nt P "come" 334 (vr 120),nt P "cross" 342 (vr 127),nt P "plan" 348 (vr 132),nt P "__static_attributes__" 358 (vr 133),nt P "__dict__" 360 (vr 136),nt P "__weakref__" 362 (vr 137),nt P "__doc__" 363 .none]) 4),List.toArray []⟩),
 (135,⟨(.type "type"),none,(.cls ⟨ac,[(.type "object")],[(vr 135),(.type "object")],134,ac,true,[],[],false,none,false⟩),List.toArray [none,none,(some (vs ac 266)),(some (vs ac 274)),(some (.builtin "object.__new__")),(some (.bool true))]⟩),
 (145,cu sw sw 366 104 3 140 374),
 (146,fo g7 ce 264 145),
 (152,cu sK sK 379 110 2 147 384),
 (153,fo jc nl 377 152),
 (157,cw ut ut 387 112 4 154 390),
 (158,fo g8 nl 377 157),
 (164,cu wp wp 393 117 2 159 400),
 (165,fo eY nl 377 164),
 (171,cu wr wr 403 124 3 166 412),
 (172,fo jT nl 377 171),
 (178,cu wv wv 417 134 2 173 422),
 (179,fo jU lm 415 178),
 (185,cu ww ww 425 136 2 180 431),
 (186,fo vC lm 415 185),
 (192,cu wP wP 434 139 2 187 441),
 (193,fo vD lm 415 192),
 (199,cu wS wS 444 148 1 194 450),
 (200,fo qf lm 415 199),
 (206,cu wT wT 453 152 1 201 467),
 (207,fo vE lm 415 206),
 (218,cu xz xz 476 172 1 213 482),
 (219,fo qg lm 415 218),
 (225,cu xL xL 485 176 1 220 489),
 (226,fo fU lm 415 225),
 (232,cu zn zn 492 178 3 227 498),
 (233,fo vF lm 415 232),
 (239,cu At At 501 180 3 234 513),
 (240,fo jd lm 415 239),
 (246,cu BT BT 516 193 4 241 531),
 (247,fo eZ lm 415 246),
 (251,cw Db Db 534 202 3 248 537),
 (252,fo g9 lm 415 251),
 (258,cu EQ EQ 540 232 3 253 546),
 (259,fo jV lm 415 258),
 (263,cw Fa Fa 549 235 1 260 552),
 (264,fo qh lm 415 263),
 (268,cw Go Go 555 252 2 265 558),
 (269,fo vG lm 415 268),
 (275,cu Ix Ix 561 264 3 270 570),
 (276,fo hU lm 415 275),
 (280,cw lw lw 573 272 1 277 576),
 (281,fo D_law lm 415 280)]
def qv:Program:=PySem.W.view PySem.Challenge.pw_nearpool_k27_rows_that_settle [1,2,3,4,5,6,7,9,10,11,12,13,14,16,17,19,20,21,22,24,25,26,27,28,29,30,31,32,33,34,35,36,37,38,39,40]
open PySem.W PyProof.Rows in
def y4{p q:Program}{loose:List Str}{Xt:Shared->Bool}{b:Type}{Yf:Shared->b}{Ya:World->b}{N:Nat}{g0:Bool}(e:opening p=plainProg p.main.scope.names)(j:Nat.ble 600 N=true)(f:∀s,fenceModules? p s=some s)
  (h:∀(w:World) (a:OsState),(topFrom treeTable p w N ⟨boot_heap w.params,Array.mk [],boot_drawn,boot_toks,a⟩).map (λs=>(openSeen q loose (importedModules p.main.body) Xt g0 s,Yf s))=some (openGood q loose,Ya w)):LeftO p q loose Xt Yf Ya N g0:=λw=>by
 obtain⟨⟨i,l,d,k,a⟩,c,g⟩:=aaJ.mp (boot_open e j f w);obtain⟨rfl,rfl,rfl,rfl⟩:i=boot_heap w.params/\l=Array.mk []/\d=boot_drawn/\k=boot_toks:=by simpa using g
 unfold openEnds;rw[c];exact h w a
def hk:PySem.W.Hook:=PySem.W.kHook KK [3,20,21,27,28,32,33,37,38,44,45,51,52,58,59,65,66,70,71,84,85,91,92,98,99,105,106,112,113,119,120,126,127,131,132,134,135,145,146,152,153,157,158,164,165,171,172,178,179,185,186,192,193,199,200,206,207,218,219,225,226,232,233,239,240,246,247,251,252,258,259,263,264,268,269,275,276,280,281] (λ_=>by kernel_rfl)
abbrev xt(s:Shared):Bool:=PySem.W.xlAt qv [] s&&PySem.W.recOk (PySem.W.RowW.records (PySem.Challenge.rw_nearpool_k27_rows_that_settle).row.toRowW) s
def left:PySem.W.LeftO PySem.Challenge.pw_nearpool_k27_rows_that_settle qv [] xt (PySem.W.Hook.obs hk) (PySem.W.Hook.val hk) 3082:=y4 (by kernel_rfl) (by rfl) (λs=>by kernel_rfl) (λw a=>by kernel_rfl)
def dd:DefRec:=⟨lw,eI D_law.st,cv D_law.st,aL D_law.st,match D_law.st with|.FunctionDef _ _ _ _ _ _ _ _ _ p=>p|_=>⟨0,0,0,0⟩⟩
def said:(PySem.Challenge.rw_nearpool_k27_rows_that_settle).wellSaid=true:=by kernel_rfl
def wz(K:Waa):L2.Sp:=λc H Q _=>∃(a:Addr) (b:List Int),c=[.ref a]/\SqL K H a (b.map V.int)/\b.length<=63/\∀d,Q (.bl true) d
def F1:Option (Option Value)->Bool
 |some none=>true
 |_=>false
def CV(f:Nat):Option (Option Value)->Bool
 |some (some (.ref g))=>g==f
 |_=>false
def HD:Option (Option Value)->Bool
 |some (some (.builtin s))=>decide (s="object.__setattr__")
 |_=>false
def wA{o:Option (Option Value)}(h:F1 o=true):o=some none:=by
 unfold F1 at h;split at h
 ·rfl
 ·cases h
def lF{f:Nat}{o:Option (Option Value)}(h:CV f o=true):o=some (some (.ref f)):=by
 unfold CV at h;split at h
 ·rw[beq_iff_eq.mp h]
 ·cases h
def CM{o:Option (Option Value)}(h:HD o=true):o=some (some (.builtin "object.__setattr__")):=by
 unfold HD at h;split at h
 ·rw[Daa h]
 ·cases h
open PySem.W in
def HE(K:Frag)(C:Addr):Bool:=plainGet K C Str.empty&&(hasDictIn K C&&(plainOver K C&&HD (findIn K (.ref C) "__setattr__")))
def wB{K:Waa}{C:Addr}(h:HE K C=true):Cls K C:=by obtain⟨c,h⟩:=an2 h;obtain⟨b,h⟩:=an2 h;obtain⟨a,h⟩:=an2 h;exact⟨c,b,a,CM h⟩
open PySem.W in
def IM(K:Frag)(d:Df)(f c:Nat):Kd->Bool
 |.fn=>codeIn K (.ref c) d.qual&&(keepIn K (.ref f)&&CV f (nsIn K mainGlobals d.name))
 |.me x=>codeIn K (.ref c) d.qual&&(keepIn K (.ref f)&&(HE K (av K x)&&(CV f (findIn K (.ref (av K x)) d.name)&&isFn K (.ref f))))
 |.ini x=>codeIn K (.ref c) d.qual&&(keepIn K (.ref f)&&(makesIn K (av K x)&&(CV f (findIn K (.ref (av K x)) IP)&&(isFn K (.ref f)&&(keepIn K (.ref (av K x))&&CV (av K x) (nsIn K mainGlobals x))))))
def fk{K:Waa}{h:Heap}{n:Str->Option Value}(X:K.In h)(G:h.Ns mainGlobals n){d:Df}{k:Kd}(m:Str)(t c f:Nat)(l:K.lookup f=some (fo d m t c))(q:IM K d f c k=true)
  (b:∀us:List Value,us.length=d.ps.length->bindArgs (PySem.W.fnOf d.name d.qual (eI d.st) (cv d.st) (aL d.st) .none .none .none (.str m t) none (.ref c) .none) ⟨us,[]⟩=Pure.pure (d.ps.zip us)):zA K n (d,k):=by
 cases k with
 |fn=>obtain⟨g,q⟩:=an2 q;obtain⟨a,e⟩:=an2 q;exact⟨f,_,ki l g a,.all b,abP X G (lF e),a⟩
 |me x=>obtain⟨g,q⟩:=an2 q;obtain⟨a,q⟩:=an2 q;obtain⟨e,q⟩:=an2 q;obtain⟨j,i⟩:=an2 q;exact⟨f,_,ki l g a,.all b,wB e,lF j,i,a⟩
 |ini x=>obtain⟨g,q⟩:=an2 q;obtain⟨a,q⟩:=an2 q;obtain⟨e,q⟩:=an2 q;obtain⟨j,q⟩:=an2 q;obtain⟨i,q⟩:=an2 q;obtain⟨p,o⟩:=an2 q;exact⟨f,_,ki l g a,.all b,⟨e,lF j,i,p⟩,abP X G (lF o)⟩
def fm{a:Type}{P:a->Prop}{x:a}{l:List a}(h:P x)(k:∀y∈l,P y):∀y∈x::l,P y:=List.forall_mem_cons.mpr ⟨h,k⟩
def fC{K:Waa}{h:Heap}{a:Str->Option Value}(X:K.In h)(G:h.Ns mainGlobals a){x:Str}{k:Int}(t:Nat)(e:PySem.W.nsIn K mainGlobals x=some (some (.int k t))):∃v u,a x=some u/\RelV v u/\∀S H,Fz K S H v (.int k):=⟨.int k,_,abP X G e,⟨_,rfl⟩,λ_ _=>.int _⟩
def b1{a:Type}{P:List a->Prop}(h:∀a0,P [a0])(l:List a)(e:l.length=1):P l:=by
 match l,e with
 |[a0],_=>exact h a0
def b2{b:Type}{P:List b->Prop}(h:∀a0 a,P [a0,a])(l:List b)(e:l.length=2):P l:=by
 match l,e with
 |[a0,a],_=>exact h a0 a
def b3{c:Type}{P:List c->Prop}(h:∀a0 a b,P [a0,a,b])(l:List c)(e:l.length=3):P l:=by
 match l,e with
 |[a0,a,b],_=>exact h a0 a b
def b4{d:Type}{P:List d->Prop}(h:∀a0 a b c,P [a0,a,b,c])(l:List d)(e:l.length=4):P l:=by
 match l,e with
 |[a0,a,b,c],_=>exact h a0 a b c
def gives{w:World}{b:Str->Option Value}{g:Addr}{h:Heap} (X:(KK w.params).In h) (G:h.Ns mainGlobals b) (c:b lw=some (.ref g)):
  ∃f:FuncData,(∀(s:Shared) (v:Value),BindsTo s f ⟨[v],[]⟩ [(hR,v)])/\∀a:Heap,(KK w.params).In a->a.Ns mainGlobals b->FnOk (PySem.Challenge.rw_nearpool_k27_rows_that_settle).prog w (KK w.params) b a CX0 9 g f [hR] (wz (KK w.params)):=by
 have M:Md (KK w.params) b pl.tb pl.pg pl.D:=Pl.md Fe (fm (fk X G jp 187 20 21 (by kernel_rfl) (by kernel_rfl) (b1 λ_=>rfl))
  (fm (fk X G jp 187 27 28 (by kernel_rfl) (by kernel_rfl) (b1 λ_=>rfl))
  (fm (fk X G jp 187 32 33 (by kernel_rfl) (by kernel_rfl) (b1 λ_=>rfl))
  (fm (fk X G jp 187 37 38 (by kernel_rfl) (by kernel_rfl) (b1 λ_=>rfl))
  (fm (fk X G jp 187 44 45 (by kernel_rfl) (by kernel_rfl) (b1 λ_=>rfl))
  (fm (fk X G na 226 51 52 (by kernel_rfl) (by kernel_rfl) (b3 λ_ _ _=>rfl))
  (fm (fk X G na 226 58 59 (by kernel_rfl) (by kernel_rfl) (b2 λ_ _=>rfl))
  (fm (fk X G na 226 65 66 (by kernel_rfl) (by kernel_rfl) (b3 λ_ _ _=>rfl))
  (fm (fk X G na 226 70 71 (by kernel_rfl) (by kernel_rfl) (b3 λ_ _ _=>rfl))
  (fm (fk X G ce 264 84 85 (by kernel_rfl) (by kernel_rfl) (b4 λ_ _ _ _=>rfl))
  (fm (fk X G ce 264 91 92 (by kernel_rfl) (by kernel_rfl) (b2 λ_ _=>rfl))
  (fm (fk X G ce 264 98 99 (by kernel_rfl) (by kernel_rfl) (b2 λ_ _=>rfl))
  (fm (fk X G ce 264 105 106 (by kernel_rfl) (by kernel_rfl) (b2 λ_ _=>rfl))
  (fm (fk X G ce 264 112 113 (by kernel_rfl) (by kernel_rfl) (b2 λ_ _=>rfl))
  (fm (fk X G ce 264 119 120 (by kernel_rfl) (by kernel_rfl) (b2 λ_ _=>rfl))
  (fm (fk X G ce 264 126 127 (by kernel_rfl) (by kernel_rfl) (b2 λ_ _=>rfl))
  (fm (fk X G ce 264 131 132 (by kernel_rfl) (by kernel_rfl) (b1 λ_=>rfl))
  (fm (fk X G ce 264 145 146 (by kernel_rfl) (by kernel_rfl) (b3 λ_ _ _=>rfl))
  (fm (fk X G nl 377 152 153 (by kernel_rfl) (by kernel_rfl) (b2 λ_ _=>rfl))
  (fm (fk X G nl 377 157 158 (by kernel_rfl) (by kernel_rfl) (b4 λ_ _ _ _=>rfl))
  (fm (fk X G nl 377 164 165 (by kernel_rfl) (by kernel_rfl) (b2 λ_ _=>rfl))
  (fm (fk X G nl 377 171 172 (by kernel_rfl) (by kernel_rfl) (b3 λ_ _ _=>rfl))
  (fm (fk X G lm 415 178 179 (by kernel_rfl) (by kernel_rfl) (b2 λ_ _=>rfl))
  (fm (fk X G lm 415 185 186 (by kernel_rfl) (by kernel_rfl) (b2 λ_ _=>rfl))
  (fm (fk X G lm 415 192 193 (by kernel_rfl) (by kernel_rfl) (b2 λ_ _=>rfl))
  (fm (fk X G lm 415 199 200 (by kernel_rfl) (by kernel_rfl) (b1 λ_=>rfl))
  (fm (fk X G lm 415 206 207 (by kernel_rfl) (by kernel_rfl) (b1 λ_=>rfl))
  (fm (fk X G lm 415 218 219 (by kernel_rfl) (by kernel_rfl) (b1 λ_=>rfl))
  (fm (fk X G lm 415 225 226 (by kernel_rfl) (by kernel_rfl) (b1 λ_=>rfl))
  (fm (fk X G lm 415 232 233 (by kernel_rfl) (by kernel_rfl) (b3 λ_ _ _=>rfl))
  (fm (fk X G lm 415 239 240 (by kernel_rfl) (by kernel_rfl) (b3 λ_ _ _=>rfl))
  (fm (fk X G lm 415 246 247 (by kernel_rfl) (by kernel_rfl) (b4 λ_ _ _ _=>rfl))
  (fm (fk X G lm 415 251 252 (by kernel_rfl) (by kernel_rfl) (b3 λ_ _ _=>rfl))
  (fm (fk X G lm 415 258 259 (by kernel_rfl) (by kernel_rfl) (b3 λ_ _ _=>rfl))
  (fm (fk X G lm 415 263 264 (by kernel_rfl) (by kernel_rfl) (b1 λ_=>rfl))
  (fm (fk X G lm 415 268 269 (by kernel_rfl) (by kernel_rfl) (b2 λ_ _=>rfl))
  (fm (fk X G lm 415 275 276 (by kernel_rfl) (by kernel_rfl) (b3 λ_ _ _=>rfl))
  (fm (fk X G lm 415 280 281 (by kernel_rfl) (by kernel_rfl) (b1 λ_=>rfl))
  (λ_ h=>by cases h))))))))))))))))))))))))))))))))))))))) (fm (fC X G 224 (by kernel_rfl))
  (fm (fC X G 189 (by kernel_rfl))
  (fm (fC X G 228 (by kernel_rfl))
  (fm (fC X G 230 (by kernel_rfl))
  (λ_ h=>by cases h)))))
  (λx k=>PySem.W.mg_none_of X G (wA (aba.mp (by kernel_rfl:(pl.nog.all λx=>F1 (PySem.W.nsIn (KK w.params) mainGlobals x))=true) x k)))
  (λz i=>have q:=an2 (aba.mp (by kernel_rfl:(pl.fld.all λz=>HE (KK w.params) (av (KK w.params) z.1)&&F1 (PySem.W.findIn (KK w.params) (.ref (av (KK w.params) z.1)) z.2))=true) z i);⟨wB q.1,wA q.2⟩)
 have e:=c.symm.trans (abP X G (by kernel_rfl:PySem.W.nsIn (KK w.params) mainGlobals lw=some (some (.ref 281))));cases e;have F:Fun (KK w.params) D_law.name D_law.qual D_law.st 281 _:=ki (by kernel_rfl:(KK w.params).lookup 281=some (fo D_law lm 415 280)) (by kernel_rfl) (by kernel_rfl);exact⟨_,λs v=>.of_eq rfl,λa _ _=>M.law (n:=8) (j:=Fd) (d:=D_law) rfl F pure⟩
def walk{l:PySem.W.OpenLaw}{q:Program}{loose:List Str}{XP:(Str->Option Value)->Heap->Prop}{YP:World->Heap->Prop}{d:DefRec}{K:Params->Waa}(p:l.most=some 63)(e:d.params.defaults=[])
  (j:∀(w:World) (h:Heap),YP w h->(K w.params).In h)
  (F:∀(w:World) (c:Str->Option Value) (i:Addr) (h:Heap),(K w.params).In h->h.Ns mainGlobals c->c d.name=some (.ref i) ->
   ∃g:FuncData,(∀(s:Shared) (u:Value),BindsTo s g ⟨[u],[]⟩ [(hR,u)])/\∀b:Heap,(K w.params).In b->b.Ns mainGlobals c->FnOk l.prog w (K w.params) c b CX0 9 i g [hR] (wz (K w.params))):
  PySem.W.WalkO q loose XP YP l.row.toRowW d [] (λf vs=>PySem.call f vs):=
 L2.walk_of (n:=63) (k:=9) (x:=hR) (CX:=λ_=>CX0) (sp:=λw=>wz (K w.params)) p (by decide) e ⟨rfl,by decide,by decide,rfl⟩ j F (λ_ _ a o r _ m=>⟨a,o,rfl,m,r,λ_=>rfl⟩) λ_ _ _ _ _ z=>z
end Np
open PySem PySem.W PyProof.Rows
set_option maxRecDepth 100000 in
set_option maxHeartbeats 0 in
theorem PySem.Challenge.cw_nearpool_k27_rows_that_settle_holds : PySem.Challenge.rw_nearpool_k27_rows_that_settle.Holds := by
 w_on
 refine holds_law Np.said λa=>?_;refine holds_open (q:=Np.qv) (loose:=[]) (Xt:=Np.xt) (XP:=XL Np.qv []) (Yf:=Hook.obs Np.hk) (Ya:=Hook.val Np.hk) (YP:=Hook.says Np.hk) (N:=3082) (d:=Np.dd) (kwd:=[]) Np.left (Hook.of Np.hk) (Hook.keeps Np.hk) (λs e=>xl_of s (abm.mp e).1) XL.keeps (by kernel_rfl) (by kernel_rfl) (by kernel_rfl) (λs e=>recFacts_of (abm.mp e).2) (by rfl) a (by kernel_rfl) ⟨rfl,rfl,rfl,rfl,rfl,by decide +kernel⟩ ?hw ?hc
 case hw=>w_witness2
 case hc=>exact Np.walk (l:=PySem.Challenge.rw_nearpool_k27_rows_that_settle) (K:=Np.KK) (d:=Np.dd) rfl (by kernel_rfl) (λw h Y=>kIn_of Y) (λw f g h c G b=>Np.gives c G b)
