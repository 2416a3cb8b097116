import PyProof.Rows.All
import Wide.All
import OpenK.AllK
import Wide.FinOn
import Lean
import PyProof.EqAt
import PyProof.EqKinds
import PyProof.TupleCall
import PyProof.Draws
import PyProof.ZipIter
import PyProof.Rows.ListRangeD
import PyProof.EnumFor
import PyProof.EnumStmt
import PyProof.EnumMake
import PyProof.AutoListH
import PyProof.RangeFor
import PyProof.Rows.Range3
import KE.KUnpack
import PyProof.ReprRoads
import PyProof.ReprLen
import PyProof.FitsInt
import PyProof.DictCompW
import KE.KDictSum
import PyProof.NeKinds
import PyProof.SumWalk
import PySem.Challenge.RW_nearpool_k16_pools_laid_late
set_option compiler.extract_closed false
set_option genSizeOf false
set_option Elab.async false
set_option linter.all false
set_option maxRecDepth 100000
noncomputable section
namespace L2
open PySem PySem.Spec PyProof.Rows
section
abbrev Key:=Sum Int Str
def keyIs:Key->Value->Bool
 | .inl k,v=>Value.isInt k v
 | .inr x,v=>Value.isStrOf x v
def keyH(w:World):Key->Int
 | .inl k=>hashInt k
 | .inr x=>hashStr w x
theorem aL:∀{k:Key} {v:Value},keyIs k v=true->(∃i t,k=Sum.inl i/\v=Value.int i t)\/(∃x t,k=Sum.inr x/\v=Value.str x t)
 | .inl i,v,h=>by
  obtain⟨t,e⟩:=Value.isInt_shape (k:=i) (v:=v) h
  exact .inl ⟨i,t,rfl,e⟩
 | .inr x,v,h=>by
  obtain⟨t,e⟩:=Value.isStrOf_shape (x:=x) (v:=v) h
  exact .inr ⟨x,t,rfl,e⟩
theorem oP(i:Int)(t:Tok):keyIs (.inl i) (.int i t)=true:=by simp[keyIs,Value.isInt]
theorem oQ(x:Str)(t:Tok):keyIs (.inr x) (.str x t)=true:=by simp[keyIs,Value.isStrOf]
theorem wZ(a b:Int):decide ((Sum.inl a:Key)=Sum.inl b)=(a == b):=by
 by_cases e:a=b
 ·subst e;simp
 ·have h:¬ (Sum.inl a:Key)=Sum.inl b:=fun q=>e (Sum.inl.inj q)
  rw[decide_eq_false h]
  exact (beq_eq_false_iff_ne.mpr e).symm
theorem w8(a b:Str):decide ((Sum.inr a:Key)=Sum.inr b)=decide (a=b):=by
 by_cases e:a=b
 ·subst e;simp
 ·have h:¬ (Sum.inr a:Key)=Sum.inr b:=fun q=>e (Sum.inr.inj q)
  rw[decide_eq_false h,decide_eq_false e]
theorem w9(a:Int)(b:Str):decide ((Sum.inl a:Key)=Sum.inr b)=false:=decide_eq_false (fun q=>nomatch q)
theorem xc(a:Str)(b:Int):decide ((Sum.inr a:Key)=Sum.inl b)=false:=decide_eq_false (fun q=>nomatch q)
def aT(prog:Program)(w:World):PySem.KeyKind prog w Key where
 is:=keyIs
 hash:=keyH w
 inj:=fun v a b ha hb=>by
  rcases aL ha with ⟨i,t,rfl,rfl⟩ | ⟨x,t,rfl,rfl⟩
  ·rcases aL hb with ⟨j,u,rfl,e⟩ | ⟨y,u,rfl,e⟩
   ·injection e with e1 _;rw[e1]
   ·exact nomatch e
  ·rcases aL hb with ⟨j,u,rfl,e⟩ | ⟨y,u,rfl,e⟩
   ·exact nomatch e
   ·injection e with e1 _;rw[e1]
 byValue:=fun k v h=>by
  rcases aL h with ⟨i,t,rfl,rfl⟩ | ⟨x,t,rfl,rfl⟩<;>rfl
 pyHash:=fun hv h=>by
  rcases aL hv with ⟨i,t,rfl,rfl⟩ | ⟨x,t,rfl,rfl⟩
  ·exact wpAny_pyHash_int h
  ·exact wpAny_pyHash_str h
 eqBool:=fun hu hv h=>by
  rcases aL hu with ⟨i,t,rfl,rfl⟩ | ⟨x,t,rfl,rfl⟩
  ·rcases aL hv with ⟨j,u,rfl,rfl⟩ | ⟨y,u,rfl,rfl⟩
   ·rw[wZ]at h;exact wpAny_eqBool_int h
   ·rw[w9]at h;exact SeqAt.EqAt.int_str i t y u _ _ _ _ h
  ·rcases aL hv with ⟨j,u,rfl,rfl⟩ | ⟨y,u,rfl,rfl⟩
   ·rw[xc]at h;exact SeqAt.EqAt.str_int x t j u _ _ _ _ h
   ·rw[w8]at h;exact wpAny_eqBool_str h
 «strs»:=fun k x t v h=>by
  rcases aL h with ⟨i,u,rfl,e⟩ | ⟨y,u,rfl,e⟩
  ·exact nomatch e
  ·injection e with e1 _
   subst e1
   cases v<;>rfl
theorem j6(prog:Program)(w:World)(i:Int)(t:Tok):(aT prog w).is (.inl i) (.int i t)=true:=oP i t
theorem j7(prog:Program)(w:World)(x:Str)(t:Tok):(aT prog w).is (.inr x) (.str x t)=true:=oQ x t
end
section
inductive V where
 | non | bl (b:Bool) | int (i:Int) | str (x:Str) | byt (b:Array UInt8) | flt (b:UInt64) | ref (a:Addr) | ty (n:String)
 deriving DecidableEq
def RelV:V->Value->Prop
 | .non,u=>u=Value.none
 | .bl b,u=>u=Value.bool b
 | .int i,u=>∃t,u=Value.int i t
 | .str x,u=>∃t,u=Value.str x t
 | .byt b,u=>∃t,u=Value.bytes b t
 | .flt b,u=>∃t,u=Value.float b t
 | .ref a,u=>u=Value.ref a
 | .ty n,u=>u=Value.type n
abbrev Vals:List V->List Value->Prop:=Paired RelV
theorem Vals.length{xs:List V}{us:List Value}(r:Vals xs us):xs.length=us.length:=Paired.length r
theorem Vals.get:∀{xs:List V} {us:List Value} {i:Nat} {x:V},Vals xs us->xs[i]?=some x->∃u,us[i]?=some u/\RelV x u
 | _,_,_,_,.nil,e=>by simp at e
 | _,_,0,_,.cons r _,e=>by simp at e;subst e;exact⟨_,rfl,r⟩
 | _,_,i + 1,x,.cons _ t,e=>by
  obtain⟨u,h1,h2⟩:=Vals.get (i:=i) (x:=x) t (by simpa using e)
  exact⟨u,by simpa using h1,h2⟩
theorem Vals.set{x:V}{u:Value}(r:RelV x u):∀{xs:List V} {us:List Value} (i:Nat),Vals xs us->Vals (xs.set i x) (us.set i u)
 | _,_,_,.nil=>.nil
 | _,_,0,.cons _ t=>.cons r t
 | _,_,i + 1,.cons q t=>.cons q (Vals.set r i t)
theorem Vals.append:∀{xs ys:List V} {us ws:List Value},Vals xs us->Vals ys ws->Vals (xs++ys) (us++ws)
 | _,_,_,_,.nil,s=>s
 | _,_,_,_,.cons r t,s=>.cons r (Vals.append t s)
def RelO:Option V->Option Value->Prop
 | some v,some u=>RelV v u
 | none,none=>True
 | _,_=>False
def KV{κ:Type}:List (κ × V)->List (κ × Value)->Prop:=Paired fun (p:κ × V) (q:κ × Value)=>p.1=q.1/\RelV p.2 q.2
def kV:Key->V
 | .inl i=>.int i
 | .inr x=>.str x
inductive HO where
 | lst (xs:List V)
 | tup (xs:List V)
 | dK (kvs:List (Key × V)) | dT (kvs:List (List Key × V))
 | set (S:Int->Bool) (n:Nat)
 | ins (C dx:Addr) (fs:List (Str × V))
 | own (x:Addr)
 | xd (fs:List (Str × V))
 | met (f x:Addr)
 | rng (lo hi:Int)
 | frz (o:Obj) (u:HO)
 | tbl (ps:Array Value)
 | ext (φ:Heap->Prop)
abbrev Hp:=Addr->Option HO
def upd(H:Hp)(a:Addr)(o:HO):Hp:=fun b=>if b=a then some o else H b
theorem aj{H:Hp}{a:Addr}{o:HO}:upd H a o a=some o:=by unfold upd;rw[if_pos rfl]
theorem upd_ne{H:Hp}{a b:Addr}{o:HO}(h:b≠a):upd H a o b=H b:=by unfold upd;rw[if_neg h]
theorem zQ{H:Hp}{a b:Addr}{o u:HO}(h:H a=some o)(h':H b=some u)(d:o≠u):a≠b:=by
 intro e;subst e;rw[h]at h';exact d (Option.some.inj h')
theorem ak{H:Hp}{a b:Addr}{o:HO}(h:H a=some o)(h':H b=none):a≠b:=by
 intro e;subst e;rw[h]at h';cases h'
section
variable(P:Program)(w:World)
def ObjOk(H:Hp)(h:Heap)(a:Addr):HO->Prop
 | .lst xs=>xs.length≤sizeLine/\∃(its:List Value) (n:Nat),Vals xs its/\h.get? a=some { cls:=.type "list",data:=.seq its.toArray n }
 | .tup xs=>xs.length≤sizeLine/\∃its:List Value,Vals xs its/\IsTup h a its.toArray
 | .dK kvs=>kvs.length≤sizeLine/\(a == sysModules)=false/\∃vs,KV kvs vs/\h.DictOf (aT P w) a vs
 | .dT kvs=>kvs.length≤sizeLine/\(a == sysModules)=false/\∃xs:List (List Key × Addr × Value),
   Paired (fun (p:List Key × V) (q:List Key × Addr × Value)=>p.1=q.1/\H q.2.1=some (.tup (p.1.map kV))/\RelV p.2 q.2.2) kvs xs /\
   ∃o es ep,h.get? a=some o/\o.ExactDict/\o.data=.dict es ep/\es.toList=xs.map (entryOfKey (tupleKind (aT P w)))/\(xs.map (·.1)).Nodup
 | .set S n=>h.SetOf (intKind P w) a S n
 | .ins C dx fs=>H dx=some (.own a)/\fs.length≤1000/\dx≠a/\h.get? a=some (PySem.W.instObj C dx) /\
   ∃mA,h.Ns1 dx mA/\(∀f,RelO (fs.lookup f) (mA f))/\PySem.Within mA (fs.map (·.1))
 | .own _=>∃o,h.get? a=some o
 | .xd fs=>∃mA,h.Ns1 a mA/\∀f,RelO (fs.lookup f) (mA f)
 | .rng lo hi=>∃t u v,h.get? a=some { cls:=.type "range",data:=.fields #[.int lo t,.int hi u,.int 1 v] }
 | .frz o u=>h.get? a=some o/\ObjOk H h a u
 | .tbl ps=>h.get? a=some { cls:=.none,data:=.fields ps }
 | .met f x=>h.get? a=some (PySem.W.methodObj (.ref f) (.ref x))
 | .ext φ=>φ h/\(∃o,h.get? a=some o)/\∀h1 h2:Heap,φ h1->(∀o,h1.get? a=some o->h2.get? a=some o)->φ h2
def HOk(H:Hp)(h:Heap):Prop:=∀a o,H a=some o->ObjOk P w H h a o
end
section
variable{P:Program}{w:World}{H H':Hp}{h h':Heap}{a:Addr}{o:HO}
theorem ObjOk.lt(x:ObjOk P w H h a o):a < h.objs.size:=by
 cases o with
 | lst xs=>obtain⟨_,_,_,_,e⟩:=x;exact Heap.lt_size e
 | tup xs=>obtain⟨_,_,_,p⟩:=x;exact p.lt
 | dK kvs=>obtain⟨_,_,_,_,o,_,_,e,_⟩:=x;exact Heap.lt_size e
 | dT kvs=>obtain⟨_,_,_,_,o,_,_,e,_⟩:=x;exact Heap.lt_size e
 | set S n=>obtain⟨o,_,_,_,e,_⟩:=x;exact Heap.lt_size e
 | ins C dx fs=>obtain⟨_,_,_,e,_⟩:=x;exact Heap.lt_size e
 | own y=>obtain⟨_,e⟩:=x;exact Heap.lt_size e
 | xd fs=>obtain⟨_,⟨_,_,_,e,_⟩,_⟩:=x;exact Heap.lt_size e
 | rng lo hi=>obtain⟨_,_,_,e⟩:=x;exact Heap.lt_size e
 | frz ob u=>obtain⟨e,_⟩:=x;exact Heap.lt_size e
 | tbl ps=>exact Heap.lt_size (show h.get? a=some _ from x)
 | met f y=>exact Heap.lt_size (show h.get? a=some _ from x)
 | ext φ=>obtain⟨_,⟨_,e⟩,_⟩:=x;exact Heap.lt_size e
theorem Paired.mapP{α β:Type}{F G:α->β->Prop}:∀{l₁:List α} {l₂:List β},Paired F l₁ l₂->(∀a b,F a b->G a b)->Paired G l₁ l₂
 | _,_,.nil,_=>.nil
 | _,_,.cons r t,f=>.cons (f _ _ r) (Paired.mapP t f)
theorem ObjOk.stay(x:ObjOk P w H h a o)(k:∀b u,(b=a\/H b=some (.own a))->h.get? b=some u->h'.get? b=some u)
  (ho:∀b,H b=some (.own a)->H' b=some (.own a)) (ht:∀b xs,H b=some (.tup xs)->H' b=some (.tup xs)):ObjOk P w H' h' a o:=by
 induction o with
 | lst xs=>obtain⟨z,its,n,r,e⟩:=x;exact⟨z,its,n,r,k _ _ (.inl rfl) e⟩
 | tup xs=>obtain⟨z,its,r,ob,e,c⟩:=x;exact⟨z,its,r,ob,k _ _ (.inl rfl) e,c⟩
 | dK kvs=>obtain⟨z,y,vs,r,ob,es,ep,e,c⟩:=x;exact⟨z,y,vs,r,ob,es,ep,k _ _ (.inl rfl) e,c⟩
 | dT kvs =>
  obtain⟨z,y,xs,r,ob,es,ep,e,c⟩:=x
  exact⟨z,y,xs,Paired.mapP r fun p q z=>⟨z.1,ht _ _ z.2.1,z.2.2⟩,ob,es,ep,k _ _ (.inl rfl) e,c⟩
 | set S n=>obtain⟨ob,es,ep,t,e,c⟩:=x;exact⟨ob,es,ep,t,k _ _ (.inl rfl) e,c⟩
 | ins C dx fs =>
  obtain⟨d,z,ne,e,mA,⟨od,es,ep,e2,c⟩,r⟩:=x
  exact⟨ho _ d,z,ne,k _ _ (.inl rfl) e,mA,⟨od,es,ep,k _ _ (.inr d) e2,c⟩,r⟩
 | own y=>obtain⟨ob,e⟩:=x;exact⟨ob,k _ _ (.inl rfl) e⟩
 | xd fs=>obtain⟨mA,⟨od,es,ep,e,c⟩,r⟩:=x;exact⟨mA,⟨od,es,ep,k _ _ (.inl rfl) e,c⟩,r⟩
 | rng lo hi=>obtain⟨t,u,v,e⟩:=x;exact⟨t,u,v,k _ _ (.inl rfl) e⟩
 | frz ob u ih=>obtain⟨e,q⟩:=x;exact⟨k _ _ (.inl rfl) e,ih q⟩
 | tbl ps =>
  have e:h.get? a=some { cls:=.none,data:=.fields ps }:=x
  show h'.get? a=some { cls:=.none,data:=.fields ps }
  exact k a _ (.inl rfl) e
 | met f y =>
  have e:h.get? a=some (PySem.W.methodObj (.ref f) (.ref y)):=x
  show h'.get? a=some (PySem.W.methodObj (.ref f) (.ref y))
  exact k a _ (.inl rfl) e
 | ext φ=>obtain⟨p,⟨o,e⟩,st⟩:=x;exact⟨st _ _ p fun o q=>k _ _ (.inl rfl) q,⟨o,k _ _ (.inl rfl) e⟩,st⟩
theorem HOk.lt(x:HOk P w H h)(e:H a=some o):a < h.objs.size:=(x a o e).lt
theorem HOk.fresh(x:HOk P w H h)(e:h.objs.size≤a):H a=none:=by
 cases q:H a with
 | none=>rfl
 | some u=>exact absurd (Nat.lt_of_lt_of_le (x.lt q) e) (Nat.lt_irrefl _)
theorem HOk.kept(x:HOk P w H h)(k:∀b u,h.get? b=some u->h'.get? b=some u):HOk P w H h':=fun a o e =>
 (x a o e).stay (fun b u _ q=>k b u q) (fun _ q=>q) fun _ _ q=>q
theorem HOk.laid(x:HOk P w H h)(k:∀b u,h.get? b=some u->h'.get? b=some u)(hp:h.objs.size≤a)(new:ObjOk P w (upd H a o) h' a o):HOk P w (upd H a o) h':=fun b u e=>by
 have hn:=x.fresh hp
 by_cases hb:b=a
 ·subst hb;rw[aj]at e;cases e;exact new
 ·rw[upd_ne hb]at e
  exact (x b u e).stay (fun c v _ q=>k c v q) (fun c q=>by rw[upd_ne (ak q hn)];exact q) fun c xs q=>by rw[upd_ne (ak q hn)];exact q
end
def Rd(H:Hp)(a:Addr)(u:HO):Prop:=H a=some u\/∃o,H a=some (.frz o u)
theorem Rd.ok{P:Program}{w:World}{H:Hp}{h:Heap}{a:Addr}{u:HO}(r:Rd H a u)(x:HOk P w H h):ObjOk P w H h a u:=by
 rcases r with r | ⟨o,r⟩
 ·exact x a u r
 ·obtain⟨_,q⟩:=x a _ r
  exact q
def zR:Option HO->Prop
 | some (.lst _)=>True
 | some (.dK _)=>True
 | some (.dT _)=>True
 | some (.set _ _)=>True
 | some (.ins _ _ _)=>True
 | some (.ext _)=>True
 | _=>False
section
variable{P:Program}{w:World}{H:Hp}{h h':Heap}{x e:Addr}{o':HO}
theorem HOk.write(ok:HOk P w H h)(mu:zR (H x))(he:e=x\/H e=some (.own x))(k:∀b u,b≠e->h.get? b=some u->h'.get? b=some u)(heo:∃u,h'.get? e=some u)
  (new:ObjOk P w (upd H x o') h' x o'):HOk P w (upd H x o') h':=fun b u q=>by
 have nown:∀c y,H c=some (.own y)->c≠x:=fun c y r z=>by subst z;rw[r]at mu;exact mu
 have ntup:∀c xs,H c=some (.tup xs)->c≠x:=fun c xs r z=>by subst z;rw[r]at mu;exact mu
 by_cases hb:b=x
 ·subst hb;rw[aj]at q;cases q;exact new
 ·rw[upd_ne hb]at q
  by_cases hbe:b=e
  ·have q':H b=some (.own x):=by
    rcases he with z | z
    ·exact absurd (hbe.trans z) hb
    ·rw[hbe];exact z
   rw[q]at q';cases q'
   obtain⟨v,hv⟩:=heo
   exact⟨v,by rw[hbe];exact hv⟩
  ·refine (ok b u q).stay (fun c v hc r=>k c v ?_ r) (fun c r=>by rw[upd_ne (nown c b r)];exact r) fun c xs r=>by rw[upd_ne (ntup c xs r)];exact r
   rcases hc with rfl | hc
   ·exact hbe
   ·rintro rfl
    rcases he with z | z
    ·exact nown c b hc z
    ·rw[hc]at z;cases z;exact hb rfl
end
structure Un (fs ex:List Addr)(H H':Hp)(h h':Heap):Prop where
 keep:∀b o,h.get? b=some o->H b=none->b ∉ fs->b ∉ ex->h'.get? b=some o
 slot:∀b o,h.get? b=some o->H b=none->b∈fs->b ∉ ex->∃sl,h'.get? b=some { o with slots:=sl }
 free:∀b o,h.get? b=some o->H b=none->b ∉ ex->H' b=none
 there:∀b o,h.get? b=some o->b ∉ ex->∃o',h'.get? b=some o'
 tups:∀b xs,H b=some (.tup xs)->H' b=some (.tup xs)
 frzs:∀b o u,H b=some (.frz o u)->H' b=some (.frz o u)
 tbls:∀b ps,H b=some (.tbl ps)->∃more,H' b=some (.tbl (ps++more))
section
variable{fs fs' ex ex':List Addr}{H H1 H2:Hp}{h h1 h2 h':Heap}{a x e:Addr}{o:HO}
theorem Un.any(u:Un fs ex H H1 h h1){b:Addr}{ob:Obj}(q:h.get? b=some ob)(n:H b=none)(hx:b ∉ ex):∃sl,h1.get? b=some { ob with slots:=sl }:=by
 by_cases hb:b∈fs
 ·exact u.slot b ob q n hb hx
 ·exact⟨ob.slots,u.keep b ob q n hb hx⟩
theorem Un.kept(k:∀b u,h.get? b=some u->h'.get? b=some u):Un fs ex H H h h' :=
 ⟨fun b ob q _ _ _=>k b ob q,fun b ob q _ _ _=>⟨ob.slots,k b ob q⟩,fun _ _ _ n _=>n,fun b ob q _=>⟨ob,k b ob q⟩,fun _ _ q=>q,fun _ _ _ q=>q,fun _ ps q=>⟨#[],by rw[q];simp⟩⟩
theorem Un.refl:Un fs ex H H h h:=Un.kept fun _ _ q=>q
theorem Un.laid(k:∀b u,h.get? b=some u->h'.get? b=some u)(hp:h.objs.size≤a)(hn:H a=none):Un fs ex H (upd H a o) h h' where
 keep:=fun b u q _ _ _=>k b u q
 slot:=fun b u q _ _ _=>⟨u.slots,k b u q⟩
 free:=fun b u q n _=>by rw[upd_ne (Nat.ne_of_lt (Nat.lt_of_lt_of_le (Heap.lt_size q) hp))];exact n
 there:=fun b u q _=>⟨u,k b u q⟩
 tups:=fun b xs q=>by rw[upd_ne (ak q hn)];exact q
 frzs:=fun b u xs q=>by rw[upd_ne (ak q hn)];exact q
 tbls:=fun b ps q=>⟨#[],by rw[upd_ne (ak q hn),q];simp⟩
theorem Un.write(mu:zR (H x))(he:e=x\/H e=some (.own x))(k:∀b u,b≠e->h.get? b=some u->h'.get? b=some u)(heo:∃u,h'.get? e=some u):Un fs ex H (upd H x o) h h':=by
 have hx:∀b,H b=none->b≠x:=fun b n z=>by subst z;rw[n]at mu;exact mu
 have hb:∀b,H b=none->b≠e:=fun b n z=>by
  subst z
  rcases he with r | r
  ·exact hx b n r
  ·rw[n]at r;cases r
 have hm:∀b u,H b=some u->¬ zR (some u)->b≠x:=fun b u q nm z=>by subst z;rw[q]at mu;exact nm mu
 refine⟨fun b u q n _ _=>k b u (hb b n) q,fun b u q n _ _=>⟨u.slots,k b u (hb b n) q⟩,fun b u q n _=>by rw[upd_ne (hx b n)];exact n,fun b u q _=>?_,
  fun b xs q=>by rw[upd_ne (hm b _ q fun z=>z)];exact q,fun b u xs q=>by rw[upd_ne (hm b _ q fun z=>z)];exact q,fun b ps q=>⟨#[],by rw[upd_ne (hm b _ q fun z=>z),q];simp⟩⟩
 by_cases hbe:b=e
 ·subst hbe;exact heo
 ·exact⟨u,k b u hbe q⟩
end
def trk(h:Heap)(H:Hp):List Addr:=(List.range h.objs.size).filter fun a=>(H a).isSome
def je(h:Heap)(H:Hp):Heap:=PySem.W.hideAll h (trk h H)
theorem oR(h:Heap)(H:Hp):(je h H).objs.size=h.objs.size:=PySem.W.hideAll_size _ _
theorem hidT_get{h:Heap}{H:Hp}{b:Addr}{o:Obj}(e:h.get? b=some o)(n:H b=none):(je h H).get? b=some o :=
 PySem.W.hideAll_get _ e fun hm=>by
  have q:(H b).isSome=true:=(List.mem_filter.mp hm).2
  rw[n]at q;simp at q
theorem ue{h:Heap}{H:Hp}{b:Addr}{o:Obj}(e:(je h H).get? b=some o):h.get? b=some o/\H b=none:=by
 have e':h.get? b=some o:=PySem.W.of_hideAll (trk h H) e
 refine⟨e',?_⟩
 cases q:H b with
 | none=>rfl
 | some x =>
  have hm:b∈trk h H:=List.mem_filter.mpr ⟨List.mem_range.mpr (Heap.lt_size e'),by simp[q]⟩
  have z:(je h H).get? b=none:=PySem.W.hideAll_none (trk h H) hm
  rw[z]at e;cases e
end
section
structure Mod (K:PySem.W.Frag)(mg:Str->Option Value)(base:Heap):Prop where
 kin:K.In base
 glob:base.Ns mainGlobals mg
 blt:∃mb,base.Ns builtinsNs mb/\∀x:Str,x≠"__name__"->mb x=bootBuiltins x
 nolimit:base.NoLimit
structure Cx where
 prog:Program
 w:World
 K:PySem.W.Frag
 mg:Str->Option Value
 base:Heap
 A:Around
 N:List Str
 s₀:Shared
 H₀:Hp
 env:Env
 outer:List Env
 stack:List Env
 ex:List Addr
 fn:Str->Bool
 calm:Bool
 pn:List (Addr × Obj)
 xe:Value->Shared->Prop
def qg(l:List Env):List Addr:=l.filterMap (·.frame)
abbrev Cx.fs(X:Cx):List Addr:=qg X.outer
def Vis(sc:Scope)(x:Str):Prop:=sc.names.lookup x=some .local\/sc.names.lookup x=some .cell\/sc.names.lookup x=some .free
def Loc(sc:Scope)(x:Str):Prop:=sc.names.lookup x=some .local\/sc.names.lookup x=some .cell
def Look(env:Env)(h:Heap)(m:Str->Option Value)(x:Str)(u:Value):Prop :=
 (env.kindOf x=some .local/\m x=some u)\/((env.kindOf x=some .cell\/env.kindOf x=some .free)/\∃c,env.cells.lookup x=some c/\h.IsCell c (some u))
structure Cx.Ok (X:Cx):Prop where
 mod:Mod X.K X.mg X.base
 kind:X.env.scope.kind=.function
 glob:X.env.globals=mainGlobals
 blt:X.env.builtins=builtinsNs
 above:X.s₀.heap.objs.size≤X.env.locals
 inj:∀x y c,X.env.cells.lookup x=some c->X.env.cells.lookup y=some c->x=y
 has:∀x,(X.env.kindOf x=some .cell\/X.env.kindOf x=some .free)->∃c,X.env.cells.lookup x=some c
 cab:∀x c,X.fn x=true->X.env.cells.lookup x=some c->X.s₀.heap.objs.size≤c
 hd:X.calm=true->X.A.handled=none
 frames:X.A.frames=some X.stack
 stk:X.stack=X.outer\/(X.stack=X.env::X.outer/\X.env.frame=some X.env.locals)
 exf:∀b∈X.ex,b≠X.env.locals/\∀x c,X.env.cells.lookup x=some c->c≠b
 bs:∀b o,X.base.get? b=some o->X.s₀.heap.get? b=some o/\X.H₀ b=none
 bsz:X.base.objs.size≤X.s₀.heap.objs.size
 noex:∀b o,X.base.get? b=some o->b ∉ X.ex
 exfs:∀b∈X.ex,b ∉ X.fs
 funs:X.s₀.heap.FunFrames X.base X.outer
 frf:∀b∈X.fs,X.H₀ b=none
structure Inv (X:Cx)(pins:List (Addr × Obj))(σ:List (Option V))(H:Hp)(s:Shared):Prop where
 ok:X.Ok
 os:s.os=X.s₀.os
 bare:AllBare s.gens
 base:Un X.fs X.ex X.H₀ H X.s₀.heap s.heap
 loc:∃m,s.heap.Ns X.env.locals m/\∀(i:Nat) (x:Str) (v:V),X.N[i]?=some x->σ[i]?=some (some v)->Vis X.env.scope x->∃u,RelV v u/\Look X.env s.heap m x u
 cell:∀x c,X.env.cells.lookup x=some c->∃v,s.heap.IsCell c v
 free:H X.env.locals=none
 freeC:∀x c,X.env.cells.lookup x=some c->H c=none
 pin:∀p∈X.pn++pins,s.heap.get? p.1=some p.2/\H p.1=none/\p.1≠X.env.locals/\p.1 ∉ X.fs/\∀v,p.2.data≠.cell v
 hok:HOk X.prog X.w H s.heap
 len:σ.length=X.N.length
section
variable{X:Cx}{pins:List (Addr × Obj)}{σ:List (Option V)}{H H':Hp}{s:Shared}{h':Heap}
theorem Cx.Ok.nofr(ok:X.Ok){b:Addr}{o:Obj}(e:X.base.get? b=some o):b ∉ X.fs:=fun hb=>by
 have:=(ok.funs.mem hb).1
 rw[e]at this;cases this
theorem Inv.bs(I:Inv X pins σ H s):∀b o,X.base.get? b=some o->s.heap.get? b=some o/\H b=none:=fun b o e =>
 ⟨I.base.keep b o (I.ok.bs b o e).1 (I.ok.bs b o e).2 (I.ok.nofr e) (I.ok.noex b o e),I.base.free b o (I.ok.bs b o e).1 (I.ok.bs b o e).2 (I.ok.noex b o e)⟩
theorem Inv.bk(I:Inv X pins σ H s):∀b o,X.base.get? b=some o->s.heap.get? b=some o:=fun b o e=>(I.bs b o e).1
theorem Inv.mod(I:Inv X pins σ H s):Mod X.K X.mg X.base:=I.ok.mod
theorem Inv.kIn(I:Inv X pins σ H s):X.K.In s.heap:=I.ok.mod.kin.keeps I.bk
theorem Inv.fr(I:Inv X pins σ H s):∃m,Fr X.base X.env.locals s.heap m :=
 let ⟨m,hn,_⟩:=I.loc
 ⟨m,hn,I.bk,Nat.le_trans I.ok.bsz I.ok.above⟩
theorem Inv.lt(I:Inv X pins σ H s):X.env.locals < s.heap.objs.size:=let ⟨_,hn,_⟩:=I.loc;hn.lt
theorem Inv.sz(I:Inv X pins σ H s):X.s₀.heap.objs.size≤s.heap.objs.size:=Nat.le_trans I.ok.above (Nat.le_of_lt I.lt)
theorem Inv.nofs(I:Inv X pins σ H s){a:Addr}(h:s.heap.objs.size≤a):a ∉ X.fs:=fun hb=>by
 obtain⟨_,o,ho,_⟩:=I.ok.funs.mem hb
 exact absurd (Nat.lt_of_lt_of_le (Heap.lt_size ho) (Nat.le_trans I.sz h)) (Nat.lt_irrefl _)
theorem Inv.cne(I:Inv X pins σ H s):∀x c,X.env.cells.lookup x=some c->c≠X.env.locals:=fun x c e z=>by
 obtain⟨v,o,ho,hd⟩:=I.cell x c e
 obtain⟨m,⟨o',es,ep,ho',hd',_⟩,_⟩:=I.loc
 rw[z,ho']at ho;cases ho;rw[hd']at hd;cases hd
theorem Inv.funs(I:Inv X pins σ H s):s.heap.FunFrames X.base X.outer:=by
 have all:∀(l:List Env),(∀b∈qg l,b∈X.fs)->X.s₀.heap.FunFrames X.base l->s.heap.FunFrames X.base l:=by
  intro l
  induction l with
  | nil=>intro _ _;trivial
  | cons env r ih =>
   intro hs hl
   obtain⟨hk,⟨L,o,hf,hn,ho,hd⟩,hr⟩:=hl
   have hL:L∈X.fs:=hs L (by unfold qg;rw[List.filterMap_cons,hf];exact List.mem_cons_self)
   obtain⟨sl,e⟩:=I.base.slot L o ho (I.ok.frf L hL) hL fun z=>I.ok.exfs L z hL
   exact⟨hk,⟨L,_,hf,hn,e,hd⟩,ih (fun b hb=>hs b (by unfold qg;rw[List.filterMap_cons,hf];exact List.mem_cons_of_mem _ hb)) hr⟩
 exact all X.outer (fun _ hb=>hb) I.ok.funs
theorem Inv.stack(I:Inv X pins σ H s):s.heap.FunFrames X.base X.stack:=by
 rcases I.ok.stk with e | ⟨e,hf⟩
 ·rw[e];exact I.funs
 ·rw[e]
  obtain⟨m,hn,_⟩:=I.loc
  refine .cons (by rw[I.ok.kind];decide) hf hn ?_ I.funs
  exact Heap.get?_none_of_le (Nat.le_trans I.ok.bsz I.ok.above)
theorem Inv.stkSub(I:Inv X pins σ H s):∀b∈qg X.stack,b∈X.env.locals::X.fs:=fun b hb=>by
 rcases I.ok.stk with e | ⟨e,hf⟩
 ·rw[e]at hb;exact List.mem_cons_of_mem _ hb
 ·rw[e]at hb
  unfold qg at hb
  rw[List.filterMap_cons,hf]at hb
  exact hb
theorem Inv.stkFree(I:Inv X pins σ H s):∀b∈qg X.stack,H b=none:=fun b hb=>by
 rcases List.mem_cons.mp (I.stkSub b hb) with e | hb
 ·rw[e];exact I.free
 ·obtain⟨_,o,ho,_⟩:=I.ok.funs.mem hb
  exact I.base.free b o ho (I.ok.frf b hb) fun z=>I.ok.exfs b z hb
theorem Inv.step{g':Array GenState}{t':Nat}{d':Drawn}{ch:List Addr}(I:Inv X pins σ H s)
  (hch:∀b∈ch,(b∈X.ex\/X.s₀.heap.objs.size≤b)/\b≠X.env.locals/\(∀x c,X.env.cells.lookup x=some c->c≠b)/\∀p∈X.pn++pins,p.1≠b)
  (keep:∀b o,b≠X.env.locals->b ∉ X.fs->b ∉ ch->s.heap.get? b=some o->H b=none->h'.get? b=some o)
  (slot:∀b o,b≠X.env.locals->b∈X.fs->b ∉ ch->s.heap.get? b=some o->H b=none->∃sl,h'.get? b=some { o with slots:=sl }) (free:∀b o,b ∉ ch->s.heap.get? b=some o->H b=none->H' b=none)
  (there:∀b o,b ∉ ch->s.heap.get? b=some o->∃o',h'.get? b=some o')
  (tups:∀b xs,H b=some (.tup xs)->H' b=some (.tup xs)) (frzs:∀b o u,H b=some (.frz o u)->H' b=some (.frz o u)) (tbls:∀b ps,H b=some (.tbl ps)->∃more,H' b=some (.tbl (ps++more)))
  (ns:∀m,s.heap.Ns X.env.locals m->h'.Ns X.env.locals m) (hok:HOk X.prog X.w H' h') (hg:AllBare g') :
  Inv X pins σ H' { s with heap:=h',gens:=g',drawn:=d',toks:=t' }:=by
 have neL:∀b o,X.s₀.heap.get? b=some o->b≠X.env.locals:=fun b o e=>Nat.ne_of_lt (Nat.lt_of_lt_of_le (Heap.lt_size e) I.ok.above)
 have neC:∀b o,X.s₀.heap.get? b=some o->b ∉ X.ex->b ∉ ch:=fun b o e hx hb=>by
  rcases (hch b hb).1 with z | z
  ·exact hx z
  ·exact absurd (Nat.lt_of_lt_of_le (Heap.lt_size e) z) (Nat.lt_irrefl _)
 have cellK:∀x c,X.env.cells.lookup x=some c->∀v,s.heap.IsCell c v->h'.IsCell c v:=fun x c e v ⟨o,ho,hd⟩=>by
  have nch:c ∉ ch:=fun z=>(hch c z).2.2.1 x c e rfl
  by_cases hc:c∈X.fs
  ·obtain⟨sl,q⟩:=slot c o (I.cne x c e) hc nch ho (I.freeC x c e)
   exact⟨_,q,hd⟩
  ·exact⟨o,keep c o (I.cne x c e) hc nch ho (I.freeC x c e),hd⟩
 refine⟨I.ok,I.os,hg,⟨fun b o e n hb hx=>?_,fun b o e n hb hx=>?_,fun b o e n hx=>?_,fun b o e hx=>?_,fun b xs e=>tups b xs (I.base.tups b xs e),fun b o xs e=>frzs b o xs (I.base.frzs b o xs e),fun b ps e=>?_⟩,?_,fun x c e=>?_,?_,fun x c e=>?_,fun p hp=>?_,hok,I.len⟩
 ·exact keep b o (neL b o e) hb (neC b o e hx) (I.base.keep b o e n hb hx) (I.base.free b o e n hx)
 ·obtain⟨sl,e1⟩:=I.base.slot b o e n hb hx
  obtain⟨sl',e2⟩:=slot b _ (neL b o e) hb (neC b o e hx) e1 (I.base.free b o e n hx)
  exact⟨sl',e2⟩
 ·obtain⟨o',e1⟩:=I.base.there b o e hx
  exact free b o' (neC b o e hx) e1 (I.base.free b o e n hx)
 ·obtain⟨o',e1⟩:=I.base.there b o e hx
  exact there b o' (neC b o e hx) e1
 ·obtain⟨m1,e1⟩:=I.base.tbls b ps e
  obtain⟨m2,e2⟩:=tbls b _ e1
  exact⟨m1++m2,by rw[e2,Array.append_assoc]⟩
 ·obtain⟨m,hn,hl⟩:=I.loc
  refine⟨m,ns m hn,fun i x v e1 e2 e3=>?_⟩
  obtain⟨u,r,l⟩:=hl i x v e1 e2 e3
  refine⟨u,r,?_⟩
  rcases l with l | ⟨k,c,e,z⟩
  ·exact .inl l
  ·exact .inr ⟨k,c,e,cellK x c e _ z⟩
 ·obtain⟨v,z⟩:=I.cell x c e
  exact⟨v,cellK x c e v z⟩
 ·obtain⟨m,⟨o,_,_,ho,_⟩,_⟩:=I.loc
  exact free _ o (fun z=>(hch _ z).2.1 rfl) ho I.free
 ·obtain⟨v,o,ho,hd⟩:=I.cell x c e
  exact free c o (fun z=>(hch c z).2.2.1 x c e rfl) ho (I.freeC x c e)
 ·obtain⟨e,n,ne,nf,d⟩:=I.pin p hp
  have nch:p.1 ∉ ch:=fun z=>(hch p.1 z).2.2.2 p hp rfl
  exact⟨keep p.1 p.2 ne nf nch e n,free p.1 p.2 nch e n,ne,nf,d⟩
theorem Inv.un{t':Nat}(I:Inv X pins σ H s)(u:Un X.fs [] H H' s.heap h')(hok:HOk X.prog X.w H' h'):Inv X pins σ H' { s with heap:=h',toks:=t' }:=by
 obtain⟨m,⟨o,es,ep,ho,r⟩,_⟩:=id I.loc
 obtain⟨sl,hL⟩:=u.any ho I.free (by simp)
 exact I.step (g':=s.gens) (d':=s.drawn) (ch:=[]) (fun _ z=>nomatch z) (fun b o _ hb _ e n=>u.keep b o e n hb (by simp)) (fun b o _ hb _ e n=>u.slot b o e n hb (by simp)) (fun b o _ e n=>u.free b o e n (by simp)) (fun b o _ e=>u.there b o e (by simp)) u.tups u.frzs u.tbls (fun m' hm=>by
  obtain⟨o',es',ep',ho',r'⟩:=hm
  rw[ho]at ho';cases ho'
  exact⟨_,es',ep',hL,r'⟩) hok I.bare
theorem Inv.call{g':Array GenState}{t':Nat}{d':Drawn}{ch:List Addr}(I:Inv X pins σ H s)(u:Un (qg X.stack) ch H H' s.heap h')(hok:HOk X.prog X.w H' h')(hg:AllBare g')
  (hch:∀b∈ch,(b∈X.ex\/X.s₀.heap.objs.size≤b)/\b≠X.env.locals/\(∀x c,X.env.cells.lookup x=some c->c≠b)/\∀p∈X.pn++pins,p.1≠b) :
  Inv X pins σ H' { s with heap:=h',gens:=g',drawn:=d',toks:=t' }:=by
 obtain⟨m,⟨o,es,ep,ho,r⟩,_⟩:=id I.loc
 obtain⟨sl,hL⟩:=u.any ho I.free fun z=>(hch _ z).2.1 rfl
 exact I.step (ch:=ch) hch (fun b o hL hb hc e n=>u.keep b o e n (fun z=>(List.mem_cons.mp (I.stkSub b z)).elim hL hb) hc) (fun b o _ _ hc e n=>u.any e n hc) (fun b o hc e n=>u.free b o e n hc) (fun b o hc e=>u.there b o e hc) u.tups u.frzs u.tbls (fun m' hm=>by
  obtain⟨o',es',ep',ho',r'⟩:=hm
  rw[ho]at ho';cases ho'
  exact⟨_,es',ep',hL,r'⟩) hok hg
theorem Inv.turned{t':Nat}{it:Addr}(I:Inv X pins σ H s)(k:∀b o,b≠it->s.heap.get? b=some o->h'.get? b=some o)(hn:H it=none)(hL:it≠X.env.locals)
  (h1:it∈X.ex\/X.s₀.heap.objs.size≤it) (h2:∀x c,X.env.cells.lookup x=some c->c≠it) (h3:∀p∈X.pn++pins,p.1≠it):Inv X pins σ H { s with heap:=h',toks:=t' }:=by
 have nit:∀b u,H b=some u->b≠it:=fun b u e z=>by rw[z,hn]at e;cases e
 refine I.step (g':=s.gens) (d':=s.drawn) (ch:=[it]) (fun b hb=>?_) (fun b o _ _ hc e _=>k b o (fun z=>hc (by simp[z])) e) (fun b o _ _ hc e _=>⟨o.slots,k b o (fun z=>hc (by simp[z])) e⟩) (fun _ _ _ _ n=>n)
  (fun b o hc e=>⟨o,k b o (fun z=>hc (by simp[z])) e⟩) (fun _ _ e=>e) (fun _ _ _ e=>e) (fun b ps e=>⟨#[],by rw[e];simp⟩) (fun m hm=>?_) (fun b u e=>?_) I.bare
 ·have e:b=it:=by simpa using hb
  subst e
  exact⟨h1,hL,h2,h3⟩
 ·obtain⟨o,es,ep,ho,r⟩:=hm
  exact⟨o,es,ep,k _ o (Ne.symm hL) ho,r⟩
 ·refine (I.hok b u e).stay (fun c v hc q=>k c v ?_ q) (fun _ q=>q) fun _ _ q=>q
  rcases hc with z | z
  ·rw[z];exact nit b u e
  ·exact nit c _ z
theorem Inv.tok(I:Inv X pins σ H s)(t:Nat):Inv X pins σ H { s with toks:=t }:=I.un (h':=s.heap) (t':=t) Un.refl I.hok
theorem Inv.kept{t':Nat}(I:Inv X pins σ H s)(k:∀b u,s.heap.get? b=some u->h'.get? b=some u):Inv X pins σ H { s with heap:=h',toks:=t' }:=I.un (Un.kept k) (I.hok.kept k)
theorem Inv.laid{a:Addr}{o:HO}{t':Nat}(I:Inv X pins σ H s)(k:∀b u,s.heap.get? b=some u->h'.get? b=some u)(hp:s.heap.objs.size≤a)(new:ObjOk X.prog X.w (upd H a o) h' a o) :
  Inv X pins σ (upd H a o) { s with heap:=h',toks:=t' }:=I.un (Un.laid k hp (I.hok.fresh hp)) (I.hok.laid k hp new)
theorem Inv.write{x e:Addr}{o:HO}{t':Nat}(I:Inv X pins σ H s)(mu:zR (H x))(he:e=x\/H e=some (.own x))(k:∀b u,b≠e->s.heap.get? b=some u->h'.get? b=some u)(heo:∃u,h'.get? e=some u)
  (new:ObjOk X.prog X.w (upd H x o) h' x o):Inv X pins σ (upd H x o) { s with heap:=h',toks:=t' }:=I.un (Un.write mu he k heo) (I.hok.write mu he k heo new)
theorem Inv.pins_of{pins':List (Addr × Obj)}(I:Inv X pins σ H s)(h:∀p∈pins',s.heap.get? p.1=some p.2/\H p.1=none/\p.1≠X.env.locals/\p.1 ∉ X.fs/\∀v,p.2.data≠.cell v):Inv X pins' σ H s :=
 ⟨I.ok,I.os,I.bare,I.base,I.loc,I.cell,I.free,I.freeC,fun p hp=>(List.mem_append.mp hp).elim (fun z=>I.pin p (List.mem_append_left _ z)) (h p),I.hok,I.len⟩
theorem j8{N:List Str}(hN:N.Nodup){i j:Nat}{x:Str}(a:N[i]?=some x)(b:N[j]?=some x):i=j:=by
 obtain⟨h1,e1⟩:=List.getElem?_eq_some_iff.mp a
 obtain⟨h2,e2⟩:=List.getElem?_eq_some_iff.mp b
 exact (List.getElem_inj hN).mp (e1.trans e2.symm)
theorem iL{M:Model}{A:Around}{E:Value->Shared->Prop}{i:Nat}{x:Str}{v:V}{u:Value}{Q:Unit->Shared->Prop}(I:Inv X pins σ H s)(hN:X.N.Nodup)(hi:X.N[i]?=some x)(hx:Loc X.env.scope x)(r:RelV v u)
  (h:∀s',Inv X pins (σ.set i (some v)) H s'->(∃a,Heap.SameBut a s.heap s'.heap/\(a=X.env.locals\/X.env.cells.lookup x=some a))->Q () s') (hf:X.fn x=true\/X.env.scope.names.lookup x=some .local:=by first | exact .inl rfl | exact .inr rfl | assumption):wpAny M A (storeName X.env x u) Q E s:=by
 obtain⟨m,hn,hl⟩:=id I.loc
 have hcls:(X.env.scope.kind == .class || (X.env.scope.kind == .module && X.env.locals != X.env.globals))=false:=by rw[I.ok.kind];rfl
 have hiσ:i < σ.length:=by rw[I.len];exact (List.getElem?_eq_some_iff.mp hi).1
 have cne:=I.cne
 have tracked:∀{a:Addr} {h':Heap},(∃o,s.heap.get? a=some o/\H a=none)->Heap.SameBut a s.heap h'->HOk X.prog X.w H h':=fun {a h'} ha hs b ob e=>by
  obtain⟨_,_,hfree⟩:=ha
  refine (I.hok b ob e).stay (fun c w' hc q=>(hs.2 c ?_).trans q) (fun _ q=>q) fun _ _ q=>q
  rintro rfl
  rcases hc with rfl | hc
  ·rw[hfree]at e;cases e
  ·rw[hfree]at hc;cases hc
 rcases hx with hk | hk
 ·refine wpAny_storeName_local hk hn (fun h' hn' hs=>?_) hcls
  obtain⟨oL,_,_,hoL,_⟩:=id hn
  refine h _ ⟨I.ok,I.os,I.bare,⟨fun b o e n hb hx=>?_,fun b o e n hb hx=>?_,I.base.free,fun b o e hx=>?_,I.base.tups,I.base.frzs,I.base.tbls⟩,⟨_,hn',fun j y v' e1 e2 e3=>?_⟩,fun y c e=>?_,I.free,I.freeC,fun p hp=>?_,tracked ⟨oL,hoL,I.free⟩ hs,by simpa using I.len⟩ ⟨_,hs,.inl rfl⟩
  ·exact (hs.2 b (Nat.ne_of_lt (Nat.lt_of_lt_of_le (Heap.lt_size e) I.ok.above))).trans (I.base.keep b o e n hb hx)
  ·obtain⟨sl,e1⟩:=I.base.slot b o e n hb hx
   exact⟨sl,(hs.2 b (Nat.ne_of_lt (Nat.lt_of_lt_of_le (Heap.lt_size e) I.ok.above))).trans e1⟩
  ·obtain⟨o',e1⟩:=I.base.there b o e hx
   exact⟨o',(hs.2 b (Nat.ne_of_lt (Nat.lt_of_lt_of_le (Heap.lt_size e) I.ok.above))).trans e1⟩
  ·by_cases hj:j=i
   ·subst hj
    rw[hi]at e1;cases e1
    rw[List.getElem?_set_self hiσ]at e2
    cases e2
    exact⟨u,r,.inl ⟨hk,by simp⟩⟩
   ·rw[List.getElem?_set_ne (Ne.symm hj)]at e2
    obtain⟨u',r',q⟩:=hl j y v' e1 e2 e3
    refine⟨u',r',?_⟩
    rcases q with ⟨k,e⟩ | ⟨k,c,e,z⟩
    ·refine .inl ⟨k,?_⟩
     have:y≠x:=fun e=>hj (j8 hN e1 (e ▸ hi))
     simp[this,e]
    ·exact .inr ⟨k,c,e,z.sameBut hs (cne y c e)⟩
  ·obtain⟨w',z⟩:=I.cell y c e
   exact⟨w',z.sameBut hs (cne y c e)⟩
  ·obtain⟨e,n,ne,nf,d⟩:=I.pin p hp
   exact⟨(hs.2 p.1 ne).trans e,n,ne,nf,d⟩
 ·have hfn:X.fn x=true:=by
   rcases hf with z | z
   ·exact z
   ·rw[z]at hk;cases hk
  obtain⟨c,hc⟩:=I.ok.has x (.inl hk)
  obtain⟨w',z⟩:=I.cell x c hc
  refine wpAny_storeName_cell I.ok.kind hk hc z (fun h' hc' hs=>?_)
  obtain⟨oc,hoc,hocd⟩:=id z
  refine h { s with heap:=h' } ⟨I.ok,I.os,I.bare,⟨fun b o e n hb hx=>?_,fun b o e n hb hx=>?_,I.base.free,fun b o e hx=>?_,I.base.tups,I.base.frzs,I.base.tbls⟩,⟨m,hn.sameBut hs (Ne.symm (cne x c hc)),fun j y v' e1 e2 e3=>?_⟩,fun y c' e=>?_,I.free,I.freeC,fun p hp=>?_,tracked ⟨oc,hoc,I.freeC x c hc⟩ hs,by simpa using I.len⟩ ⟨c,hs,.inr hc⟩
  ·exact (hs.2 b (Nat.ne_of_lt (Nat.lt_of_lt_of_le (Heap.lt_size e) (I.ok.cab x c hfn hc)))).trans (I.base.keep b o e n hb hx)
  ·obtain⟨sl,e1⟩:=I.base.slot b o e n hb hx
   exact⟨sl,(hs.2 b (Nat.ne_of_lt (Nat.lt_of_lt_of_le (Heap.lt_size e) (I.ok.cab x c hfn hc)))).trans e1⟩
  ·obtain⟨o',e1⟩:=I.base.there b o e hx
   exact⟨o',(hs.2 b (Nat.ne_of_lt (Nat.lt_of_lt_of_le (Heap.lt_size e) (I.ok.cab x c hfn hc)))).trans e1⟩
  ·by_cases hj:j=i
   ·subst hj
    rw[hi]at e1;cases e1
    rw[List.getElem?_set_self hiσ]at e2
    cases e2
    exact⟨u,r,.inr ⟨.inl hk,c,hc,hc'⟩⟩
   ·rw[List.getElem?_set_ne (Ne.symm hj)]at e2
    obtain⟨u',r',q⟩:=hl j y v' e1 e2 e3
    refine⟨u',r',?_⟩
    rcases q with q | ⟨k,c',e,z'⟩
    ·exact .inl q
    ·refine .inr ⟨k,c',e,z'.sameBut hs ?_⟩
     rintro rfl
     exact hj (j8 hN e1 (I.ok.inj _ _ _ e hc ▸ hi))
  ·by_cases hcc:c'=c
   ·subst hcc;exact⟨_,hc'⟩
   ·obtain⟨w2,z2⟩:=I.cell y c' e
    exact⟨w2,z2.sameBut hs hcc⟩
  ·obtain⟨e,n,ne,nf,d⟩:=I.pin p hp
   refine⟨(hs.2 p.1 ?_).trans e,n,ne,nf,d⟩
   intro q
   rw[q,hoc]at e
   have q':oc=p.2:=Option.some.inj e
   exact d w' (by rw[<- q'];exact hocd)
theorem bL{M:Model}{A:Around}{E:Value->Shared->Prop}{i:Nat}{x:Str}{v:V}{u:Value}{Q:Unit->Shared->Prop}(I:Inv X pins σ H s)(hN:X.N.Nodup)(hi:X.N[i]?=some x)(hx:Loc X.env.scope x)(r:RelV v u)
  (h:∀s',Inv X pins (σ.set i (some v)) H s'->Q () s') (hf:X.fn x=true\/X.env.scope.names.lookup x=some .local:=by first | exact .inl rfl | exact .inr rfl | assumption):wpAny M A (storeName X.env x u) Q E s :=
 iL I hN hi hx r (fun s' I' _=>h s' I') hf
theorem Inv.call'{s':Shared}{ch:List Addr}(I:Inv X pins σ H s)(ho:s'.os=s.os)(u:Un (qg X.stack) ch H H' s.heap s'.heap)(hok:HOk X.prog X.w H' s'.heap)(hg:AllBare s'.gens)
  (hch:∀b∈ch,(b∈X.ex\/X.s₀.heap.objs.size≤b)/\b≠X.env.locals/\(∀x c,X.env.cells.lookup x=some c->c≠b)/\∀p∈X.pn++pins,p.1≠b):Inv X pins σ H' s':=by
 obtain⟨h',g',d',t',o'⟩:=s'
 have e:o'=s.os:=ho
 subst e
 exact I.call (g':=g') (t':=t') (d':=d') u hok hg hch
end
abbrev XK:=Value->Option Addr->Hp->Prop
abbrev St:=List (Option V)
abbrev VK:=V->Hp->Prop
abbrev TE:=St->Hp->VK->Prop
abbrev TT:=St->Hp->(Bool->Hp->Prop)->Prop
abbrev TA:=St->Hp->(List V->Hp->Prop)->Prop
structure Ends where
 nx:St->Hp->Prop
 rt:VK
 bk:St->Hp->Prop:=fun _ _=>False
 ct:St->Hp->Prop:=fun _ _=>False
abbrev TS:=Ends->St->Hp->Prop
def EP(X:Cx)(pins:List (Addr × Obj))(σ:St)(Q:VK)(u:Value)(s':Shared):Prop:=∃v H',Inv X pins σ H' s'/\RelV v u/\Q v H'
def TP(X:Cx)(pins:List (Addr × Obj))(σ:St)(Q:Bool->Hp->Prop)(b:Bool)(s':Shared):Prop:=∃H',Inv X pins σ H' s'/\Q b H'
def AP(X:Cx)(pins:List (Addr × Obj))(σ:St)(Q:List V->Hp->Prop)(us:List Value)(s':Shared):Prop:=∃vs H',Inv X pins σ H' s'/\Vals vs us/\Q vs H'
def SP(X:Cx)(pins:List (Addr × Obj))(D:Ends)(f:Flow)(s':Shared):Prop :=
 match f with
 | .next=>∃σ' H',Inv X pins σ' H' s'/\D.nx σ' H'
 | .brk=>∃σ' H',Inv X pins σ' H' s'/\D.bk σ' H'
 | .cont=>∃σ' H',Inv X pins σ' H' s'/\D.ct σ' H'
 | .ret u=>∃v σ' H',Inv X pins σ' H' s'/\RelV v u/\D.rt v H'
def PE(X:Cx)(e:Expr)(t:TE):Prop :=
 ∀(pins:List (Addr × Obj)) (s:Shared) (σ:St) (H:Hp) (Q:VK),Inv X pins σ H s->t σ H Q->wpAny (model X.prog X.w) X.A (eval e X.env) (EP X pins σ Q) X.xe s
def PT(X:Cx)(e:Expr)(t:TT):Prop :=
 ∀(pins:List (Addr × Obj)) (s:Shared) (σ:St) (H:Hp) (Q:Bool->Hp->Prop),Inv X pins σ H s->t σ H Q->wpAny (model X.prog X.w) X.A (isTrue e X.env (eval e X.env)) (TP X pins σ Q) X.xe s
def PW(X:Cx)(e:Expr)(t:TT):Prop :=
 ∀(whole:Sem Value) (pins:List (Addr × Obj)) (s:Shared) (σ:St) (H:Hp) (Q:Bool->Hp->Prop),Inv X pins σ H s->t σ H Q->wpAny (model X.prog X.w) X.A (isTrue e X.env whole) (TP X pins σ Q) X.xe s
theorem PW.pt{X:Cx}{e:Expr}{t:TT}(h:PW X e t):PT X e t:=h _
def PA(X:Cx)(es:List Expr)(t:TA):Prop :=
 ∀(pos:Pos) (pins:List (Addr × Obj)) (s:Shared) (σ:St) (H:Hp) (Q:List V->Hp->Prop),Inv X pins σ H s->t σ H Q->wpAny (model X.prog X.w) X.A (spliced (backTo pos (starEach es X.env))) (AP X pins σ Q) X.xe s
def PS(X:Cx)(st:Stmt)(t:TS):Prop :=
 ∀(pins:List (Addr × Obj)) (s:Shared) (σ:St) (H:Hp) (D:Ends),Inv X pins σ H s->t D σ H->wpAny (model X.prog X.w) X.A (exec st X.env) (SP X pins D) X.xe s
def PSs(X:Cx)(st:List Stmt)(t:TS):Prop :=
 ∀(pins:List (Addr × Obj)) (s:Shared) (σ:St) (H:Hp) (D:Ends),Inv X pins σ H s->t D σ H->wpAny (model X.prog X.w) X.A (execs st X.env) (SP X pins D) X.xe s
theorem thn{α:Type}{t:Sem α}{Q Q':α->Shared->Prop}{M:Model}{A:Around}{E:Value->Shared->Prop}{s:Shared}(h:wpAny M A t Q E s)(hQ:∀a s,Q a s->Q' a s):wpAny M A t Q' E s:=wpAny_mono h hQ fun _ _ x=>x
end
section
section
variable{X:Cx}
def tVar(i:Nat):TE:=fun σ H Q=>∃v,σ[i]?=some (some v)/\Q v H
def tC(v:V):TE:=fun _ H Q=>Q v H
theorem aX {i:Nat} {x:Str} {pos:Pos} (hN:X.N[i]?=some x) (hv:Vis X.env.scope x) (hd:(x == ("__debug__":Str))=false:=by decide) (hcd:(x == ("__classdict__":Str))=false:=by decide):PE X (.Name x pos) (tVar i):=by
 intro pins s σ H Q I h
 obtain⟨v,e,h⟩:=h
 obtain⟨m,hn,hl⟩:=I.loc
 obtain⟨u,r,l⟩:=hl i x v hN e hv
 have fin:EP X pins σ Q u s:=⟨v,H,I,r,h⟩
 rcases l with ⟨hk,hm⟩ | ⟨hk,c,hc,hcell⟩
 ·exact wpAny_Name (wpAny_loadName_local I.ok.kind hk hn hm fin) hd
 ·rcases hk with hk | hk
  ·exact wpAny_Name (wpAny_loadName_cell I.ok.kind hk hc hcell fin) hd
  ·exact wpAny_Name (wpAny_loadName_free I.ok.kind hk hc hcell fin hcd) hd
theorem gK{i j pos}:PE X (.Constant (.int i) j pos) (tC (.int i)):=fun _ _ _ H _ I h=>wpAny_Constant_int ⟨.int i,H,I.tok _,⟨_,rfl⟩,h⟩
theorem zS{b j pos}:PE X (.Constant (.bool b) j pos) (tC (.bl b)):=fun _ _ _ H _ I h=>Constant_bool ⟨.bl b,H,I,rfl,h⟩
theorem xf{x j pos}:PE X (.Constant (.str x) j pos) (tC (.str x)):=fun _ _ _ H _ I h=>Calls.Constant_str ⟨.str x,H,I.tok _,⟨_,rfl⟩,h⟩
def Gl(X:Cx)(x:Str):Prop:=X.env.kindOf x=some .globalImplicit
theorem jf{E:Value->Shared->Prop}{pins:List (Addr × Obj)}{s:Shared}{σ:St}{H:Hp}{x:Str}{u:Value}{pos:Pos}{Q:Value->Shared->Prop}(I:Inv X pins σ H s)(hg:Gl X x)(hm:X.mg x=some u)(h:Q u s)
  (hd:(x == ("__debug__":Str))=false:=by decide):wpAny (model X.prog X.w) X.A (eval (.Name x pos) X.env) Q E s :=
 Calls.Name_function_global I.ok.kind hg (Calls.loadGlobal_global (by rw[I.ok.glob];exact I.mod.glob.keeps I.bk) hm h) hd
theorem fG{E:Value->Shared->Prop}{pins:List (Addr × Obj)}{s:Shared}{σ:St}{H:Hp}{x:Str}{u:Value}{pos:Pos}{Q:Value->Shared->Prop}(I:Inv X pins σ H s)(hg:Gl X x)(hm:X.mg x=none)(hv:bootBuiltins x=some u)(h:Q u s)
  (hn:x≠"__name__":=by decide) (hd:(x == ("__debug__":Str))=false:=by decide):wpAny (model X.prog X.w) X.A (eval (.Name x pos) X.env) Q E s:=by
 obtain⟨mb,h1,h2⟩:=I.mod.blt
 exact Calls.Name_function_global I.ok.kind hg (Calls.loadGlobal_builtin (by rw[I.ok.glob];exact I.mod.glob.keeps I.bk) hm (by rw[I.ok.blt];exact h1.keeps I.bk) ((h2 x hn).trans hv) h) hd
theorem uf {x:Str} {v:V} {u:Value} {pos:Pos} (hg:Gl X x) (hm:X.mg x=some u) (r:RelV v u) (hd:(x == ("__debug__":Str))=false:=by decide):PE X (.Name x pos) (tC v) :=
 fun _ _ _ H _ I h=>jf I hg hm ⟨v,H,I,r,h⟩ hd
theorem ug {x:Str} {v:V} {u:Value} {pos:Pos} (hg:Gl X x) (hm:X.mg x=none) (hv:bootBuiltins x=some u) (r:RelV v u) (hn:x≠"__name__":=by decide) (hd:(x == ("__debug__":Str))=false:=by decide):PE X (.Name x pos) (tC v) :=
 fun _ _ _ H _ I h=>fG I hg hm hv ⟨v,H,I,r,h⟩ hn hd
variable{a b:Expr}{ta tb:TE}{pos:Pos}
def PC(X:Cx)(op:CmpOp)(a b:Expr)(t:TE):Prop :=
 ∀(pins:List (Addr × Obj)) (s:Shared) (σ:St) (H:Hp) (Q:VK),Inv X pins σ H s->t σ H Q ->
  wpAny (model X.prog X.w) X.A (eval a X.env) (fun v s₁=>wpAny (model X.prog X.w) X.A (eval b X.env) (fun u s₂=>wpAny (model X.prog X.w) X.A (compareOp op v u) (EP X pins σ Q) X.xe s₂) X.xe s₁) X.xe s
theorem nobehind(b:Expr){op:CmpOp}(h:op≠.In)(h2:op≠.NotIn):behindInMarks op b=false:=by
 have e1:(op == CmpOp.In)=false:=by cases op<;>first | rfl | exact absurd rfl h
 have e2:(op == CmpOp.NotIn)=false:=by cases op<;>first | rfl | exact absurd rfl h2
 cases b<;>simp[behindInMarks,e1,e2]
def CO(ta:TE):TE:=fun σ H Q=>ta σ H fun x H1=>Q (.bl (decide (x=.non))) H1
def zT(ta:TE):TE:=fun σ H Q=>ta σ H fun x H1=>Q (.bl (!decide (x=.non))) H1
theorem RelV.none_iff{x:V}{v:Value}(r:RelV x v):(v == Value.none)=decide (x=.non):=by
 cases x with
 | non=>cases r;rfl
 | bl _=>cases r;rfl
 | int _=>obtain⟨t,rfl⟩:=r;rfl
 | str _=>obtain⟨t,rfl⟩:=r;rfl
 | byt _=>obtain⟨t,rfl⟩:=r;rfl
 | flt _=>obtain⟨t,rfl⟩:=r;rfl
 | ref _=>cases r;rfl
 | ty _=>cases r;rfl
theorem qh{j pos'}(ha:PE X a ta):PC X .Is a (.Constant .none j pos') (CO ta):=by
 intro pins s σ H Q I h
 refine thn (ha pins s σ H _ I h) fun v s1 hZ=>?_
 obtain⟨x,H1,I1,r1,q1⟩:=hZ
 exact Constant_none (is_none_gen ⟨.bl _,H1,I1,by rw[r1.none_iff];rfl,q1⟩)
theorem mI{j pos'}(ha:PE X a ta):PC X .IsNot a (.Constant .none j pos') (zT ta):=by
 intro pins s σ H Q I h
 refine thn (ha pins s σ H _ I h) fun v s1 hZ=>?_
 obtain⟨x,H1,I1,r1,q1⟩:=hZ
 exact Constant_none (isnot_none_gen ⟨.bl _,H1,I1,by rw[r1.none_iff];rfl,q1⟩)
def tB(t:TE):TT:=fun σ H Q=>t σ H fun x H1=>∃c,x=.bl c/\Q c H1
theorem qi{op:CmpOp}{t:TE}(h:PC X op a b t)(h1:behindInMarks op b=false:=by first | exact nobehind _ (by decide) (by decide) | rfl):PE X (.Compare a [op] [b] pos) t:=fun pins s σ H Q I hw=>wpAny_Compare1 (h pins s σ H Q I hw) h1
theorem qj{op:CmpOp}{t:TE}(h:PC X op a b t)(h1:behindInMarks op b=false:=by first | exact nobehind _ (by decide) (by decide) | rfl):PT X (.Compare a [op] [b] pos) (tB t):=by
 intro pins s σ H Q I hw
 refine wpAny_isTrue_Compare1 (thn (h pins s σ H _ I hw) fun v s1 h1=>thn h1 fun u s2 h2=>thn h2 fun c s3 hZ=>?_) h1
 obtain⟨x,H1,I1,r1,q1⟩:=hZ
 obtain⟨d,rfl,q⟩:=q1
 cases r1
 exact wpAny_truthy_bool ⟨H1,I1,q⟩
variable{tA tB':TT}{rest:List Expr}
def CP(t u:TT):TT:=fun σ H Q=>t σ H fun c H1=>if c=true then u σ H1 Q else Q false H1
def EF(t u:TT):TT:=fun σ H Q=>t σ H fun c H1=>if c=true then Q true H1 else u σ H1 Q
def CQ(t:TT):TT:=fun σ H Q=>t σ H fun c H1=>Q (!c) H1
theorem ui(ha:PT X a tA):PW X (.BoolOp .And [a] pos) tA:=by
 intro wh pins s σ H Q I h
 refine isTrue_and (thn (ha pins s σ H Q I h) fun c s1 e=>?_)
 cases c with
 | true=>exact isTrue_and_nil e
 | false=>exact e
theorem xg(ha:PT X a tA):PW X (.BoolOp .Or [a] pos) tA:=by
 intro wh pins s σ H Q I h
 refine isTrue_or (thn (ha pins s σ H Q I h) fun c s1 e=>?_)
 cases c with
 | false=>exact isTrue_or_nil e
 | true=>exact e
theorem xh(ha:PT X a tA)(hb:PW X (.BoolOp .And (b::rest) pos) tB'):PW X (.BoolOp .And (a::b::rest) pos) (CP tA tB'):=by
 intro wh pins s σ H Q I h
 refine isTrue_and (thn (ha pins s σ H _ I h) fun c s1 hZ=>?_)
 obtain⟨H1,I1,q1⟩:=hZ
 cases c with
 | true=>exact hb wh pins s1 σ H1 Q I1 q1
 | false=>exact⟨H1,I1,q1⟩
theorem zU(ha:PT X a tA)(hb:PW X (.BoolOp .Or (b::rest) pos) tB'):PW X (.BoolOp .Or (a::b::rest) pos) (EF tA tB'):=by
 intro wh pins s σ H Q I h
 refine isTrue_or (thn (ha pins s σ H _ I h) fun c s1 hZ=>?_)
 obtain⟨H1,I1,q1⟩:=hZ
 cases c with
 | true=>exact⟨H1,I1,q1⟩
 | false=>exact hb wh pins s1 σ H1 Q I1 q1
theorem xi(ha:PT X a tA):PT X (.UnaryOp .Not a pos) (CQ tA):=by
 intro pins s σ H Q I h
 exact isTrue_not (ha pins s σ H (fun c H1=>Q (!c) H1) I h)
def zV(ta tb:TE):TE:=fun σ H Q=>ta σ H fun x H1=>∃c,x=.bl c/\if c=true then tb σ H1 Q else Q (.bl false) H1
def CS(ta tb:TE):TE:=fun σ H Q=>ta σ H fun x H1=>∃c,x=.bl c/\if c=true then Q (.bl true) H1 else tb σ H1 Q
def zW(ta:TE):TE:=fun σ H Q=>ta σ H fun x H1=>∃c,x=.bl c/\Q (.bl (!c)) H1
theorem xj{op}{t:TE}(h:PE X a t):PE X (.BoolOp op [a] pos) t:=fun pins s σ H Q I hw=>BoolOp_one (h pins s σ H Q I hw)
theorem xk(ha:PE X a ta)(hb:PE X (.BoolOp .And (b::rest) pos) tb):PE X (.BoolOp .And (a::b::rest) pos) (zV ta tb):=by
 intro pins s σ H Q I h
 refine BoolOp_and (thn (ha pins s σ H _ I h) fun v s1 hZ=>?_)
 obtain⟨x,H1,I1,r1,q1⟩:=hZ
 obtain⟨c,rfl,q1⟩:=q1
 cases r1
 refine wpAny_truthy_bool ?_
 cases c with
 | true=>exact hb pins s1 σ H1 Q I1 q1
 | false=>exact⟨.bl false,H1,I1,rfl,q1⟩
theorem zX(ha:PE X a ta)(hb:PE X (.BoolOp .Or (b::rest) pos) tb):PE X (.BoolOp .Or (a::b::rest) pos) (CS ta tb):=by
 intro pins s σ H Q I h
 refine BoolOp_or (thn (ha pins s σ H _ I h) fun v s1 hZ=>?_)
 obtain⟨x,H1,I1,r1,q1⟩:=hZ
 obtain⟨c,rfl,q1⟩:=q1
 cases r1
 refine wpAny_truthy_bool ?_
 cases c with
 | false=>exact hb pins s1 σ H1 Q I1 q1
 | true=>exact⟨.bl true,H1,I1,rfl,q1⟩
theorem xl(ha:PE X a ta):PE X (.UnaryOp .Not a pos) (zW ta):=by
 intro pins s σ H Q I h
 refine UnaryOp_ (thn (ha pins s σ H _ I h) fun v s1 hZ=>?_)
 obtain⟨x,H1,I1,r1,q1⟩:=hZ
 obtain⟨c,rfl,q1⟩:=q1
 cases r1
 exact not_of (wpAny_truthy_bool ⟨.bl (!c),H1,I1,rfl,q1⟩)
def EG(t:TT)(ta tb:TE):TE:=fun σ H Q=>t σ H fun c H1=>if c=true then ta σ H1 Q else tb σ H1 Q
theorem j9{c:Expr}(hc:PT X c tA)(ha:PE X a ta)(hb:PE X b tb):PE X (.IfExp c a b pos) (EG tA ta tb):=by
 intro pins s σ H Q I h
 refine wpAny_IfExp (thn (hc pins s σ H _ I h) fun d s1 hZ=>?_)
 obtain⟨H1,I1,q1⟩:=hZ
 cases d with
 | true=>exact ha pins s1 σ H1 Q I1 q1
 | false=>exact hb pins s1 σ H1 Q I1 q1
end
end
section
def SqL(K:PySem.W.Frag)(H:Hp)(a:Addr)(xs:List V):Prop :=
 Rd H a (.lst xs) \/
  ∃(o:Obj) (its:Array Value) (n:Nat),K.lookup a=some o/\o.cls=.type "list"/\o.dict=none/\o.data=.seq its n/\its.size≤sizeLine/\Vals xs its.toList
def SqT(K:PySem.W.Frag)(H:Hp)(a:Addr)(xs:List V):Prop :=
 Rd H a (.tup xs) \/
  ∃(o:Obj) (its:Array Value) (n:Nat),K.lookup a=some o/\o.cls=.type "tuple"/\o.data=.seq its n/\its.size≤sizeLine/\Vals xs its.toList
def CT:Value->Option V
 | .none=>some .non
 | .bool b=>some (.bl b)
 | .int i _=>some (.int i)
 | .str x _=>some (.str x)
 | .bytes b _=>some (.byt b)
 | .float b _=>some (.flt b)
 | .ref a=>some (.ref a)
 | .type n=>some (.ty n)
 | _=>none
theorem RelV.abs{x:V}{u:Value}(r:RelV x u):CT u=some x:=by
 cases x with
 | non=>cases r;rfl
 | bl _=>cases r;rfl
 | int _=>obtain⟨t,rfl⟩:=r;rfl
 | str _=>obtain⟨t,rfl⟩:=r;rfl
 | byt _=>obtain⟨t,rfl⟩:=r;rfl
 | flt _=>obtain⟨t,rfl⟩:=r;rfl
 | ref _=>cases r;rfl
 | ty _=>cases r;rfl
theorem RelV.inj{x y:V}{u:Value}(r:RelV x u)(q:RelV y u):x=y:=Option.some.inj (r.abs.symm.trans q.abs)
theorem Vals.inj{xs ys:List V}{us:List Value}(h:Vals xs us)(h':Vals ys us):xs=ys:=by
 induction us generalizing xs ys with
 | nil=>cases h;cases h';rfl
 | cons u us ih=>cases h with | cons r t=>cases h' with | cons r' t'=>rw[r.inj r',ih t t']
section
variable{X:Cx}{pins:List (Addr × Obj)}{σ:St}{H:Hp}{s:Shared}{a:Addr}{xs ys:List V}
theorem SqL.of{K:PySem.W.Frag}(h:H a=some (.lst xs)):SqL K H a xs:=.inl (.inl h)
theorem SqT.of{K:PySem.W.Frag}(h:H a=some (.tup xs)):SqT K H a xs:=.inl (.inl h)
theorem Inv.list(I:Inv X pins σ H s)(h:SqL X.K H a xs):∃its:List Value,Vals xs its/\PlainL s.heap a its.toArray/\xs.length≤sizeLine:=by
 rcases h with h | ⟨o,its,n,hk,hc,hd,hs,hz,r⟩
 ·obtain⟨z,its,n,r,e⟩:=h.ok I.hok
  exact⟨its,r,⟨_,n,e,rfl,rfl,rfl⟩,z⟩
 ·refine⟨its.toList,r,⟨o,n,I.kIn a o hk,hc,hd,by simpa using hs⟩,?_⟩
  have e:=r.length
  simp only[Array.length_toList]at e
  omega
theorem Inv.tuple(I:Inv X pins σ H s)(h:SqT X.K H a xs):∃its:List Value,Vals xs its/\IsTup s.heap a its.toArray/\xs.length≤sizeLine:=by
 rcases h with h | ⟨o,its,n,hk,hc,hs,hz,r⟩
 ·obtain⟨z,its,r,p⟩:=h.ok I.hok
  exact⟨its,r,p,z⟩
 ·refine⟨its.toList,r,⟨o,I.kIn a o hk,hc,n,by simpa using hs⟩,?_⟩
  have e:=r.length
  simp only[Array.length_toList]at e
  omega
theorem Inv.list_inj(I:Inv X pins σ H s)(h:SqL X.K H a xs)(h':SqL X.K H a ys):xs=ys:=by
 obtain⟨its,r,⟨o,n,e,_,_,d⟩,_⟩:=I.list h
 obtain⟨its',r',⟨o',n',e',_,_,d'⟩,_⟩:=I.list h'
 rw[e]at e';cases e'
 rw[d]at d'
 injection d' with d1 _
 have:its=its':=by simpa using congrArg Array.toList d1
 subst this
 exact r.inj r'
theorem Inv.tuple_inj(I:Inv X pins σ H s)(h:SqT X.K H a xs)(h':SqT X.K H a ys):xs=ys:=by
 obtain⟨its,r,⟨o,e,_,n,d⟩,_⟩:=I.tuple h
 obtain⟨its',r',⟨o',e',_,n',d'⟩,_⟩:=I.tuple h'
 rw[e]at e';cases e'
 rw[d]at d'
 injection d' with d1 _
 have:its=its':=by simpa using congrArg Array.toList d1
 subst this
 exact r.inj r'
end
abbrev Cx.wish(X:Cx)(E:Value->Shared->Prop):Cx:={ X with xe:=E }
abbrev Cx.nox(X:Cx):Cx:=X.wish fun _ _=>False
theorem Cx.Ok.wish{X:Cx}(ok:X.Ok)(E:Value->Shared->Prop):(X.wish E).Ok :=
 ⟨ok.mod,ok.kind,ok.glob,ok.blt,ok.above,ok.inj,ok.has,ok.cab,ok.hd,ok.frames,ok.stk,ok.exf,ok.bs,ok.bsz,ok.noex,ok.exfs,ok.funs,ok.frf⟩
theorem Cx.Ok.unwish{X:Cx}{E:Value->Shared->Prop}(ok:(X.wish E).Ok):X.Ok :=
 ⟨ok.mod,ok.kind,ok.glob,ok.blt,ok.above,ok.inj,ok.has,ok.cab,ok.hd,ok.frames,ok.stk,ok.exf,ok.bs,ok.bsz,ok.noex,ok.exfs,ok.funs,ok.frf⟩
section
variable{X:Cx}{pins:List (Addr × Obj)}{σ:St}{H:Hp}{s:Shared}{E:Value->Shared->Prop}
theorem Inv.wish(I:Inv X pins σ H s)(E:Value->Shared->Prop):Inv (X.wish E) pins σ H s:=⟨I.ok.wish E,I.os,I.bare,I.base,I.loc,I.cell,I.free,I.freeC,I.pin,I.hok,I.len⟩
theorem Inv.unwish(I:Inv (X.wish E) pins σ H s):Inv X pins σ H s:=⟨I.ok.unwish,I.os,I.bare,I.base,I.loc,I.cell,I.free,I.freeC,I.pin,I.hok,I.len⟩
theorem SP.unwish{D:Ends}{f:Flow}{s':Shared}(h:SP (X.wish E) pins D f s'):SP X pins D f s':=by
 cases f with
 | next=>obtain⟨σ',H',I,q⟩:=h;exact⟨σ',H',I.unwish,q⟩
 | brk=>obtain⟨σ',H',I,q⟩:=h;exact⟨σ',H',I.unwish,q⟩
 | cont=>obtain⟨σ',H',I,q⟩:=h;exact⟨σ',H',I.unwish,q⟩
 | ret u=>obtain⟨v,σ',H',I,r,q⟩:=h;exact⟨v,σ',H',I.unwish,r,q⟩
theorem PSs.nox{st:List Stmt}{t:TS}(h:PSs X.nox st t):PSs X st t:=fun pins s σ H D I hw =>
 wpAny_mono (h pins s σ H D (I.wish _) hw) (fun _ _ q=>q.unwish) fun _ _ z=>False.elim z
end
section
variable{X:Cx}{st:Stmt}{rest:List Stmt}{t u:TS}{e:Expr}{te:TE}{pos:Pos}
def tNext:TS:=fun D σ H=>D.nx σ H
def CU(t u:TS):TS:=fun D σ H=>t { D with nx:=u D } σ H
theorem uj:PSs X [] tNext:=fun _ _ σ H _ I h=>wpAny_execs_nil ⟨σ,H,I,h⟩
theorem gL(h1:PS X st t)(h2:PSs X rest u):PSs X (st::rest) (CU t u):=by
 intro pins s σ H D I h
 refine wpAny_execs_cons (thn (h1 pins s σ H { D with nx:=u D } I h) fun f s1 q=>?_)
 cases f with
 | next =>
  obtain⟨σ',H',I',q⟩:=q
  exact h2 pins s1 σ' H' D I' q
 | ret v=>exact q
 | brk=>exact q
 | cont=>exact q
def tBreak:TS:=fun D σ H=>D.bk σ H
def tCont:TS:=fun D σ H=>D.ct σ H
theorem qk:PS X (.Break pos) tBreak:=fun _ _ σ H _ I h=>wpAny_Break ⟨σ,H,I,h⟩
theorem ka:PS X (.Continue pos) tCont:=fun _ _ σ H _ I h=>wpAny_Continue ⟨σ,H,I,h⟩
theorem Inv.quiet{pins:List (Addr × Obj)}{σ:St}{H:Hp}{s:Shared}(I:Inv X pins σ H s):interactive X.env=false:=by simp[interactive,I.ok.kind]
def zY(te:TE):TS:=fun D σ H=>te σ H fun _ H1=>D.nx σ H1
theorem gH(he:PE X e te)(hs:swapsWith e none pos.line X.env=pure false:=by rfl):PS X (.Expr e pos) (zY te):=by
 intro pins s σ H D I h
 exact wpAny_Expr_any (thn (he pins s σ H _ I h) fun v s1 ⟨x,H1,I1,r1,q1⟩=>⟨σ,H1,I1,q1⟩) I.quiet hs
def CV(te:TE):TS:=fun D σ H=>te σ H D.rt
theorem xm(he:PE X e te):PS X (.Return (some e) pos) (CV te):=by
 intro pins s σ H D I h
 exact wpAny_Return_some (thn (he pins s σ H _ I h) fun v s1 ⟨x,H1,I1,r1,q1⟩=>⟨x,σ,H1,I1,r1,q1⟩)
def CW(c:TT)(t u:TS):TS:=fun D σ H=>c σ H fun b H1=>if b=true then t D σ H1 else u D σ H1
theorem zZ{c:Expr}{a b:List Stmt}{tc:TT}(hc:PT X c tc)(ha:PSs X a t)(hb:PSs X b u):PS X (.If c a b pos) (CW tc t u):=by
 intro pins s σ H D I h
 refine wpAny_If (thn (hc pins s σ H _ I h) fun d s1 hZ=>?_)
 obtain⟨H1,I1,q1⟩:=hZ
 cases d with
 | true=>exact ha pins s1 σ H1 D I1 q1
 | false=>exact hb pins s1 σ H1 D I1 q1
def tNever:TS:=fun _ _ _=>False
theorem kb:PS X st tNever:=fun _ _ _ _ _ _ h=>h.elim
end
abbrev TG:=V->St->Hp->(St->Hp->Prop)->Prop
abbrev TGs:=List V->St->Hp->(St->Hp->Prop)->Prop
def PG(X:Cx)(target:Expr)(t:TG):Prop :=
 ∀(pins:List (Addr × Obj)) (s:Shared) (σ:St) (H:Hp) (v:V) (u:Value) (Q:St->Hp->Prop),Inv X pins σ H s->RelV v u->t v σ H Q ->
  wpAny (model X.prog X.w) X.A (assign target X.env u) (fun _ s'=>∃σ' H',Inv X pins σ' H' s'/\Q σ' H') X.xe s
def zH(X:Cx)(ts:List Expr)(t:TGs):Prop :=
 ∀(pins:List (Addr × Obj)) (s:Shared) (σ:St) (H:Hp) (vs:List V) (us:List Value) (Q:St->Hp->Prop),Inv X pins σ H s->Vals vs us->t vs σ H Q ->
  wpAny (model X.prog X.w) X.A (assignInOrder ((assignEach ts X.env).map (·.2)) us) (fun _ s'=>∃σ' H',Inv X pins σ' H' s'/\Q σ' H') X.xe s
abbrev xn:=V->V->V->Hp->(Hp->Prop)->Prop
def PSet(X:Cx)(t:xn):Prop :=
 ∀(pins:List (Addr × Obj)) (s:Shared) (σ:St) (H:Hp) (o i v:V) (ov iv u:Value) (Q:Hp->Prop),Inv X pins σ H s->RelV o ov->RelV i iv->RelV v u->t o i v H Q ->
  wpAny (model X.prog X.w) X.A (setItem ov iv u) (fun _ s'=>∃H',Inv X pins σ H' s'/\Q H') X.xe s
abbrev TIp:=V->V->Hp->VK->Prop
def CB(X:Cx)(op:Operator)(t:TIp):Prop :=
 ∀(pins:List (Addr × Obj)) (s:Shared) (σ:St) (H:Hp) (x y:V) (v u:Value) (Q:VK),Inv X pins σ H s->RelV x v->RelV y u->t x y H Q ->
  wpAny (model X.prog X.w) X.A (inplaceOp op v u) (EP X pins σ Q) X.xe s
section
variable{X:Cx}{pos:Pos}
def mJ(i:Nat):TG:=fun v σ H Q=>Q (σ.set i (some v)) H
theorem jg{i:Nat}{x:Str}(hN:X.N.Nodup)(hi:X.N[i]?=some x)(hx:Loc X.env.scope x)(hf:X.fn x=true\/X.env.scope.names.lookup x=some .local:=by first | exact .inl rfl | exact .inr rfl | assumption):PG X (.Name x pos) (mJ i):=by
 intro pins s σ H v u Q I r h
 exact wpAny_assign_Name (bL I hN hi hx r (fun s' I'=>⟨_,H,I',h⟩) hf)
def gNil:TGs:=fun vs σ H Q=>vs=[]/\Q σ H
def z5(t:TG)(u:TGs):TGs:=fun vs σ H Q=>∃v r,vs=v::r/\t v σ H fun σ' H'=>u r σ' H' Q
theorem mK:zH X [] gNil:=by
 intro pins s σ H vs us Q I r h
 obtain⟨e,h⟩:=h
 subst e
 cases r
 exact assignInOrder_nil ⟨σ,H,I,h⟩
theorem gM{e:Expr}{es:List Expr}{t:TG}{u:TGs}(h1:PG X e t)(h2:zH X es u)
  (hs:(assignEach (e::es) X.env).map (·.2)=assign e X.env::(assignEach es X.env).map (·.2):=by rfl):zH X (e::es) (z5 t u):=by
 intro pins s σ H vs us Q I r h
 obtain⟨v,vr,e1,h⟩:=h
 subst e1
 cases r with
 | cons r rr =>
  rw[hs]
  refine assignInOrder_cons (thn (h1 pins s σ H _ _ _ I r h) fun _ s1 hZ=>?_)
  obtain⟨σ1,H1,I1,q1⟩:=hZ
  exact h2 pins s1 σ1 H1 _ _ Q I1 rr q1
def CY(K:PySem.W.Frag)(n:Nat)(t:TGs):TG:=fun v σ H Q=>∃a xs,v=.ref a/\SqT K H a xs/\xs.length=n/\t xs σ H Q
theorem ql{es:List Expr}{k:Nat}{t:TGs}{n:Nat}(hc:X.calm=true)(h:zH X es t)
  (hn:(assignEach es X.env).length=n:=by rfl) (hst:(assignEach es X.env).findIdx? (·.1)=none:=by rfl):PG X (.Tuple es k pos) (CY X.K n t):=by
 intro pins s σ H v u Q I r hw
 obtain⟨a,xs,e1,hq,hl,hw⟩:=hw
 subst e1
 cases r
 obtain⟨its,rv,ht,hz⟩:=I.tuple hq
 refine assign_Tuple_tuple (I.ok.hd hc) ht (by simp[hn,<- hl,rv.length]) hst fun h' hx=>?_
 have I1:Inv X pins σ H { s with heap:=h' }:=I.kept (t':=s.toks) fun b o e=>hx b o (Nat.ne_of_lt (Heap.lt_size e)) e
 exact h pins _ σ H xs _ Q I1 (by simpa using rv) hw
def CZ(to ti:TE)(t:xn):TG:=fun v σ H Q=>to σ H fun o H1=>ti σ H1 fun i H2=>t o i v H2 fun H3=>Q σ H3
theorem xo{o i:Expr}{to ti:TE}{t:xn}(ho:PE X o to)(hi:PE X i ti)(hs:PSet X t)
  (ha:∀v,assign (.Subscript o i pos) X.env v=(do
   let ov <- holding [v] (eval o X.env)
   let iv <- holding [v,ov] (eval i X.env)
   standAt pos
   holding [v,ov,iv] (setItem ov iv v)
   release [v,ov,iv] []):=by intro _;rfl):PG X (.Subscript o i pos) (CZ to ti t):=by
 intro pins s σ H v u Q I r h
 rw[ha]
 refine wpAny_bind (wpAny_holding (thn (ho pins s σ H _ I h) fun ov s1 hZ=>?_))
 obtain⟨x,H1,I1,r1,q1⟩:=hZ
 refine wpAny_bind (wpAny_holding (thn (hi pins s1 σ H1 _ I1 q1) fun iv s2 hZ=>?_))
 obtain⟨y,H2,I2,r2,q2⟩:=hZ
 refine wpAny_bind (wpAny_standAt (wpAny_bind (wpAny_holding (thn (hs pins s2 σ H2 x y v ov iv u _ I2 r1 r2 r q2) fun _ s3 hZ=>?_))))
 obtain⟨H3,I3,q3⟩:=hZ
 exact wpAny_release ⟨σ,H3,I3,q3⟩
def uk(te:TE)(g:TG):TS:=fun D σ H=>te σ H fun x H1=>g x σ H1 D.nx
theorem ll{tg e:Expr}{te:TE}{g:TG}(he:PE X e te)(hg:PG X tg g)(hs:swapsWithSole [tg] e pos.line X.env=pure false:=by rfl)(hw:swappedStores [tg] e X.env=pure none:=by rfl)
  (h1:(assignEach [tg] X.env).map (·.2)=[assign tg X.env]:=by rfl):PS X (.Assign [tg] e pos) (uk te g):=by
 intro pins s σ H D I h
 refine wpAny_Assign_stores (thn (he pins s σ H _ I h) fun v s1 hZ=>?_) hs hw
 obtain⟨x,H1,I1,r1,q1⟩:=hZ
 rw[h1]
 exact thn (hg pins s1 σ H1 x v _ I1 r1 q1) fun _ s2 q=>q
theorem xp{i:Nat}{x:Str}{e:Expr}{te:TE}{pos':Pos}(hN:X.N.Nodup)(hi:X.N[i]?=some x)(hx:Loc X.env.scope x)(he:PE X e te)(hs:swapsWith e (some (.Name x pos')) pos.line X.env=pure false:=by rfl)(hf:X.fn x=true\/X.env.scope.names.lookup x=some .local:=by first | exact .inl rfl | exact .inr rfl | assumption) :
  PS X (.Assign [.Name x pos'] e pos) (uk te (mJ i)):=by
 intro pins s σ H D I h
 refine wpAny_Assign_Name (thn (he pins s σ H _ I h) fun v s1 hZ=>?_) hs
 obtain⟨y,H1,I1,r1,q1⟩:=hZ
 exact bL I1 hN hi hx r1 (fun s2 I2=>⟨_,H1,I2,q1⟩) hf
def C0(i j:Nat)(ta:TA):TS:=fun D σ H=>ta σ H fun vs H1=>∃v w,vs=[v,w]/\D.nx ((σ.set i (some v)).set j (some w)) H1
theorem xq{i j:Nat}{x y:Str}{a b:Expr}{ta:TA}{px py pt:Pos}{kt k2 pt2}(hc:X.calm=true)(hN:X.N.Nodup)(hi:X.N[i]?=some x)(hj:X.N[j]?=some y)(hij:i≠j)
  (hx:X.env.scope.names.lookup x=some .local) (hy:X.env.scope.names.lookup y=some .local) (ha:PA X [a,b] ta)
  (hw:swappedStores [.Tuple [.Name x px,.Name y py] kt pt] (.Tuple [a,b] k2 pt2) X.env=pure (some [x,y]))
  (hs:swapsWithSole [.Tuple [.Name x px,.Name y py] kt pt] (.Tuple [a,b] k2 pt2) pos.line X.env=pure false:=by rfl) :
  PS X (.Assign [.Tuple [.Name x px,.Name y py] kt pt] (.Tuple [a,b] k2 pt2) pos) (C0 i j ta):=by
 intro pins s σ H D I h
 rw[exec_Assign_arm]
 refine wpAny_bind (wpAny_standAt ?_)
 rw[hs]
 refine wpAny_bind (wpAny_pure ?_)
 rw[if_neg (by decide)]
 refine wpAny_bind (Tuple_ (thn (ha _ pins s σ H _ I h) fun us s1 hZ=>?_))
 obtain⟨vs,H1,I1,r1,q1⟩:=hZ
 obtain⟨v,w,e1,q1⟩:=q1
 subst e1
 obtain⟨u1,u2,rfl,rv,rw'⟩:∃u1 u2,us=[u1,u2]/\RelV v u1/\RelV w u2:=by
  cases r1 with
  | cons p q =>
   cases q with
   | cons p' q' =>
    cases q'
    exact⟨_,_,rfl,p,p'⟩
 refine wpAny_newObj_type ?_ (by show 2≤sizeLine;decide)
 have I2:Inv X pins σ H1 { s1 with heap:=s1.heap.push { cls:=.type "tuple",data:=.seq [u1,u2].toArray } }:=I1.kept (t':=s1.toks) fun b o e=>Heap.get?_push_of_some _ e
 rw[hw]
 refine wpAny_bind (wpAny_pure ?_)
 show wpAny (model X.prog X.w) X.A (do rule "assign.swapped-stores";let items <- unpackItems (.ref s1.heap.objs.size) 2 none;assignInOrder [fun v=>bindName X.env y v,fun v=>bindName X.env x v] items.reverse;pure Flow.next) _ _ _
 refine wpAny_bind (wpAny_rule (wpAny_bind (unpackItems_tuple (items:=#[u1,u2]) (I.ok.hd hc) (IsTup.new s1.heap _) fun h' hx'=>?_)))
 have I3:=I2.kept (h':=h') (t':=s1.toks) fun b o e=>hx' b o (Nat.ne_of_lt (Heap.lt_size e)) e
 show wpAny _ _ (assignInOrder [fun v=>bindName X.env y v,fun v=>bindName X.env x v] [u2,u1] >>= fun _=>pure Flow.next) _ _ _
 refine wpAny_bind (assignInOrder_cons (wpAny_bindName (bL I3 hN hj (.inl hy) rw' (fun s2 I4=>?_) (.inr hy))))
 refine assignInOrder_cons (wpAny_bindName (bL I4 hN hi (.inl hx) rv (fun s3 I5=>assignInOrder_nil (wpAny_pure ?_)) (.inr hx)))
 rw[List.set_comm _ _ (Ne.symm hij)]at I5
 exact⟨_,H1,I5,q1⟩
def C1(i:Nat)(te:TE)(ti:TIp):TS:=fun D σ H=>∃x,σ[i]?=some (some x)/\te σ H fun y H1=>ti x y H1 fun z H2=>D.nx (σ.set i (some z)) H2
theorem xu{i:Nat}{x:Str}{e:Expr}{te:TE}{op:Operator}{ti:TIp}{pos':Pos}(hN:X.N.Nodup)(hi:X.N[i]?=some x)(hx:Loc X.env.scope x)(he:PE X e te)(ho:CB X op ti)(hf:X.fn x=true\/X.env.scope.names.lookup x=some .local:=by first | exact .inl rfl | exact .inr rfl | assumption) :
  PS X (.AugAssign (.Name x pos') op e pos) (C1 i te ti):=by
 intro pins s σ H D I h
 obtain⟨v,e1,h⟩:=h
 obtain⟨m,hn,hl⟩:=I.loc
 have vis:Vis X.env.scope x:=by rcases hx with k | k;exact .inl k;exact .inr (.inl k)
 obtain⟨u,r,l⟩:=hl i x v hi e1 vis
 refine wpAny_AugAssign_Name ?_
 have go:wpAny (model X.prog X.w) X.A (eval e X.env) (fun w s₂=>wpAny (model X.prog X.w) X.A (inplaceOp op u w) (fun r s₃=>wpAny (model X.prog X.w) X.A (storeName X.env x r) (fun _=>SP X pins D .next) X.xe s₃) X.xe s₂) X.xe s:=by
  refine thn (he pins s σ H _ I h) fun w s1 hZ=>?_
  obtain⟨y,H1,I1,r1,q1⟩:=hZ
  refine thn (ho pins s1 σ H1 v y u w _ I1 r r1 q1) fun z s2 hZ=>?_
  obtain⟨zv,H2,I2,r2,q2⟩:=hZ
  exact bL I2 hN hi hx r2 (fun s3 I3=>⟨_,H2,I3,q2⟩) hf
 rcases l with ⟨hk,hm⟩ | ⟨hk,c,hc,hcell⟩
 ·exact wpAny_loadName_local I.ok.kind hk hn hm go
 ·rcases hk with hk | hk
  ·exact wpAny_loadName_cell I.ok.kind hk hc hcell go
  ·rcases hx with k | k
   ·have:X.env.scope.names.lookup x=some .free:=hk
    rw[k]at this;cases this
   ·have:X.env.scope.names.lookup x=some .free:=hk
    rw[k]at this;cases this
def C3(f:Int->Int->Int):TIp:=fun x y H Q=>∃i j,x=.int i/\y=.int j/\Q (.int (f i j)) H
theorem xw:CB X .Add (C3 fun i j=>i + j):=by
 intro pins s σ H x y v u Q I r1 r2 h
 obtain⟨i,j,e1,e2,q⟩:=h
 subst e1;subst e2
 obtain⟨t,rfl⟩:=r1
 obtain⟨t',rfl⟩:=r2
 exact iadd_int ⟨.int _,H,I.tok _,⟨_,rfl⟩,q⟩
theorem xx:CB X .Sub (C3 fun i j=>i - j):=by
 intro pins s σ H x y v u Q I r1 r2 h
 obtain⟨i,j,e1,e2,q⟩:=h
 subst e1;subst e2
 obtain⟨t,rfl⟩:=r1
 obtain⟨t',rfl⟩:=r2
 exact isub_int ⟨.int _,H,I.tok _,⟨_,rfl⟩,q⟩
end
structure It where
 go:Nat->Hp->Prop
 yld:Nat->Hp->V->Hp->Prop
 stop:Nat->Hp->Prop
def FpOk(X:Cx)(pins:List (Addr × Obj))(H:Hp)(b:Addr):Prop :=
 H b=none/\b≠X.env.locals/\b ∉ X.fs/\(b∈X.ex\/X.s₀.heap.objs.size≤b)/\(∀x c,X.env.cells.lookup x=some c->c≠b)/\∀p∈X.pn++pins,p.1≠b
theorem Inv.fpOk{X:Cx}{pins:List (Addr × Obj)}{σ:St}{H H':Hp}{s:Shared}{b:Addr}(I:Inv X pins σ H s)(hb:s.heap.objs.size≤b)(hn:H' b=none):FpOk X pins H' b:=by
 refine⟨hn,Nat.ne_of_gt (Nat.lt_of_lt_of_le I.lt hb),I.nofs hb,.inr (Nat.le_trans I.sz hb),fun x c e z=>?_,fun p hp z=>?_⟩
 ·obtain⟨v,q⟩:=I.cell x c e
  exact absurd (Nat.lt_of_lt_of_le q.lt (by rw[z];exact hb)) (Nat.lt_irrefl _)
 ·exact absurd (Nat.lt_of_lt_of_le (Heap.lt_size (I.pin p hp).1) (by rw[z];exact hb)) (Nat.lt_irrefl _)
structure Turn (P:Program)(w:World)(K:PySem.W.Frag)(tg:Expr)(J:It)(fp:List Addr)(it:Addr)(tn:Nat->Heap->Prop):Prop where
 mem:it∈fp
 obj:∀i h,tn i h->∀b∈fp,∃o,h.get? b=some o/\∀v,o.data≠.cell v
 keep:∀i h h',tn i h->(∀b∈fp,∀o,h.get? b=some o->h'.get? b=some o)->tn i h'
 item:∀(X:Cx),X.prog=P->X.w=w->X.K=K->X.calm=true->∀(i:Nat) (pins:List (Addr × Obj)) (s:Shared) (σ:St) (H:Hp) (E:Value->Shared->Prop),Inv X pins σ H s->(∀b∈fp,FpOk X pins H b)->tn i s.heap->J.go i H ->
  wpAny (model P w) X.A (pyNext (.ref it)) (fun r s1=>∃u,r=some u /\
   wpAny (model P w) X.A (letOwnedTupleGo tg (.ref it) u) (fun _ s2=>∃x H',Inv X pins σ H' s2/\RelV x u/\J.yld i H x H'/\tn (i + 1) s2.heap/\∀b∈fp,H' b=none) E s1) E s
 done:∀(X:Cx),X.prog=P->X.w=w->X.K=K->X.calm=true->∀(i:Nat) (pins:List (Addr × Obj)) (s:Shared) (σ:St) (H:Hp) (E:Value->Shared->Prop),Inv X pins σ H s->(∀b∈fp,FpOk X pins H b)->tn i s.heap->J.stop i H ->
  wpAny (model P w) X.A (pyNext (.ref it)) (fun r s1=>r=none/\Inv X pins σ H s1) E s
 self:∀(A:Around) (i:Nat) (s:Shared) (Q:Value->Shared->Prop) (E:Value->Shared->Prop),tn i s.heap->Q (.ref it) s->wpAny (model P w) A (pyIter (.ref it)) Q E s
abbrev TI:=St->Hp->(It->Hp->Prop)->Prop
def Et(X:Cx)(pins:List (Addr × Obj))(σ:St)(tg:Expr)(R:It->Hp->Prop)(itv:Value)(s2:Shared):Prop :=
 ∃(it:Addr) (fp:List Addr) (tn:Nat->Heap->Prop) (J:It) (H':Hp),itv=.ref it/\Inv X pins σ H' s2/\Turn X.prog X.w X.K tg J fp it tn/\tn 0 s2.heap/\(∀b∈fp,FpOk X pins H' b)/\R J H'
def PI(X:Cx)(tg iter:Expr)(wi:TI):Prop :=
 ∀(pins:List (Addr × Obj)) (s:Shared) (σ:St) (H:Hp) (R:It->Hp->Prop),Inv X pins σ H s->wi σ H R ->
  wpAny (model X.prog X.w) X.A (eval iter X.env) (fun v s1=>wpAny (model X.prog X.w) X.A (pyIter v) (Et X pins σ tg R) X.xe s1) X.xe s
theorem qm{M:Model}{A:Around}{E:Value->Shared->Prop}{s:Shared}{tg:Expr}{it:Addr}{u:Value}{o:Obj}{n:String}{vs:Array Value}{Q:Unit->Shared->Prop}(ho:s.heap.get? it=some o)(hc:o.cls=.type n)(hd:o.data=.fields vs)
  (hn:["enumerate","zip","dict_itemiterator","dict_reverseitemiterator","odict_iterator","itertools.zip_longest","itertools.pairwise"].contains n=false) (hQ:Q () s):wpAny M A (letOwnedTupleGo tg (.ref it) u) Q E s:=by
 unfold letOwnedTupleGo
 cases tg<;>first
  | exact wpAny_pure hQ
  | (cases u<;>first
    | exact wpAny_pure hQ
    | (refine wpAny_bind (wpAny_load ho ?_)
       rw[hc,hd]
       show wpAny M A (if (["enumerate","zip","dict_itemiterator","dict_reverseitemiterator","odict_iterator","itertools.zip_longest","itertools.pairwise"].contains n && vs[0]? == some (rawInt _))=true then _ else _) Q E s
       rw[if_neg (by intro h;rw[hn,Bool.false_and]at h;cases h)]
       exact wpAny_pure hQ))
def z6(K:PySem.W.Frag)(a:Addr):It :=
 ⟨fun i H=>∃xs x,SqL K H a xs/\xs[i]?=some x,fun i H x H'=>H'=H/\∀xs,SqL K H a xs->xs[i]?=some x,fun i H=>∃xs,SqL K H a xs/\xs.length≤i⟩
def C4(K:PySem.W.Frag)(a:Addr):It :=
 ⟨fun i H=>∃xs x,SqT K H a xs/\xs[i]?=some x,fun i H x H'=>H'=H/\∀xs,SqT K H a xs->xs[i]?=some x,fun i H=>∃xs,SqT K H a xs/\xs.length≤i⟩
def CD(lo:Int)(n:Nat):It:=⟨fun i _=>i < n,fun i H x H'=>H'=H/\x=.int (lo + i),fun i _=>n≤i⟩
theorem oS{P:Program}{w:World}{K:PySem.W.Frag}{tg:Expr}(a it:Addr):Turn P w K tg (z6 K a) [it] it (fun i h=>h.IsListIter it a i) where
 mem:=by simp
 obj:=fun i h st b hb=>by
  have e:b=it:=by simpa using hb
  subst e
  obtain⟨o,e,c,d⟩:=st
  exact⟨o,e,fun v z=>by rw[d]at z;cases z⟩
 keep:=fun i h h' st k=>st.at fun o e=>k it (by simp) o e
 item:=by
  intro X hP hw hK hc i pins s σ H E I hf st hg
  subst hP hw hK
  obtain⟨xs,x,hq,hx⟩:=hg
  obtain⟨its,rv,p,hz⟩:=I.list hq
  obtain⟨u,hu,ru⟩:=rv.get hx
  obtain⟨f0,f1,f2,f3,f4,f5⟩:=hf it (by simp)
  refine wpAny_pyNext_list_item st p.isList (x:=u) (by simpa using hu) fun h' st' sb=>?_
  have I1:Inv X pins σ H { s with heap:=h' }:=I.turned (t':=s.toks) (fun b o hb e=>(sb.2 b hb).trans e) f0 f1 f3 f4 f5
  obtain⟨o,e,c,d⟩:=id st'
  exact⟨u,rfl,qm (s:={ s with heap:=h' }) e c d (by decide) ⟨x,H,I1,ru,⟨rfl,fun ys hy=>by rw[I.list_inj hy hq];exact hx⟩,st',fun b hb=>(hf b hb).1⟩⟩
 done:=by
  intro X hP hw hK hc i pins s σ H E I hf st hg
  subst hP hw hK
  obtain⟨xs,hq,hx⟩:=hg
  obtain⟨its,rv,p,hz⟩:=I.list hq
  obtain⟨f0,f1,f2,f3,f4,f5⟩:=hf it (by simp)
  have hl:=rv.length
  exact wpAny_pyNext_list_end (I.ok.hd hc) st p.isList (by simp;omega) fun h' eb=>⟨rfl,I.turned (t':=s.toks) (fun b o hb e=>eb b o hb e) f0 f1 f3 f4 f5⟩
 self:=fun _ _ _ _ _ st h=>wpAny_pyIter_listiter st h
theorem lp{P:Program}{w:World}{K:PySem.W.Frag}{tg:Expr}(a it:Addr):Turn P w K tg (C4 K a) [it] it (fun i h=>h.IsTupleIter it a i) where
 mem:=by simp
 obj:=fun i h st b hb=>by
  have e:b=it:=by simpa using hb
  subst e
  obtain⟨o,e,c,d⟩:=st
  exact⟨o,e,fun v z=>by rw[d]at z;cases z⟩
 keep:=fun i h h' st k=>st.at fun o e=>k it (by simp) o e
 item:=by
  intro X hP hw hK hc i pins s σ H E I hf st hg
  subst hP hw hK
  obtain⟨xs,x,hq,hx⟩:=hg
  obtain⟨its,rv,p,hz⟩:=I.tuple hq
  obtain⟨u,hu,ru⟩:=rv.get hx
  obtain⟨f0,f1,f2,f3,f4,f5⟩:=hf it (by simp)
  refine wpAny_pyNext_tuple_item st (show s.heap.IsTuple a its.toArray from p) (x:=u) (by simpa using hu) fun h' st' sb=>?_
  have I1:Inv X pins σ H { s with heap:=h' }:=I.turned (t':=s.toks) (fun b o hb e=>(sb.2 b hb).trans e) f0 f1 f3 f4 f5
  obtain⟨o,e,c,d⟩:=id st'
  exact⟨u,rfl,qm (s:={ s with heap:=h' }) e c d (by decide) ⟨x,H,I1,ru,⟨rfl,fun ys hy=>by rw[I.tuple_inj hy hq];exact hx⟩,st',fun b hb=>(hf b hb).1⟩⟩
 done:=by
  intro X hP hw hK hc i pins s σ H E I hf st hg
  subst hP hw hK
  obtain⟨xs,hq,hx⟩:=hg
  obtain⟨its,rv,p,hz⟩:=I.tuple hq
  obtain⟨f0,f1,f2,f3,f4,f5⟩:=hf it (by simp)
  have hl:=rv.length
  exact wpAny_pyNext_tuple_end (I.ok.hd hc) st (show s.heap.IsTuple a its.toArray from p) (by simp;omega) fun h' eb=>⟨rfl,I.turned (t':=s.toks) (fun b o hb e=>eb b o hb e) f0 f1 f3 f4 f5⟩
 self:=fun _ _ _ _ _ st h=>wpAny_pyIter_tupleiter st h
theorem lq{P:Program}{w:World}{K:PySem.W.Frag}{tg:Expr}(it:Addr)(lo:Int)(n:Nat):Turn P w K tg (CD lo n) [it] it (fun i h=>IsRangeIter h it (lo + (i:Nat) * 1) ((n:Int) - (i:Nat)) 1) where
 mem:=by simp
 obj:=fun i h st b hb=>by
  have e:b=it:=by simpa using hb
  subst e
  exact⟨_,st,fun v z=>by
   have z':Data.fields _=Data.cell v:=z
   cases z'⟩
 keep:=fun i h h' st k=>k it (by simp) _ st
 item:=by
  intro X hP hw hK hc i pins s σ H E I hf st hg
  subst hP hw hK
  obtain⟨f0,f1,f2,f3,f4,f5⟩:=hf it (by simp)
  have W:=Walks.range (prog:=X.prog) (w:=X.w) (I.ok.hd hc) it lo 1 n
  refine W.item i s _ _ hg st fun v h' tk hv st' kk=>?_
  obtain⟨t,rfl⟩:=hv
  have I1:Inv X pins σ H { s with heap:=h',toks:=tk }:=I.turned (fun b o hb e=>kk b o (by simpa using hb) e) f0 f1 f3 f4 f5
  refine⟨_,rfl,qm (s:={ s with heap:=h',toks:=tk }) (n:="range_iterator") st' rfl rfl (by decide) ⟨.int (lo + i),H,I1,⟨t,?_⟩,⟨rfl,rfl⟩,st',fun b hb=>(hf b hb).1⟩⟩
  rw[Int.mul_one]
 done:=by
  intro X hP hw hK hc i pins s σ H E I hf st hg
  subst hP hw hK
  obtain⟨f0,f1,f2,f3,f4,f5⟩:=hf it (by simp)
  exact wpAny_pyNext_range_end (I.ok.hd hc) st (by have:n≤i:=hg;omega) fun h' eb=>⟨rfl,I.turned (t':=s.toks) (fun b o hb e=>eb b o hb e) f0 f1 f3 f4 f5⟩
 self:=fun _ _ _ _ _ st h=>wpAny_pyIter_rangeiter st h
end
section
section
variable{X:Cx}{tg:Expr}
def z7(K:PySem.W.Frag)(tl:TE):TI:=fun σ H R=>tl σ H fun x H1=>∃a,x=.ref a/\(∃xs,SqL K H1 a xs)/\R (z6 K a) H1
def C5(K:PySem.W.Frag)(tl:TE):TI:=fun σ H R=>tl σ H fun x H1=>∃a,x=.ref a/\(∃xs,SqT K H1 a xs)/\R (C4 K a) H1
theorem mL{l:Expr}{tl:TE}(hl:PE X l tl):PI X tg l (z7 X.K tl):=by
 intro pins s σ H R I h
 refine thn (hl pins s σ H _ I h) fun v s1 hZ=>?_
 obtain⟨x,H1,I1,r1,q1⟩:=hZ
 obtain⟨a,e,⟨xs,hq⟩,q⟩:=q1
 subst e
 cases r1
 obtain⟨its,rv,p,hz⟩:=I1.list hq
 refine wpAny_pyIter_list p.isList ?_
 refine⟨s1.heap.objs.size,[s1.heap.objs.size],_,_,H1,rfl,I1.kept (t':=s1.toks) fun b o e=>Heap.get?_push_of_some _ e,oS a _,⟨_,Heap.get?_push_size _ rfl,rfl,rfl⟩,fun b hb=>?_,q⟩
 have e:b=s1.heap.objs.size:=by simpa using hb
 subst e
 exact I1.fpOk (Nat.le_refl _) (I1.hok.fresh (Nat.le_refl _))
theorem xy{l:Expr}{tl:TE}(hl:PE X l tl):PI X tg l (C5 X.K tl):=by
 intro pins s σ H R I h
 refine thn (hl pins s σ H _ I h) fun v s1 hZ=>?_
 obtain⟨x,H1,I1,r1,q1⟩:=hZ
 obtain⟨a,e,⟨xs,hq⟩,q⟩:=q1
 subst e
 cases r1
 obtain⟨its,rv,p,hz⟩:=I1.tuple hq
 refine wpAny_pyIter_tuple (show s1.heap.IsTuple a its.toArray from p) ?_
 refine⟨s1.heap.objs.size,[s1.heap.objs.size],_,_,H1,rfl,I1.kept (t':=s1.toks) fun b o e=>Heap.get?_push_of_some _ e,lp a _,⟨_,Heap.get?_push_size _ rfl,rfl,rfl⟩,fun b hb=>?_,q⟩
 have e:b=s1.heap.objs.size:=by simpa using hb
 subst e
 exact I1.fpOk (Nat.le_refl _) (I1.hok.fresh (Nat.le_refl _))
theorem qo{pins:List (Addr × Obj)}{σ:St}{H:Hp}{s:Shared}{R:It->Hp->Prop}{E:Value->Shared->Prop}{lo hi:Int}{t u v:Tok}{tk:Nat}(I:Inv X pins σ H s)(h1:-(2 ^ 62)≤lo)(h2:lo < 2 ^ 62)(h3:-(2 ^ 62)≤hi)(h4:hi < 2 ^ 62)
  (q:R (CD lo (hi - lo).toNat) H):wpAny (model X.prog X.w) X.A (pyIter (.ref s.heap.objs.size)) (Et X pins σ tg R) E { s with heap:=s.heap.push { cls:=.type "range",data:=.fields #[.int lo t,.int hi u,.int 1 v] },toks:=tk }:=by
 refine wpAny_pyIter_range (IsRange.new ..) (small_one h1 h2 h3 h4) ?_
 have I1:Inv X pins σ H { s with heap:=s.heap.push { cls:=.type "range",data:=.fields #[.int lo t,.int hi u,.int 1 v] },toks:=tk }:=I.kept fun b o e=>Heap.get?_push_of_some _ e
 refine⟨(s.heap.push { cls:=.type "range",data:=.fields #[.int lo t,.int hi u,.int 1 v] }).objs.size,[(s.heap.push { cls:=.type "range",data:=.fields #[.int lo t,.int hi u,.int 1 v] }).objs.size],_,_,H,rfl,
  I1.kept (t':=tk) fun b o e=>Heap.get?_push_of_some _ e,lq _ lo (hi - lo).toNat,?_,fun b hb=>?_,q⟩
 ·have e1:lo + ((0:Nat):Int) * 1=lo:=by simp
  have e2:(((hi - lo).toNat:Nat):Int) - ((0:Nat):Int)=Builtin.Range.rangeSize lo hi 1:=by rw[rangeSize_one];split<;>omega
  show IsRangeIter _ _ (lo + ((0:Nat):Int) * 1) ((((hi - lo).toNat:Nat):Int) - ((0:Nat):Int)) 1
  rw[e1,e2]
  exact Heap.get?_push_size _ rfl
 ·have e:b=(s.heap.push { cls:=.type "range",data:=.fields #[.int lo t,.int hi u,.int 1 v] }).objs.size:=by simpa using hb
  subst e
  exact I1.fpOk (Nat.le_refl _) (I1.hok.fresh (Nat.le_refl _))
def z8(ta:TA):TI:=fun σ H R=>ta σ H fun vs H1=>∃j:Int,vs=[.int j]/\-(2 ^ 62)≤j/\j < 2 ^ 62/\R (CD 0 j.toNat) H1
theorem oT {a:Expr} {ta:TA} {p pos:Pos} (hg:Gl X "range") (hm:X.mg "range"=none) (ha:PA X [a] ta) (hs:starEach [a] X.env=[(false,eval a X.env)]:=by rfl):PI X tg (.Call (.Name "range" p) [a] [] pos) (z8 ta):=by
 intro pins s σ H R I h
 refine Call_ (fG I hg hm boot_range (PyProof.Rows.callWith_type1 (thn (ha pos pins s σ H _ I h) fun us s1 hZ=>?_) hs rfl))
 obtain⟨vs,H1,I1,r1,q1⟩:=hZ
 obtain⟨j,e,q1,q2,q⟩:=q1
 subst e
 cases r1 with
 | cons r rr =>
  cases rr
  obtain⟨t,rfl⟩:=r
  exact call_range_1 (qo I1 (by omega) (by omega) q1 q2 (by simpa using q))
def C6(wi:TI)(g:TG)(tb:TS):TS:=fun D σ H=>wi σ H fun J H1=>∃W:Nat->Nat->St->Hp->Prop,(∃m,W 0 m σ H1)/\∀i m σ H,W i m σ H ->
 (J.stop i H/\D.nx σ H)\/(J.go i H/\∃N:St->Hp->Prop,(∀σ' H',N σ' H'->∃m',m' < m/\W (i + 1) m' σ' H')/\∀x H',J.yld i H x H'->g x σ H' fun σ2 H2=>tb { D with nx:=N,ct:=N,bk:=D.nx } σ2 H2)
def pinsAt(fp:List Addr)(h:Heap):List (Addr × Obj):=fp.filterMap fun b=>(h.get? b).map fun o=>(b,o)
theorem cO{fp:List Addr}{h:Heap}{b:Addr}{o:Obj}(hb:b∈fp)(e:h.get? b=some o):(b,o)∈pinsAt fp h:=List.mem_filterMap.mpr ⟨b,hb,by rw[e];rfl⟩
theorem oU{fp:List Addr}{h:Heap}{p:Addr × Obj}(hp:p∈pinsAt fp h):p.1∈fp/\h.get? p.1=some p.2:=by
 obtain⟨b,hb,e⟩:=List.mem_filterMap.mp hp
 cases q:h.get? b with
 | none=>rw[q]at e;cases e
 | some o =>
  rw[q]at e
  have e':(b,o)=p:=Option.some.inj e
  subst e'
  exact⟨hb,q⟩
theorem Inv.pinned{pins:List (Addr × Obj)}{σ:St}{H:Hp}{s:Shared}{fp:List Addr}(I:Inv X pins σ H s)(hf:∀b∈fp,FpOk X pins H b)(ho:∀b∈fp,∃o,s.heap.get? b=some o/\∀v,o.data≠.cell v):Inv X (pins++pinsAt fp s.heap) σ H s :=
 I.pins_of fun p hp=>(List.mem_append.mp hp).elim (fun z=>I.pin p (List.mem_append_right _ z)) fun z=>by
  obtain⟨hb,e⟩:=oU z
  obtain⟨f0,f1,f2,_⟩:=hf p.1 hb
  obtain⟨o,e',d⟩:=ho p.1 hb
  rw[e]at e';cases e'
  exact⟨e,f0,f1,f2,d⟩
theorem Inv.unpinned{pins pl:List (Addr × Obj)}{σ:St}{H:Hp}{s:Shared}(I:Inv X (pins++pl) σ H s):Inv X pins σ H s:=I.pins_of fun p hp=>I.pin p (List.mem_append_right _ (List.mem_append_left _ hp))
theorem xA{iter:Expr}{body:List Stmt}{wi:TI}{g:TG}{tb:TS}{pos:Pos}(hp:PassesOwn (model X.prog X.w) X.A X.env X.xe)(hc:X.calm=true)(hi:PI X tg iter wi)(hg:PG X tg g)(hb:PSs X body tb)
  (hs:∀x,foldedSetIterable iter X.env x=pure x:=by intro _;rfl):PS X (.For tg iter body [] pos) (C6 wi g tb):=by
 intro pins s σ H D I h
 refine wpAny_For (thn (hi pins s σ H _ I h) fun v s1 h1=>thn h1 fun itv s2 h2=>?_) hs
 obtain⟨it,fp,tn,J,H2,e,I2,T,st2,f2,W,⟨m0,w0⟩,turn⟩:=h2
 subst e
 have stat:∀{H':Hp},(∀b∈fp,H' b=none)->∀b∈fp,FpOk X pins H' b:=fun hn b hb=>⟨hn b hb,(f2 b hb).2⟩
 refine codeAny_forLoop_any (fun n s'=>∃i σ' H',Inv X pins σ' H' s'/\tn i s'.heap/\(∀b∈fp,H' b=none)/\W i n σ' H') ?_ m0 ⟨0,σ,H2,I2,st2,fun b hb=>(f2 b hb).1,w0⟩
 rintro n s3 ⟨i,σ3,H3,I3,st3,fr3,w3⟩
 rcases turn i n σ3 H3 w3 with ⟨stop,qn⟩ | ⟨go,N,hN,step⟩
 ·refine wpAny_passesOwn hp (thn (T.done X rfl rfl rfl hc i pins s3 σ3 H3 X.xe I3 (stat fr3) st3 stop) fun r s4 hZ=>?_)
  obtain⟨hr,I4⟩:=hZ
  subst hr
  exact wpAny_execs_nil ⟨σ3,H3,I4,qn⟩
 ·refine wpAny_passesOwn hp (thn (T.item X rfl rfl rfl hc i pins s3 σ3 H3 X.xe I3 (stat fr3) st3 go) fun r s4 hZ=>?_)
  obtain⟨u,hr,h4⟩:=hZ
  subst hr
  refine wpAny_passesOwn hp (thn h4 fun _ s5 hZ=>?_)
  obtain⟨x,H5,I5,r5,y5,st5,fr5⟩:=hZ
  have I5':=I5.pinned (stat fr5) (T.obj _ _ st5)
  refine wpAny_passesOwn hp (thn (hg _ s5 σ3 H5 x u _ I5' r5 (step x H5 y5)) fun _ s6 hZ=>?_)
  obtain⟨σ6,H6,I6,q6⟩:=hZ
  refine wpAny_passesOwn hp (thn (hb _ s6 σ6 H6 _ I6 q6) fun f s7 q7=>?_)
  have again:∀{σ7:St} {H7:Hp},Inv X (pins++pinsAt fp s5.heap) σ7 H7 s7->N σ7 H7->∃m,m < n/\∃i σ' H',Inv X pins σ' H' s7/\tn i s7.heap/\(∀b∈fp,H' b=none)/\W i m σ' H':=fun {σ7 H7} I7 n7=>by
   obtain⟨m',hm,w7⟩:=hN σ7 H7 n7
   refine⟨m',hm,i + 1,σ7,H7,I7.unpinned,T.keep _ _ _ st5 fun b hb o e=>(I7.pin (b,o) (List.mem_append_right _ (List.mem_append_right _ (cO hb e)))).1,fun b hb=>?_,w7⟩
   obtain⟨o,e,d⟩:=T.obj _ _ st5 b hb
   exact (I7.pin (b,o) (List.mem_append_right _ (List.mem_append_right _ (cO hb e)))).2.1
  cases f with
  | next=>obtain⟨σ7,H7,I7,n7⟩:=q7;exact again I7 n7
  | cont=>obtain⟨σ7,H7,I7,n7⟩:=q7;exact again I7 n7
  | brk=>obtain⟨σ7,H7,I7,q7⟩:=q7;exact⟨σ7,H7,I7.unpinned,q7⟩
  | ret v=>obtain⟨x7,σ7,H7,I7,r7,q7⟩:=q7;exact⟨x7,σ7,H7,I7.unpinned,r7,q7⟩
end
end
section
abbrev R2:=V->V->Hp->VK->Prop
def OpR(X:Cx)(f:Value->Value->Sem Value)(r:R2):Prop :=
 ∀(pins:List (Addr × Obj)) (s:Shared) (σ:St) (H:Hp) (x y:V) (v u:Value) (Q:VK),Inv X pins σ H s->RelV x v->RelV y u->r x y H Q ->
  wpAny (model X.prog X.w) X.A (f v u) (EP X pins σ Q) X.xe s
def C7(X:Cx)(f:Value->Sem Value)(r:V->Hp->VK->Prop):Prop :=
 ∀(pins:List (Addr × Obj)) (s:Shared) (σ:St) (H:Hp) (x:V) (v:Value) (Q:VK),Inv X pins σ H s->RelV x v->r x H Q ->
  wpAny (model X.prog X.w) X.A (f v) (EP X pins σ Q) X.xe s
def bo(X:Cx)(f:Value)(r:List V->Hp->VK->Prop):Prop :=
 ∀(pins:List (Addr × Obj)) (s:Shared) (σ:St) (H:Hp) (xs:List V) (us:List Value) (Q:VK),Inv X pins σ H s->Vals xs us->r xs H Q ->
  wpAny (model X.prog X.w) X.A (call f us) (EP X pins σ Q) X.xe s
def C8(X:Cx)(r:V->Hp->(Bool->Hp->Prop)->Prop):Prop :=
 ∀(pins:List (Addr × Obj)) (s:Shared) (σ:St) (H:Hp) (x:V) (v:Value) (Q:Bool->Hp->Prop),Inv X pins σ H s->RelV x v->r x H Q ->
  wpAny (model X.prog X.w) X.A (truthy v) (TP X pins σ Q) X.xe s
def wc(r:R2)(ta tb:TE):TE:=fun σ H Q=>ta σ H fun x H1=>tb σ H1 fun y H2=>r x y H2 Q
def EH(r:V->Hp->VK->Prop)(ta:TE):TE:=fun σ H Q=>ta σ H fun x H1=>r x H1 Q
def rI(C:Int->Int->Prop)(g:Int->Int->V):R2:=fun x y H Q=>∃i j,x=.int i/\y=.int j/\C i j/\Q (g i j) H
def t9(g:Int->Int->V):R2:=fun x y H Q=>∃i j,x=.int i/\y=.int j/\Q (g i j) H
def rU(g:Int->V):V->Hp->VK->Prop:=fun x H Q=>∃i,x=.int i/\Q (g i) H
section
variable{X:Cx}{a b c:Expr}{ta tb tc:TE}{pos:Pos}
theorem xB(ha:PE X a ta)(hb:PE X b tb){pins:List (Addr × Obj)}{s:Shared}{σ:St}{H:Hp}{R:V->V->Hp->Prop}(I:Inv X pins σ H s)
  (h:ta σ H fun x H1=>tb σ H1 fun y H2=>R x y H2) {Q:Value->Shared->Prop} {f:Value->Value->Sem Value}
  (hf:∀v u s2 x y H2,Inv X pins σ H2 s2->RelV x v->RelV y u->R x y H2->wpAny (model X.prog X.w) X.A (f v u) Q X.xe s2) :
  wpAny (model X.prog X.w) X.A (eval a X.env) (fun v s₁=>wpAny (model X.prog X.w) X.A (eval b X.env) (fun u s₂=>wpAny (model X.prog X.w) X.A (f v u) Q X.xe s₂) X.xe s₁) X.xe s:=by
 refine thn (ha pins s σ H _ I h) fun v s1 hZ=>?_
 obtain⟨x,H1,I1,r1,q1⟩:=hZ
 refine thn (hb pins s1 σ H1 _ I1 q1) fun u s2 hZ=>?_
 obtain⟨y,H2,I2,r2,q2⟩:=hZ
 exact hf v u s2 x y H2 I2 r1 r2 q2
theorem we{op:Operator}{r:R2}(ho:OpR X (binaryOp op) r)(ha:PE X a ta)(hb:PE X b tb):PE X (.BinOp a op b pos) (wc r ta tb):=by
 intro pins s σ H Q I h
 exact wpAny_BinOp (xB ha hb I h fun v u s2 x y H2 I2 rx ry q=>ho pins s2 σ H2 x y v u Q I2 rx ry q)
theorem z9{op:UnaryOp}{r:V->Hp->VK->Prop}(ho:C7 X (unaryOp op) r)(ha:PE X a ta):PE X (.UnaryOp op a pos) (EH r ta):=by
 intro pins s σ H Q I h
 exact UnaryOp_ (thn (ha pins s σ H _ I h) fun v s1 ⟨x,H1,I1,r1,q1⟩=>ho pins s1 σ H1 x v Q I1 r1 q1)
theorem CF{f:Value->Value->Sem Value}{C:Int->Int->Prop}{g:Int->Int->Int}
  (rule:∀(i j:Int) (t u:Tok) (s:Shared) (Q:Value->Shared->Prop) (E:Value->Shared->Prop),C i j->Q (.int (g i j) s.toks) { s with toks:=s.toks + 1 }->wpAny (model X.prog X.w) X.A (f (.int i t) (.int j u)) Q E s) :
  OpR X f (rI C fun i j=>.int (g i j)):=by
 intro pins s σ H x y v u Q I rx ry h
 obtain⟨i,j,rfl,rfl,hc,q⟩:=h
 obtain⟨t,rfl⟩:=rx
 obtain⟨t',rfl⟩:=ry
 exact rule i j t t' s _ _ hc ⟨.int (g i j),H,I.tok _,⟨_,rfl⟩,q⟩
theorem Aa{f:Value->Value->Sem Value}{g:Int->Int->Int}
  (rule:∀(i j:Int) (t u:Tok) (s:Shared) (Q:Value->Shared->Prop) (E:Value->Shared->Prop),Q (.int (g i j) s.toks) { s with toks:=s.toks + 1 }->wpAny (model X.prog X.w) X.A (f (.int i t) (.int j u)) Q E s) :
  OpR X f (t9 fun i j=>.int (g i j)):=by
 intro pins s σ H x y v u Q I rx ry h
 obtain⟨i,j,rfl,rfl,q⟩:=h
 obtain⟨t,rfl⟩:=rx
 obtain⟨t',rfl⟩:=ry
 exact rule i j t t' s _ _ ⟨.int (g i j),H,I.tok _,⟨_,rfl⟩,q⟩
theorem um{f:Value->Value->Sem Value}{g:Int->Int->Bool}
  (rule:∀(i j:Int) (t u:Tok) (s:Shared) (Q:Value->Shared->Prop) (E:Value->Shared->Prop),Q (.bool (g i j)) s->wpAny (model X.prog X.w) X.A (f (.int i t) (.int j u)) Q E s) :
  OpR X f (t9 fun i j=>.bl (g i j)):=by
 intro pins s σ H x y v u Q I rx ry h
 obtain⟨i,j,rfl,rfl,q⟩:=h
 obtain⟨t,rfl⟩:=rx
 obtain⟨t',rfl⟩:=ry
 exact rule i j t t' s _ _ ⟨.bl (g i j),H,I,rfl,q⟩
def C9(i j:Int):Prop:=0 < j/\j < 1073741824
def Da(i j:Int):Prop:=0≤j/\j≤1000000/\i.natAbs < 2 ^ 64
def CMul(i j:Int):Prop:=(-(2 ^ 64) < i/\i < 2 ^ 64)\/(-(2 ^ 64) < j/\j < 2 ^ 64)
theorem CMul.ok{i j:Int}(h:CMul i j):IntMulOk i j:=by
 rcases h with ⟨h1,h2⟩ | ⟨h1,h2⟩
 ·exact .of_left (intBits_le_64 h1 h2)
 ·exact .of_right (intBits_le_64 h1 h2)
theorem xC:OpR X (binaryOp .Add) (t9 fun i j=>.int (i + j)):=Aa fun _ _ _ _ _ _ _ q=>add_int q
theorem xD:OpR X (binaryOp .Sub) (t9 fun i j=>.int (i - j)):=Aa fun _ _ _ _ _ _ _ q=>sub_int q
theorem xE:OpR X (binaryOp .Mult) (rI CMul fun i j=>.int (i * j)):=CF fun _ _ _ _ _ _ _ hc q=>mul_int q hc.ok
theorem uo:OpR X (binaryOp .FloorDiv) (rI C9 fun i j=>.int (i / j)):=CF fun i j _ _ _ _ _ hc q=>by
 have h1:(0:Int) < j:=hc.1
 have h2:j < 1073741824:=hc.2
 exact floordiv_int (by omega) (by rw[Int.fdiv_eq_ediv_of_nonneg i (by omega)];exact q) (.inl (PyProof.noPylong_small (by omega)))
theorem xF:OpR X (binaryOp .Mod) (rI (fun _ j=>0 < j) fun i j=>.int (i % j)):=CF fun i j _ _ _ _ _ hc q=>by
 have h1:(0:Int) < j:=hc
 exact mod_int' (by omega) (by rw[Int.fmod_eq_emod_of_nonneg i (by omega)];exact q)
theorem xG:OpR X (binaryOp .Pow) (rI Da fun i j=>.int (i ^ j.toNat)):=CF fun _ _ _ _ _ _ _ hc q=>pow_int_small hc.1 hc.2.1 hc.2.2 q
theorem EI{f:Value->Sem Value}{g:Int->Int}
  (rule:∀(i:Int) (t:Tok) (s:Shared) (Q:Value->Shared->Prop) (E:Value->Shared->Prop),Q (.int (g i) s.toks) { s with toks:=s.toks + 1 }->wpAny (model X.prog X.w) X.A (f (.int i t)) Q E s) :
  C7 X f (rU fun i=>.int (g i)):=by
 intro pins s σ H x v Q I rx h
 obtain⟨i,rfl,q⟩:=h
 obtain⟨t,rfl⟩:=rx
 exact rule i t s _ _ ⟨.int (g i),H,I.tok _,⟨_,rfl⟩,q⟩
theorem xH:C7 X (unaryOp .USub) (rU fun i=>.int (-i)):=EI fun _ _ _ _ _ q=>neg_int q
end
def xI:V->V->Bool
 | .non,.non=>true | .non,.int _=>true | .int _,.non=>true | .non,.bl _=>true | .bl _,.non=>true | .non,.str _=>true | .str _,.non=>true
 | .int _,.int _=>true | .bl _,.bl _=>true | .str _,.str _=>true | .byt _,.byt _=>true
 | .int _,.str _=>true | .str _,.int _=>true | .bl _,.str _=>true | .str _,.bl _=>true
 | _,_=>false
def rEq:R2:=fun x y H Q=>xI x y=true/\Q (.bl (decide (x=y))) H
def rNe:R2:=fun x y H Q=>xI x y=true/\Q (.bl (!decide (x=y))) H
theorem mM{i j:Int}:decide (V.int i=V.int j)=(i == j):=by
 rw[Bool.eq_iff_iff]
 simp
theorem qp{i j:Bool}:decide (V.bl i=V.bl j)=(i == j):=by
 rw[Bool.eq_iff_iff]
 simp
theorem mN{i j:Str}:decide (V.str i=V.str j)=(i == j):=by
 rw[Bool.eq_iff_iff]
 simp
theorem mO{i j:Array UInt8}:decide (V.byt i=V.byt j)=(i.toList == j.toList):=by
 rw[Bool.eq_iff_iff]
 cases i
 cases j
 simp
section
variable{X:Cx}{a b c:Expr}{ta tb tc:TE}{pos:Pos}
theorem ax{pins:List (Addr × Obj)}{σ:St}{H:Hp}{s:Shared}{Q:VK}{k k':Bool}(I:Inv X pins σ H s)(q:Q (.bl k) H)(e:k=k'):EP X pins σ Q (.bool k') s:=by
 subst e
 exact⟨.bl k,H,I,rfl,q⟩
theorem op_eq:OpR X (compareOp .Eq) rEq:=by
 intro pins s σ H x y v u Q I rx ry h
 obtain⟨hs,q⟩:=h
 cases x with
 | non =>
  cases rx
  cases y with
  | non=>cases ry;exact PySem.EqNone.eq_none_none (ax I q (by simp))
  | bl j=>cases ry;exact PySem.EqNone.eq_none_bool (ax I q (by simp))
  | int j=>obtain⟨t',rfl⟩:=ry;exact PySem.EqNone.eq_none_int (ax I q (by simp))
  | str j=>obtain⟨t',rfl⟩:=ry;exact PySem.EqNone.eq_none_str (ax I q (by simp))
  | _=>exact absurd (show false=true from hs) Bool.false_ne_true
 | bl i =>
  cases rx
  cases y with
  | non=>cases ry;exact PySem.EqNone.eq_bool_none (ax I q (by simp))
  | bl j=>cases ry;exact eq_bool (ax I q qp)
  | str j=>obtain⟨t',rfl⟩:=ry;exact PySem.EqMixed.eq_bool_str (ax I q (by simp))
  | _=>exact absurd (show false=true from hs) Bool.false_ne_true
 | int i =>
  obtain⟨t,rfl⟩:=rx
  cases y with
  | non=>cases ry;exact PySem.EqNone.eq_int_none (ax I q (by simp))
  | int j=>obtain⟨t',rfl⟩:=ry;exact eq_int (ax I q mM)
  | str j=>obtain⟨t',rfl⟩:=ry;exact PySem.EqMixed.eq_int_str (ax I q (by simp))
  | _=>exact absurd (show false=true from hs) Bool.false_ne_true
 | str i =>
  obtain⟨t,rfl⟩:=rx
  cases y with
  | non=>cases ry;exact PySem.EqNone.eq_str_none (ax I q (by simp))
  | bl j=>cases ry;exact PySem.EqMixed.eq_str_bool (ax I q (by simp))
  | int j=>obtain⟨t',rfl⟩:=ry;exact PySem.EqMixed.eq_str_int (ax I q (by simp))
  | str j=>obtain⟨t',rfl⟩:=ry;exact eq_str (ax I q mN)
  | _=>exact absurd (show false=true from hs) Bool.false_ne_true
 | byt i =>
  obtain⟨t,rfl⟩:=rx
  cases y with
  | byt j=>obtain⟨t',rfl⟩:=ry;exact PySem.W.eq_bytes (ax I q mO)
  | _=>exact absurd (show false=true from hs) Bool.false_ne_true
 | _=>cases y<;>exact absurd (show false=true from hs) Bool.false_ne_true
theorem op_ne:OpR X (compareOp .NotEq) rNe:=by
 intro pins s σ H x y v u Q I rx ry h
 obtain⟨hs,q⟩:=h
 cases x with
 | non =>
  cases rx
  cases y with
  | non=>cases ry;exact PySem.EqNone.ne_none_none (ax I q (by simp))
  | bl j=>cases ry;exact PySem.EqNone.ne_none_bool (ax I q (by simp))
  | int j=>obtain⟨t',rfl⟩:=ry;exact PySem.EqNone.ne_none_int (ax I q (by simp))
  | str j=>obtain⟨t',rfl⟩:=ry;exact PySem.EqNone.ne_none_str (ax I q (by simp))
  | _=>exact absurd (show false=true from hs) Bool.false_ne_true
 | bl i =>
  cases rx
  cases y with
  | non=>cases ry;exact PySem.EqNone.ne_bool_none (ax I q (by simp))
  | bl j=>cases ry;exact ne_bool (ax I q (congrArg not qp))
  | str j=>obtain⟨t',rfl⟩:=ry;exact PySem.EqMixed.ne_bool_str (ax I q (by simp))
  | _=>exact absurd (show false=true from hs) Bool.false_ne_true
 | int i =>
  obtain⟨t,rfl⟩:=rx
  cases y with
  | non=>cases ry;exact PySem.EqNone.ne_int_none (ax I q (by simp))
  | int j=>obtain⟨t',rfl⟩:=ry;exact ne_int (ax I q (congrArg not mM))
  | str j=>obtain⟨t',rfl⟩:=ry;exact PySem.EqMixed.ne_int_str (ax I q (by simp))
  | _=>exact absurd (show false=true from hs) Bool.false_ne_true
 | str i =>
  obtain⟨t,rfl⟩:=rx
  cases y with
  | non=>cases ry;exact PySem.EqNone.ne_str_none (ax I q (by simp))
  | bl j=>cases ry;exact PySem.EqMixed.ne_str_bool (ax I q (by simp))
  | int j=>obtain⟨t',rfl⟩:=ry;exact PySem.EqMixed.ne_str_int (ax I q (by simp))
  | str j=>obtain⟨t',rfl⟩:=ry;exact ne_str (ax I q (congrArg not mN))
  | _=>exact absurd (show false=true from hs) Bool.false_ne_true
 | byt i =>
  obtain⟨t,rfl⟩:=rx
  cases y with
  | byt j=>obtain⟨t',rfl⟩:=ry;exact PySem.W.ne_bytes (ax I q (congrArg not mO))
  | _=>exact absurd (show false=true from hs) Bool.false_ne_true
 | _=>cases y<;>exact absurd (show false=true from hs) Bool.false_ne_true
theorem Ab:OpR X (compareOp .Lt) (t9 fun i j=>.bl (decide (i < j))):=um fun _ _ _ _ _ _ _ q=>lt_int q
theorem Ac:OpR X (compareOp .LtE) (t9 fun i j=>.bl (decide (i≤j))):=um fun _ _ _ _ _ _ _ q=>le_int q
theorem Ad:OpR X (compareOp .Gt) (t9 fun i j=>.bl (decide (j < i))):=um fun _ _ _ _ _ _ _ q=>gt_int q
theorem Ae:OpR X (compareOp .GtE) (t9 fun i j=>.bl (decide (j≤i))):=um fun _ _ _ _ _ _ _ q=>ge_int q
theorem OpR.or{f:Value->Value->Sem Value}{r r':R2}(h:OpR X f r)(h':OpR X f r'):OpR X f (fun x y H Q=>r x y H Q\/r' x y H Q):=by
 intro pins s σ H x y v u Q I rx ry q
 rcases q with q | q
 ·exact h pins s σ H x y v u Q I rx ry q
 ·exact h' pins s σ H x y v u Q I rx ry q
theorem jh{op:CmpOp}{r:R2}(ho:OpR X (compareOp op) r)(ha:PE X a ta)(hb:PE X b tb)(hm:behindInMarks op b=false):PE X (.Compare a [op] [b] pos) (wc r ta tb):=by
 intro pins s σ H Q I h
 exact wpAny_Compare1 (xB ha hb I h fun v u s2 x y H2 I2 rx ry q=>ho pins s2 σ H2 x y v u Q I2 rx ry q) hm
def wg(t:TE):TT:=fun σ H Q=>t σ H fun x H'=>∃k,x=.bl k/\Q k H'
theorem ji{op:CmpOp}{r:R2}(ho:OpR X (compareOp op) r)(ha:PE X a ta)(hb:PE X b tb)(hm:behindInMarks op b=false):PT X (.Compare a [op] [b] pos) (wg (wc r ta tb)):=by
 intro pins s σ H Q I h
 refine wpAny_isTrue_Compare1 (thn (ha pins s σ H _ I h) fun v s1 ⟨x,H1,I1,r1,q1⟩=>thn (hb pins s1 σ H1 _ I1 q1) fun u s2 ⟨y,H2,I2,r2,q2⟩ =>
  thn (ho pins s2 σ H2 x y v u _ I2 r1 r2 q2) fun c s3 ⟨z,H3,I3,r3,k,e,q3⟩=>?_) hm
 subst e
 cases r3
 exact wpAny_truthy_bool ⟨H3,I3,q3⟩
def xJ(K:PySem.W.Frag)(x:V)(H:Hp)(k:Bool):Prop :=
 match x with
 | .non=>k=false
 | .bl b=>k=b
 | .int i=>k=(i != 0)
 | .str y=>y.length≤sizeLine/\k=((y.length:Int) != 0)
 | .byt y=>y.size≤sizeLine/\k=((y.size:Int) != 0)
 | .ref p=>(∃xs,SqL K H p xs/\k=!xs.isEmpty)\/(∃xs,SqT K H p xs/\k=!xs.isEmpty)\/∃kvs,H p=some (.dK kvs)/\k=!kvs.isEmpty
 | _=>False
theorem lu{κ:Type}{kvs:List (κ × V)}{vs:List (κ × Value)}(r:KV kvs vs):(!vs.isEmpty)=!kvs.isEmpty:=by
 cases r<;>rfl
theorem gP{xs:List V}{its:List Value}(r:Vals xs its):(!its.toArray.isEmpty)=!xs.isEmpty:=by
 cases r<;>simp
theorem line63:(sizeLine:Nat) < 2 ^ 63:=by rw[sizeLine_eq];decide
theorem xK:C8 X (fun x H Q=>∃k,xJ X.K x H k/\Q k H):=by
 intro pins s σ H x v Q I rx h
 obtain⟨k,e,q⟩:=h
 have hl:=line63
 have hs:sizeLine=16777216:=sizeLine_eq
 cases x with
 | non =>
  cases rx
  have e':k=false:=e
  subst e'
  exact truthy_none ⟨H,I,q⟩
 | bl b =>
  cases rx
  have e':k=b:=e
  subst e'
  exact wpAny_truthy_bool ⟨H,I,q⟩
 | int i =>
  obtain⟨t,rfl⟩:=rx
  have e':k=(i != 0):=e
  subst e'
  exact PySem.P.truthy_int ⟨H,I,q⟩
 | str y =>
  obtain⟨t,rfl⟩:=rx
  obtain⟨hy,e'⟩:y.length≤sizeLine/\k=((y.length:Int) != 0):=e
  subst e'
  exact PySem.P.truthy_str (by omega) ⟨H,I.tok _,q⟩
 | byt y =>
  obtain⟨t,rfl⟩:=rx
  obtain⟨hy,e'⟩:y.size≤sizeLine/\k=((y.size:Int) != 0):=e
  subst e'
  exact PySem.W.truthy_bytes (by omega) ⟨H,I.tok _,q⟩
 | ref p =>
  cases rx
  have e':(∃xs,SqL X.K H p xs/\k=!xs.isEmpty)\/(∃xs,SqT X.K H p xs/\k=!xs.isEmpty)\/∃kvs,H p=some (.dK kvs)/\k=!kvs.isEmpty:=e
  rcases e' with ⟨xs,hx,e'⟩ | ⟨xs,hx,e'⟩ | ⟨kvs,hx,e'⟩
  ·subst e'
   obtain⟨its,r,pl,hz⟩:=I.list hx
   have hlen:=r.length
   exact wpAny_truthy_list pl.isList (by simp only[List.size_toArray];omega) ⟨H,I.tok _,by rw[gP r];exact q⟩
  ·subst e'
   obtain⟨its,r,pl,hz⟩:=I.tuple hx
   have hlen:=r.length
   exact truthy_tuple pl (by simp only[List.size_toArray];omega) ⟨H,I.tok _,by rw[gP r];exact q⟩
  ·subst e'
   obtain⟨hz,hS,vs,r,m⟩:kvs.length≤sizeLine/\(p == sysModules)=false/\∃vs,KV kvs vs/\s.heap.DictOf (aT X.prog X.w) p vs:=I.hok p _ hx
   have hlen:kvs.length=vs.length:=Paired.length r
   exact wpAny_truthy_dict hS m (by omega) ⟨H,I.tok _,by rw[lu r];exact q⟩
 | _=>exact (show False from e).elim
theorem kc(ha:PE X a ta)(he:∀whole,isTrue a X.env whole=(do let v <- whole;standAt a.pos;holding [v] (truthy v))) :
  PT X a (fun σ H Q=>ta σ H fun x H'=>∃k,xJ X.K x H' k/\Q k H'):=by
 intro pins s σ H Q I h
 exact isTrue_plain (thn (ha pins s σ H _ I h) fun v s1 ⟨x,H1,I1,r1,q1⟩=>xK pins s1 σ H1 x v Q I1 r1 q1) (he _)
theorem vals1{x:V}{us:List Value}(r:Vals [x] us):∃u,us=[u]/\RelV x u:=by
 cases r with
 | cons r1 r2=>cases r2;exact⟨_,rfl,r1⟩
theorem vals2{x y:V}{us:List Value}(r:Vals [x,y] us):∃u w',us=[u,w']/\RelV x u/\RelV y w':=by
 cases r with
 | cons r1 r2 =>
  cases r2 with
  | cons r3 r4=>cases r4;exact⟨_,_,rfl,r1,r3⟩
theorem qq:bo X (.builtin "abs") (fun xs H Q=>∃i,xs=[.int i]/\Q (.int (if i < 0 then -i else i)) H):=by
 intro pins s σ H xs us Q I r h
 obtain⟨i,rfl,q⟩:=h
 obtain⟨u,rfl,t,rfl⟩:=vals1 r
 exact call_abs_int fun u tk=>⟨.int (if i < 0 then -i else i),H,I.tok _,⟨_,rfl⟩,q⟩
theorem oV(hc:X.calm=true):bo X (.builtin "max") (fun xs H Q=>∃i j,xs=[.int i,.int j]/\Q (.int (if j > i then j else i)) H):=by
 intro pins s σ H xs us Q I r h
 obtain⟨i,j,rfl,q⟩:=h
 obtain⟨u,w',rfl,⟨t,rfl⟩,⟨t',rfl⟩⟩:=vals2 r
 refine max_two_ints (I.ok.hd hc) fun h' tk k=>⟨_,H,I.kept k,?_,q⟩
 by_cases hj:j > i
 ·rw[if_pos hj,if_pos hj];exact⟨_,rfl⟩
 ·rw[if_neg hj,if_neg hj];exact⟨_,rfl⟩
theorem oW(hc:X.calm=true):bo X (.builtin "min") (fun xs H Q=>∃i j,xs=[.int i,.int j]/\Q (.int (if j < i then j else i)) H):=by
 intro pins s σ H xs us Q I r h
 obtain⟨i,j,rfl,q⟩:=h
 obtain⟨u,w',rfl,⟨t,rfl⟩,⟨t',rfl⟩⟩:=vals2 r
 refine min_two_ints (I.ok.hd hc) fun h' tk k=>⟨_,H,I.kept k,?_,q⟩
 by_cases hj:j < i
 ·rw[if_pos hj,if_pos hj];exact⟨_,rfl⟩
 ·rw[if_neg hj,if_neg hj];exact⟨_,rfl⟩
theorem oX:bo X (.type "int") (fun xs H Q=>(∃i,xs=[.int i]/\Q (.int i) H)\/∃k,xs=[.bl k]/\Q (.int (if k then 1 else 0)) H):=by
 intro pins s σ H xs us Q I r h
 rcases h with ⟨i,rfl,q⟩ | ⟨k,rfl,q⟩
 ·obtain⟨u,rfl,t,rfl⟩:=vals1 r
  exact call_int_int ⟨.int i,H,I,⟨_,rfl⟩,q⟩
 ·obtain⟨u,rfl,r1⟩:=vals1 r
  cases r1
  exact call_int_bool ⟨.int (if k then 1 else 0),H,I.tok _,⟨_,rfl⟩,q⟩
def Af(K:PySem.W.Frag)(x:V)(H:Hp)(n:Nat):Prop :=
 match x with
 | .str y=>y.length≤sizeLine/\n=y.length
 | .byt y=>y.size≤sizeLine/\n=y.size
 | .ref p=>(∃xs,SqL K H p xs/\n=xs.length)\/∃xs,SqT K H p xs/\n=xs.length
 | _=>False
theorem kf:bo X (.builtin "len") (fun xs H Q=>∃x n,xs=[x]/\Af X.K x H n/\Q (.int n) H):=by
 intro pins s σ H xs us Q I r h
 obtain⟨x,n,rfl,e,q⟩:=h
 obtain⟨u,rfl,rx⟩:=vals1 r
 have hl:=line63
 have hs:sizeLine=16777216:=sizeLine_eq
 cases x with
 | str y =>
  obtain⟨t,rfl⟩:=rx
  obtain⟨hy,e'⟩:y.length≤sizeLine/\n=y.length:=e
  subst e'
  exact len_str (by omega) ⟨.int _,H,I.tok _,⟨_,rfl⟩,q⟩
 | byt y =>
  obtain⟨t,rfl⟩:=rx
  obtain⟨hy,e'⟩:y.size≤sizeLine/\n=y.size:=e
  subst e'
  exact PySem.W.len_bytes (by omega) ⟨.int _,H,I.tok _,⟨_,rfl⟩,q⟩
 | ref p =>
  cases rx
  have e':(∃xs,SqL X.K H p xs/\n=xs.length)\/∃xs,SqT X.K H p xs/\n=xs.length:=e
  rcases e' with ⟨xs,hx,e'⟩ | ⟨xs,hx,e'⟩
  ·subst e'
   obtain⟨its,r',pl,hz⟩:=I.list hx
   have hlen:=r'.length
   exact Calls.call_len_list pl.isList (by simp only[List.size_toArray];omega) ⟨.int xs.length,H,I.tok _,⟨_,by simp only[List.size_toArray];rw[hlen]⟩,q⟩
  ·subst e'
   obtain⟨its,r',pl,hz⟩:=I.tuple hx
   have hlen:=r'.length
   exact len_tuple pl (by simp only[List.size_toArray];omega) ⟨.int xs.length,H,I.tok _,⟨_,by simp only[List.size_toArray];rw[hlen]⟩,q⟩
 | _=>exact (show False from e).elim
end
end
section
structure ObjM (h:Heap)(x dx C:Addr)(mA:Str->Option Value):Prop where
 obj:h.get? x=some (PySem.W.instObj C dx)
 ns:h.Ns1 dx mA
 ne:dx≠x
theorem oY{h:Heap}{dx:Addr}{mA:Str->Option Value}(n:h.Ns1 dx mA):∃od,h.get? dx=some od/\∀name,PySem.W.lookIn name od=some (mA name):=by
 obtain⟨o,es,ep,ho,hd,hk,_,hm⟩:=n
 refine⟨o,ho,fun name=>?_⟩
 have e:=hm name
 unfold nsFind findBy at e
 rw[<- Array.find?_toList]at e
 unfold PySem.W.lookIn
 rw[hd]
 dsimp only
 split
 ·rename_i y q
  rw[q]at e
  exact congrArg some e
 ·rename_i q
  rw[q]at e
  have a:es.toList.any (·.refKey)=false:=by
   rw[List.any_eq_false]
   intro y hy
   obtain⟨z,t,hkey⟩:=hk y (Array.mem_toList_iff.mp hy)
   simp[DictEntry.refKey,hkey]
  have a':¬ es.toList.any (·.refKey)=true:=by rw[a];exact Bool.false_ne_true
  rw[if_neg a']
  exact congrArg some e
theorem ObjM.look{h:Heap}{x dx C:Addr}{mA:Str->Option Value}(I:ObjM h x dx C mA):∃od,PySem.W.InstAt h x (PySem.W.instObj C dx) C (some od)/\∀name,PySem.W.lookIn name od=some (mA name) :=
 let ⟨od,ho,hl⟩:=oY I.ns
 ⟨od,⟨I.obj,rfl,rfl,ho⟩,hl⟩
section
variable{prog:Program}{w:World}{A:Around}{E:Value->Shared->Prop}{s:Shared}{K:PySem.W.Frag}{x dx C f:Addr}{mA:Str->Option Value}{name:Str}{v:Value}
theorem get_map{expr:Bool}{Q:Value->Shared->Prop}(X:K.In s.heap)(I:ObjM s.heap x dx C mA)(hg:PySem.W.plainGet K C name=true)(hh:PySem.W.hasDictIn K C=true)
  (ha:PySem.W.findIn K (.ref C) name=some none) (hv:mA name=some v) (hv':PySem.W.handedIn v=true) (h:Q v { s with toks:=s.toks + 1 }) :
  wpAny (model prog w) A (getAttr (.ref x) name expr) Q E s:=by
 obtain⟨od,J,hl⟩:=I.look
 exact PySem.W.get_value X J (PySem.W.plainGet_of hg).1 (PySem.W.findObj_own hh ha rfl (by rw[hl,hv])) hv' h
theorem qr{pl:Sem Bool}{Q:Value × List Value->Shared->Prop}(X:K.In s.heap)(I:ObjM s.heap x dx C mA)(hg:PySem.W.plainGet K C name=true)
  (hf:PySem.W.findIn K (.ref C) name=some (some (.ref f))) (ht:PySem.W.isFn K (.ref f)=true) (hv:mA name=none) (h:Q (.ref f,[.ref x]) s) :
  wpAny (model prog w) A (getMethod (.ref x) name pl) Q E s:=by
 obtain⟨od,J,hl⟩:=I.look
 exact PySem.W.method_fn X J (PySem.W.plainGet_of hg).1 (PySem.W.plainGet_of hg).2 hf (beq_iff_eq.mp ht) (by show (PySem.W.lookIn name od).map (·.isSome)=some false;rw[hl,hv];rfl) h
theorem uq{ns:List Str}{Q:Unit->Shared->Prop}(X:K.In s.heap)(I:ObjM s.heap x dx C mA)
  (hs:PySem.W.findIn K (.ref C) "__setattr__"=some (some (.builtin "object.__setattr__"))) (hp:PySem.W.plainOver K C=true) (ht:PySem.W.takerIn K C name=some none) (hh:PySem.W.hasDictIn K C=true)
  (hw:PySem.Within mA ns) (hsz:ns.length≤sizeLine)
  (h:∀h',ObjM h' x dx C (fun y=>if y=name then some v else mA y)->Heap.SameBut dx s.heap h'->Q () { s with heap:=h',toks:=s.toks + 2 }) :
  wpAny (model prog w) A (setAttr (.ref x) name v) Q E s:=by
 obtain⟨od,J,hl⟩:=I.look
 refine PySem.W.set_plain X J hs (PySem.W.osa_open (s:={ s with toks:=s.toks + 1 }) (r:=none) X J hp ht fun b=>?_)
 obtain⟨cd,hc,hd'⟩:=PySem.W.any_some hh
 have hx:s.heap.get? x=some ⟨.ref C,some dx,.plain,#[]⟩:=I.obj
 refine wpAny_bind (wpAny_pure (wpAny_bind (wpAny_bind (wpAny_loadPart hx (wpAny_bind (PySem.W.Looks.here (s:={ s with toks:=s.toks + 1 }) (PySem.W.looks_clsIn X hc) ?_))))))
 rw[hd']
 refine wpAny_pure (a:=some dx) (wpAny_bind (wpAny_pure (wpAny_bind ?_)))
 refine wpAny_nsSet1 (s:={ s with toks:=s.toks + 1 }) I.ns fun h' hn2 hs2=>?_
 obtain⟨oD,esD,epD,hoD,hdD,hcD⟩:=hn2.count (PySem.Within.cons name v hw)
 refine wpAny_bind (wpAny_lookBehind hoD (by rw[hdD];exact pastItsLine_dict (Nat.le_trans hcD (by rw[List.length_cons];omega))) ?_)
 exact wpAny_pure (h _ ⟨(hs2.2 _ (Ne.symm I.ne)).trans I.obj,hn2,I.ne⟩ hs2)
theorem qt{R:Result->Shared->Prop}{vs:List Value}{kw:List (Str × Value)}(X:K.In s.heap)(hm:PySem.W.makesIn K C=true)
  (hi:PySem.W.findIn K (.ref C) "__init__"=some (some (.ref f))) (hf:PySem.W.typeIn K (.ref f)=some (.type "function"))
  (h:codeAny (model prog w) (A.under (.builtin "type.__call__" ⟨.ref C::vs,kw⟩)) (.call (.ref f) ⟨.ref (s.heap.objs.size + 1)::vs,kw⟩) (PySem.W.InitBack (s.heap.objs.size + 1) R)
   { s with heap:=(s.heap.push PySem.W.emptyDict).push (PySem.W.instObj C s.heap.objs.size) }) :
  codeAny (model prog w) A (.call (.ref C) ⟨vs,kw⟩) R s:=by
 obtain⟨hh,g,d,t,os⟩:=s
 exact PySem.W.make_core (PySem.W.makes_of X hm) (PySem.W.looks_findIn X hi) (fun self=>PySem.W.bind_fn X self hf) (.inl rfl) h
end
def bZ(f:Str)(v:V):List (Str × V)->List (Str × V)
 | []=>[(f,v)]
 | (g,x)::r=>if g=f then (g,v)::r else (g,x)::bZ f v r
theorem gg(f g:Str)(v:V):∀fs:List (Str × V),(bZ f v fs).lookup g=if g=f then some v else fs.lookup g
 | []=>by
  show List.lookup g [(f,v)]=_
  by_cases h:g=f
  ·have hb:(g == f)=true:=beq_iff_eq.mpr h
   simp only[List.lookup,hb,if_pos h]
  ·have hb:(g == f)=false:=beq_eq_false_iff_ne.mpr h
   simp only[List.lookup,hb,if_neg h]
 | (k,x)::r=>by
  have ih:=gg f g v r
  rw[show bZ f v ((k,x)::r)=(if k=f then (k,v)::r else (k,x)::bZ f v r) from rfl]
  by_cases hk:k=f
  ·rw[if_pos hk]
   by_cases h:g=k
   ·have hb:(g == k)=true:=beq_iff_eq.mpr h
    simp only[List.lookup,hb,if_pos (h.trans hk)]
   ·have hb:(g == k)=false:=beq_eq_false_iff_ne.mpr h
    simp only[List.lookup,hb,if_neg (fun e:g=f=>h (e.trans hk.symm))]
  ·rw[if_neg hk]
   by_cases h:g=k
   ·have hb:(g == k)=true:=beq_iff_eq.mpr h
    simp only[List.lookup,hb,if_neg (fun e:g=f=>hk (h.symm.trans e))]
   ·have hb:(g == k)=false:=beq_eq_false_iff_ne.mpr h
    simp only[List.lookup,hb]
    exact ih
theorem fH(f:Str)(v:V):∀fs:List (Str × V),f∈(bZ f v fs).map (·.1)/\∀g,g∈fs.map (·.1)->g∈(bZ f v fs).map (·.1)
 | []=>⟨by simp[bZ],fun g h=>by simp at h⟩
 | (k,x)::r=>by
  obtain⟨i1,i2⟩:=fH f v r
  rw[show bZ f v ((k,x)::r)=(if k=f then (k,v)::r else (k,x)::bZ f v r) from rfl]
  by_cases hk:k=f
  ·rw[if_pos hk]
   subst hk
   exact⟨by simp,fun g h=>by simpa using h⟩
  ·rw[if_neg hk]
   refine⟨?_,fun g h=>?_⟩
   ·rw[List.map_cons]
    exact List.mem_cons_of_mem _ i1
   ·rw[List.map_cons]at h ⊢
    rcases List.mem_cons.mp h with e | e
    ·exact List.mem_cons.mpr (.inl e)
    ·exact List.mem_cons_of_mem _ (i2 g e)
theorem gh(f:Str)(v:V):∀fs:List (Str × V),(bZ f v fs).length≤fs.length + 1
 | []=>by simp[bZ]
 | (k,x)::r=>by
  have ih:=gh f v r
  rw[show bZ f v ((k,x)::r)=(if k=f then (k,v)::r else (k,x)::bZ f v r) from rfl]
  by_cases hk:k=f
  ·rw[if_pos hk,List.length_cons,List.length_cons];omega
  ·rw[if_neg hk,List.length_cons,List.length_cons];omega
theorem RelO.some_of{v:V}{o:Option Value}(r:RelO (some v) o):∃u,o=some u/\RelV v u:=by
 cases o with
 | none=>exact (show False from r).elim
 | some u=>exact⟨u,rfl,r⟩
theorem RelO.none_of{o:Option Value}(r:RelO none o):o=none:=by
 cases o with
 | none=>rfl
 | some u=>exact (show False from r).elim
theorem oZ{v:V}{u:Value}(r:RelV v u):PySem.W.handedIn u=true:=by
 cases v with
 | non=>cases (show u=Value.none from r);rfl
 | bl b=>cases (show u=Value.bool b from r);rfl
 | int i=>obtain⟨t,e⟩:=(show ∃t,u=Value.int i t from r);cases e;rfl
 | str x=>obtain⟨t,e⟩:=(show ∃t,u=Value.str x t from r);cases e;rfl
 | byt b=>obtain⟨t,e⟩:=(show ∃t,u=Value.bytes b t from r);cases e;rfl
 | flt b=>obtain⟨t,e⟩:=(show ∃t,u=Value.float b t from r);cases e;rfl
 | ref a=>cases (show u=Value.ref a from r);rfl
 | ty n=>cases (show u=Value.type n from r);rfl
section
variable{P:Program}{w:World}{H H':Hp}{h h':Heap}{a C dx:Addr}{fs fs':List (Str × V)}
theorem jk(hok:HOk P w H h)(e:H a=some (.ins C dx fs)):∃mA,ObjM h a dx C mA/\(∀f,RelO (fs.lookup f) (mA f))/\PySem.Within mA (fs.map (·.1))/\fs.length≤1000/\H dx=some (.own a):=by
 obtain⟨d,z,ne,ob,mA,n,r,q⟩:=(show ObjOk P w H h a (.ins C dx fs) from hok a _ e)
 exact⟨mA,⟨ob,n,ne⟩,r,q,z,d⟩
end
structure Cls (K:PySem.W.Frag)(C:Addr):Prop where
 pg:PySem.W.plainGet K C Str.empty=true
 hd:PySem.W.hasDictIn K C=true
 po:PySem.W.plainOver K C=true
 sa:PySem.W.findIn K (.ref C) "__setattr__"=some (some (.builtin "object.__setattr__"))
theorem Cls.get{K:PySem.W.Frag}{C:Addr}(c:Cls K C)(f:Str):PySem.W.plainGet K C f=true:=c.pg
def NoAttr(K:PySem.W.Frag)(C:Addr)(f:Str):Prop:=PySem.W.findIn K (.ref C) f=some none
theorem NoAttr.taker{K:PySem.W.Frag}{C:Addr}{f:Str}(n:NoAttr K C f):PySem.W.takerIn K C f=some none:=by
 unfold PySem.W.takerIn
 rw[show PySem.W.findIn K (.ref C) f=some none from n]
 rfl
structure Meth (K:PySem.W.Frag)(C:Addr)(m:Str)(f:Addr):Prop where
 at_:PySem.W.findIn K (.ref C) m=some (some (.ref f))
 fn:PySem.W.isFn K (.ref f)=true
 kp:PySem.W.keepIn K (.ref f)=true
section
variable{X:Cx}{pins:List (Addr × Obj)}{σ:St}{H:Hp}{s:Shared}{a C dx:Addr}{fs:List (Str × V)}{f:Str}{v:V}{A:Around}{E:Value->Shared->Prop}
theorem gQ{b:Bool}{Q:Value->Shared->Prop}(I:Inv X pins σ H s)(e:H a=some (.ins C dx fs))(c:Cls X.K C)(n:NoAttr X.K C f)(l:fs.lookup f=some v)
  (h:∀u s',Inv X pins σ H s'->RelV v u->Q u s'):wpAny (model X.prog X.w) A (getAttr (.ref a) f b) Q E s:=by
 obtain⟨mA,O,r,_,_,_⟩:=jk I.hok e
 obtain⟨u,hu,ru⟩:=RelO.some_of (v:=v) (o:=mA f) (by rw[<- l];exact r f)
 exact get_map I.kIn O (c.get f) c.hd n hu (oZ ru) (h u _ (I.tok _) ru)
theorem gR{m:Str}{g:Addr}{pl:Sem Bool}{Q:Value × List Value->Shared->Prop}(I:Inv X pins σ H s)(e:H a=some (.ins C dx fs))(c:Cls X.K C)(k:Meth X.K C m g)(l:fs.lookup m=none)
  (h:Q (.ref g,[.ref a]) s):wpAny (model X.prog X.w) A (getMethod (.ref a) m pl) Q E s:=by
 obtain⟨mA,O,r,_,_,_⟩:=jk I.hok e
 have hn:mA m=none:=RelO.none_of (by rw[<- l];exact r m)
 exact qr I.kIn O (c.get m) k.at_ k.fn hn h
theorem gS{y:V}{u:Value}{Q:Unit->Shared->Prop}(I:Inv X pins σ H s)(e:H a=some (.ins C dx fs))(c:Cls X.K C)(n:NoAttr X.K C f)(hl:fs.length < 1000)(ry:RelV y u)
  (h:∀s',Inv X pins σ (upd H a (.ins C dx (bZ f y fs))) s'->Q () s'):wpAny (model X.prog X.w) A (setAttr (.ref a) f u) Q E s:=by
 obtain⟨mA,O,r,wi,_,ho⟩:=jk I.hok e
 have hz:(fs.map (·.1)).length≤sizeLine:=by rw[List.length_map,sizeLine_eq];omega
 refine uq I.kIn O c.sa c.po n.taker c.hd wi hz fun h' O' sb=>h _ ?_
 have hd:∃o,h'.get? dx=some o:=let ⟨o,_,_,e',_⟩:=O'.ns;⟨o,e'⟩
 refine I.write (x:=a) (e:=dx) (by rw[e];exact True.intro) (.inr ho) (fun b q hb z=>(sb.2 b hb).trans z) hd ?_
 refine⟨by rw[upd_ne O.ne];exact ho,?_,O.ne,O'.obj,_,O'.ns,fun g=>?_,fun g hg=>?_⟩
 ·have:=gh f y fs;omega
 ·show RelO ((bZ f y fs).lookup g) (if g=f then some u else mA g)
  rw[gg]
  by_cases q:g=f
  ·rw[if_pos q,if_pos q];exact ry
  ·rw[if_neg q,if_neg q];exact r g
 ·by_cases q:g=f
  ·rw[q];exact (fH f y fs).1
  ·refine (fH f y fs).2 g (wi g fun z=>hg ?_)
   show (if g=f then some u else mA g)=none
   rw[if_neg q];exact z
theorem Inv.made(I:Inv X pins σ H s):Inv X pins σ (upd (upd H s.heap.objs.size (.own (s.heap.objs.size + 1))) (s.heap.objs.size + 1) (.ins C s.heap.objs.size []))
  { s with heap:=(s.heap.push PySem.W.emptyDict).push (PySem.W.instObj C s.heap.objs.size) }:=by
 have e1:(s.heap.push PySem.W.emptyDict).get? s.heap.objs.size=some PySem.W.emptyDict:=Heap.get?_push_size s.heap rfl
 have e2:((s.heap.push PySem.W.emptyDict).push (PySem.W.instObj C s.heap.objs.size)).get? (s.heap.objs.size + 1)=some (PySem.W.instObj C s.heap.objs.size):=by
  have:=Heap.get?_push_size (s.heap.push PySem.W.emptyDict) (o:=PySem.W.instObj C s.heap.objs.size) rfl
  rwa [Heap.size_push]at this
 have e3:(s.heap.push PySem.W.emptyDict).Ns s.heap.objs.size (fun _=>none):=⟨PySem.W.emptyDict,#[],_,e1,rfl,(fun e he=>absurd he (by simp)),fun _=>rfl⟩
 have I1:=I.laid (a:=s.heap.objs.size) (o:=.own (s.heap.objs.size + 1)) (h':=s.heap.push PySem.W.emptyDict) (t':=s.toks) (fun b u q=>Heap.get?_push_of_some _ q) (Nat.le_refl _) ⟨_,e1⟩
 refine I1.laid (a:=s.heap.objs.size + 1) (o:=.ins C s.heap.objs.size []) (t':=s.toks) (fun b u q=>Heap.get?_push_of_some _ q) (Nat.le_of_eq (Heap.size_push _ _)) ?_
 have ne:s.heap.objs.size≠s.heap.objs.size + 1:=Nat.ne_of_lt (Nat.lt_succ_self _)
 refine⟨by rw[upd_ne ne,aj],Nat.zero_le _,ne,e2,fun _=>none,(Heap.Ns1.of_empty e3).at fun o q=>Heap.get?_push_of_some _ q,fun _=>True.intro,fun y hy=>absurd rfl hy⟩
theorem attr_of{prog:Program}{w:World}{env:Env}{e:Expr}{f:Str}{pos:Pos}{s:Shared}{Q:Value->Shared->Prop}(hb:attributeBase e f env (eval e env)=eval e env)
  (h:wpAny (model prog w) A (eval e env) (fun o s₁=>wpAny (model prog w) A (getAttr o f true) Q E s₁) E s):wpAny (model prog w) A (eval (.Attribute e f pos) env) Q E s :=
 Attribute_any_ h (by rw[arm_eval_Attribute,hb])
end
def Dc(K:PySem.W.Frag)(ta:TE)(f:Str):TE:=fun σ H Q=>ta σ H fun x H1=>∃a C dx fs v,x=.ref a/\H1 a=some (.ins C dx fs)/\Cls K C/\NoAttr K C f/\fs.lookup f=some v/\Q v H1
def De(K:PySem.W.Frag)(ta tv:TE)(f:Str):TS:=fun D σ H=>tv σ H fun y H1=>ta σ H1 fun x H2=>∃a C dx fs,x=.ref a/\H2 a=some (.ins C dx fs)/\Cls K C/\NoAttr K C f/\fs.length < 1000 /\
 D.nx σ (upd H2 a (.ins C dx (bZ f y fs)))
def ur(X:Cx)(op:Operator)(rd:V->V->Hp->VK->Prop):Prop :=
 ∀(pins:List (Addr × Obj)) (s:Shared) (σ:St) (H:Hp) (x y:V) (u v:Value) (Q:VK),Inv X pins σ H s->RelV x u->RelV y v->rd x y H Q->wpAny (model X.prog X.w) X.A (inplaceOp op u v) (EP X pins σ Q) X.xe s
def uv(K:PySem.W.Frag)(ta tv:TE)(rd:V->V->Hp->VK->Prop)(f:Str):TS:=fun D σ H=>ta σ H fun x H1=>∃a C dx fs v,x=.ref a/\H1 a=some (.ins C dx fs)/\Cls K C/\NoAttr K C f/\fs.lookup f=some v /\
 tv σ H1 fun y H2=>rd v y H2 fun z H3=>∃dx' fs',H3 a=some (.ins C dx' fs')/\fs'.length < 1000/\D.nx σ (upd H3 a (.ins C dx' (bZ f z fs')))
section
variable{X:Cx}{o e value:Expr}{f:Str}{pos pos' tpos:Pos}{ta tv:TE}
theorem xM(he:PE X e ta)(hb:attributeBase e f X.env (eval e X.env)=eval e X.env):PE X (.Attribute e f pos) (Dc X.K ta f):=by
 intro pins s σ H Q I h
 refine attr_of hb (thn (he pins s σ H _ I h) fun u s1 hZ=>?_)
 obtain⟨x,H1,I1,rx,a,C,dx,fs,v,ex,ea,c,n,l,q⟩:=hZ
 subst ex
 obtain rfl:u=Value.ref a:=rx
 exact gQ I1 ea c n l fun u' s2 I2 ru=>⟨v,H1,I2,ru,q⟩
theorem xN(ha:PE X o ta)(hv:PE X value tv)(hs:swapsWith value (some (.Attribute o f pos')) pos.line X.env=pure false):PS X (.Assign [.Attribute o f pos'] value pos) (De X.K ta tv f):=by
 intro pins s σ H D I h
 refine plainObj_wpAny_Assign_Attribute (thn (hv pins s σ H _ I h) fun u s1 ⟨y,H1,I1,ry,q⟩=>thn (ha pins s1 σ H1 _ I1 q) fun ov s2 hZ=>?_) hs
 obtain⟨x,H2,I2,rx,a,C,dx,fs,ex,ea,c,n,l,q2⟩:=hZ
 subst ex
 obtain rfl:ov=Value.ref a:=rx
 exact gS I2 ea c n l ry fun s3 I3=>⟨σ,_,I3,q2⟩
theorem pb{op:Operator}{rd:V->V->Hp->VK->Prop}(ha:PE X o ta)(hv:PE X value tv)(hop:ur X op rd):PS X (.AugAssign (.Attribute o f tpos) op value pos) (uv X.K ta tv rd f):=by
 intro pins s σ H D I h
 refine wpAny_AugAssign_AttributeAny (thn (ha pins s σ H _ I h) fun ov s1 hZ=>?_)
 obtain⟨x,H1,I1,rx,a,C,dx,fs,v,ex,ea,c,n,l,q⟩:=hZ
 subst ex
 obtain rfl:ov=Value.ref a:=rx
 refine gQ I1 ea c n l fun u s2 I2 ru=>thn (hv pins s2 σ H1 _ I2 q) fun w3 s3 ⟨y,H2,I3,ry,q3⟩=>thn (hop pins s3 σ H2 v y u w3 _ I3 ru ry q3) fun w4 s4 hZ=>?_
 obtain⟨z,H3,I4,rz,dx',fs',ea',l',q4⟩:=hZ
 exact gS I4 ea' c n l' rz fun s5 I5=>⟨σ,_,I5,q4⟩
def rAdd:V->V->Hp->VK->Prop:=fun x y H Q=>∃i j,x=.int i/\y=.int j/\Q (.int (i + j)) H
def rSub:V->V->Hp->VK->Prop:=fun x y H Q=>∃i j,x=.int i/\y=.int j/\Q (.int (i - j)) H
theorem xO:ur X .Add rAdd:=by
 rintro pins s σ H x y u v Q I rx ry ⟨i,j,rfl,rfl,q⟩
 obtain⟨t,rfl⟩:=(show ∃t,u=Value.int i t from rx)
 obtain⟨t',rfl⟩:=(show ∃t',v=Value.int j t' from ry)
 exact PyProof.Rows.iadd_int ⟨.int (i + j),H,I.tok _,⟨_,rfl⟩,q⟩
theorem xP:ur X .Sub rSub:=by
 rintro pins s σ H x y u v Q I rx ry ⟨i,j,rfl,rfl,q⟩
 obtain⟨t,rfl⟩:=(show ∃t,u=Value.int i t from rx)
 obtain⟨t',rfl⟩:=(show ∃t',v=Value.int j t' from ry)
 exact PyProof.Rows.isub_int ⟨.int (i - j),H,I.tok _,⟨_,rfl⟩,q⟩
end
end
section
structure Room (k:Nat)(A:Around):Prop where
 hd:A.handled=none
 dp:A.depth + 3 * k + 5 < recursionLimit
 un:A.units + 16 * k + 200 < cLine
 gd:A.guards=some []
theorem Room.deeper{k:Nat}{A:Around}(r:Room (k + 1) A)(env:Env):Room k (A.deeper env) :=
 ⟨r.hd,by have:=r.dp;show A.depth + 1 + 3 * k + 5 < _;omega,by have:=r.un;show A.units + 3 + 16 * k + 200 < _;omega,r.gd⟩
theorem lx{A:Around}{C:Addr}{us:List Value}{kw:List (Str × Value)}:(A.under (.builtin "type.__call__" ⟨.ref C::us,kw⟩)).depth=A.depth + 1:=by
 first | rfl | simp[Around.under,Code.weight,Code.isCreation,Code.isGuard,Code.isCaller,Code.frames,Code.isFrame,guardIds]
theorem ly{A:Around}{C:Addr}{us:List Value}{kw:List (Str × Value)}:(A.under (.builtin "type.__call__" ⟨.ref C::us,kw⟩)).units=A.units + 1:=by
 first | rfl | simp[Around.under,Code.cUnits,Code.frames,Code.isFrame]
theorem Room.make{k:Nat}{A:Around}(r:Room (k + 1) A)(C:Addr)(us:List Value)(kw:List (Str × Value)):Room k (A.under (.builtin "type.__call__" ⟨.ref C::us,kw⟩)) :=
 ⟨r.hd,by have:=r.dp;rw[lx];omega,by have:=r.un;rw[ly];omega,by first | exact r.gd | simp[Around.under,Code.isGuard,guardIds,r.gd]⟩
theorem Room.depth{k:Nat}{A:Around}(r:Room k A):A.depth < recursionLimit:=by have:=r.dp;omega
theorem Room.units{k:Nat}{A:Around}(r:Room k A):A.units + 64 < cLine:=by have:=r.un;omega
def tNil:TA:=fun _ H Q=>Q [] H
def Ag(ta:TE)(tr:TA):TA:=fun σ H Q=>ta σ H fun x H1=>tr σ H1 fun xs H2=>Q (x::xs) H2
section
variable{X:Cx}{e:Expr}{es:List Expr}{te:TE}{t:TA}{pos:Pos}
theorem aZ:PA X [] tNil:=fun _ _ _ _ H Q I h=>Calls.spliced_nil ⟨[],H,I,.nil,h⟩
theorem aK(ha:PE X e te)(hr:PA X es t)(hs:starEach (e::es) X.env=(false,eval e X.env)::starEach es X.env:=by rfl):PA X (e::es) (Ag te t):=by
 intro pos pins s σ H Q I h
 rw[hs]
 show wpAny _ _ (spliced ((false,eval e X.env)::backTo pos (starEach es X.env))) _ _ s
 refine Calls.spliced_cons (thn (ha pins s σ H _ I h) fun u s1 hZ=>?_)
 obtain⟨x,H1,I1,r1,q1⟩:=hZ
 exact thn (hr pos pins s1 σ H1 _ I1 q1) fun us s2 ⟨xs,H2,I2,r2,q2⟩=>⟨x::xs,H2,I2,.cons r1 r2,q2⟩
def Dg(t:TA):TE:=fun σ H Q=>t σ H fun xs H1=>xs.length≤sizeLine/\∀p,H1 p=none->Q (.ref p) (upd H1 p (.tup xs))
def Ah(t:TA):TE:=fun σ H Q=>t σ H fun xs H1=>xs.length≤sizeLine/\∀p,H1 p=none->Q (.ref p) (upd H1 p (.lst xs))
theorem gT{x1}(h:PA X es t):PE X (.Tuple es x1 pos) (Dg t):=by
 intro pins s σ H Q I hq
 refine wpAny_Tuple_spliced (thn (h pos pins s σ H _ I hq) fun us s1 ⟨xs,H1,I1,r,z,q⟩=>⟨by rw[<- r.length];exact z,?_⟩)
 have hf:H1 s1.heap.objs.size=none:=I1.hok.fresh (Nat.le_refl _)
 refine⟨.ref s1.heap.objs.size,upd H1 s1.heap.objs.size (.tup xs),I1.laid (t':=s1.toks) (fun b u e=>Heap.get?_push_of_some _ e) (Nat.le_refl _) ?_,rfl,q _ hf⟩
 exact⟨z,us,r,⟨_,Heap.get?_push_size _ rfl,rfl,_,rfl⟩⟩
theorem jl(h:PA X es t):PE X (.List es pos) (Ah t):=by
 intro pins s σ H Q I hq
 refine wpAny_List_spliced (thn (h pos pins s σ H _ I hq) fun us s1 ⟨xs,H1,I1,r,z,q⟩=>⟨by rw[<- r.length];exact z,?_⟩)
 have hf:H1 s1.heap.objs.size=none:=I1.hok.fresh (Nat.le_refl _)
 refine⟨.ref s1.heap.objs.size,upd H1 s1.heap.objs.size (.lst xs),I1.laid (t':=s1.toks) (fun b u e=>Heap.get?_push_of_some _ e) (Nat.le_refl _) ?_,rfl,q _ hf⟩
 exact⟨z,us,0,r,Heap.get?_push_size _ rfl⟩
end
abbrev Sp:=List V->Hp->VK->XK->Prop
abbrev CXT:=List Env->Hp->Shared->XK->Value->Shared->Prop
structure Env0 (P:Program)(w:World)(K:PySem.W.Frag)(mg:Str->Option Value)(base:Heap)(A:Around)(outer:List Env)(s:Shared)(H:Hp):Prop where
 frames:A.frames=some outer
 mod:Mod K mg base
 bs:∀b o,base.get? b=some o->s.heap.get? b=some o/\H b=none
 bsz:base.objs.size≤s.heap.objs.size
 funs:s.heap.FunFrames base outer
 frf:∀b∈qg outer,H b=none
 hok:HOk P w H s.heap
 bare:AllBare s.gens
def CE(outer:List Env)(P:Program)(w:World)(H:Hp)(s:Shared)(Q:VK)(u:Value)(s':Shared):Prop :=
 ∃v H',s'.os=s.os/\AllBare s'.gens/\Un (qg outer) [] H H' s.heap s'.heap/\HOk P w H' s'.heap/\RelV v u/\Q v H'
def CR(CX:CXT)(outer:List Env)(P:Program)(w:World)(H:Hp)(s:Shared)(Q:VK)(E:XK)(r:Result)(s':Shared):Prop :=
 match r with
 | .ok (.ret u)=>CE outer P w H s Q u s'
 | .ok _=>False
 | .error e=>CX outer H s E e s'
structure FnOk (P:Program)(w:World)(K:PySem.W.Frag)(mg:Str->Option Value)(base:Heap)(CX:CXT)(k:Nat)(f:Addr)(fd:FuncData)(ps:List Str)(sp:Sp):Prop where
 len:∀vs H Q E,sp vs H Q E->vs.length=ps.length
 run:∀(A:Around) (outer:List Env) (s:Shared) (H:Hp) (args:Args) (us:List Value) (vs:List V) (Q:VK) (E:XK),Room k A->Env0 P w K mg base A outer s H->BindsTo s fd args (ps.zip us)->Vals vs us->sp vs H Q E ->
  codeAny (model P w) A (.call (.ref f) args) (CR CX outer P w H s Q E) s
theorem FnOk.imp{P:Program}{w:World}{K:PySem.W.Frag}{mg:Str->Option Value}{base:Heap}{CX:CXT}{k:Nat}{f:Addr}{fd:FuncData}{ps:List Str}{sp sp':Sp}(F:FnOk P w K mg base CX k f fd ps sp)
  (h:∀vs H Q E,sp' vs H Q E->sp vs H Q E):FnOk P w K mg base CX k f fd ps sp' :=
 ⟨fun vs H Q E q=>F.len vs H Q E (h _ _ _ _ q),fun A outer s H args us vs Q E hr he hb hv hs=>F.run A outer s H args us vs Q E hr he hb hv (h _ _ _ _ hs)⟩
theorem Env0.make{P:Program}{w:World}{K:PySem.W.Frag}{mg:Str->Option Value}{base:Heap}{A:Around}{outer:List Env}{s:Shared}{H:Hp}(e:Env0 P w K mg base A outer s H)(C:Addr)(us:List Value)(kw:List (Str × Value)) :
  Env0 P w K mg base (A.under (.builtin "type.__call__" ⟨.ref C::us,kw⟩)) outer s H:=⟨by first | exact e.frames | (simpa [Around.under,Code.envs,Code.isFrame,pushEnvs] using e.frames),e.mod,e.bs,e.bsz,e.funs,e.frf,e.hok,e.bare⟩
section
variable{X:Cx}{pins:List (Addr × Obj)}{σ:St}{H:Hp}{s s':Shared}
theorem Inv.env0(I:Inv X pins σ H s):Env0 X.prog X.w X.K X.mg X.base X.A X.stack s H :=
 ⟨I.ok.frames,I.ok.mod,I.bs,Nat.le_trans I.ok.bsz I.sz,I.stack,I.stkFree,I.hok,I.bare⟩
theorem Inv.after{Q:VK}{u:Value}(I:Inv X pins σ H s)(h:CE X.stack X.prog X.w H s Q u s'):EP X pins σ Q u s':=by
 obtain⟨v,H',os,bare,un,hok,r,q⟩:=h
 obtain⟨hh,g,d,t,os'⟩:=s'
 obtain rfl:os'=s.os:=os
 exact⟨v,H',I.call (h':=hh) (g':=g) (d':=d) (t':=t) (ch:=[]) un hok bare (fun b z=>absurd z (by simp)),r,q⟩
end
def wm(sp:Sp)(dvs:List V)(E:XK)(t:TA):TE:=fun σ H Q=>t σ H fun vs H1=>sp (vs++dvs) H1 Q E
def qu(C:Addr)(m:Str)(sp:Sp)(dvs:List V)(E:XK)(ta:TE)(t:TA):TE:=fun σ H Q=>ta σ H fun x H1=>∃a dx fs,x=.ref a/\H1 a=some (.ins C dx fs)/\fs.lookup m=none /\
 t σ H1 fun vs H2=>sp (x::(vs++dvs)) H2 Q E
def wo(C:Addr)(sp:Sp)(dvs:List V)(E:XK)(t:TA):TE:=fun σ H Q=>t σ H fun vs H1=>∀x dx,H1 x=none->H1 dx=none->dx≠x ->
 sp (.ref x::(vs++dvs)) (upd (upd H1 dx (.own x)) x (.ins C dx [])) (fun v H2=>v=.non/\Q (.ref x) H2) E
def Binds(K:PySem.W.Frag)(fd:FuncData)(ps:List Str)(ds:List Value):Prop :=
 ∀(s:Shared) (us:List Value),K.In s.heap->(us++ds).length=ps.length->BindsTo s fd ⟨us,[]⟩ (ps.zip (us++ds))
theorem Binds.all{K:PySem.W.Frag}{fd:FuncData}{ps:List Str}(h:∀us:List Value,us.length=ps.length->bindArgs fd ⟨us,[]⟩=pure (ps.zip us)):Binds K fd ps []:=fun s us _ hl=>by
 rw[List.append_nil]at hl ⊢
 exact .of_eq (h us hl)
def Passes(CX:CXT)(X:Cx)(E:XK):Prop:=∀(pins:List (Addr × Obj)) (σ:St) (H:Hp) (s:Shared) (e:Value) (s':Shared),Inv X pins σ H s->CX X.stack H s E e s'->X.xe e s'
section
variable{X:Cx}{CX:CXT}{k:Nat}{f C:Addr}{fd:FuncData}{ps:List Str}{sp:Sp}{dvs:List V}{ds:List Value}{E:XK}{x m:Str}{p pos apos:Pos}{e o:Expr}{es:List Expr}{ta:TE}{t:TA}
theorem lz{pins:List (Addr × Obj)}{σ:St}{H:Hp}{s:Shared}{Q:VK}{us:List Value}{vs:List V}(F:FnOk X.prog X.w X.K X.mg X.base CX k f fd ps sp)(hr:Room k X.A)(hb:Binds X.K fd ps ds)(hd:Vals dvs ds)(hx:Passes CX X E)
  (I:Inv X pins σ H s) (r:Vals vs us) (h:sp (vs++dvs) H Q E):wpAny (model X.prog X.w) X.A (call (.ref f) us) (EP X pins σ Q) X.xe s:=by
 have r2:Vals (vs++dvs) (us++ds):=r.append hd
 have hl:(us++ds).length=ps.length:=by rw[<- r2.length];exact F.len _ _ _ _ h
 refine wpAny_call (codeAny_mono (F.run X.A X.stack s H ⟨us,[]⟩ (us++ds) (vs++dvs) Q E hr I.env0 (hb s us I.kIn hl) r2 h) fun r s' hq=>?_)
 cases r with
 | error e=>exact hx pins σ H s e s' I hq
 | ok fl =>
  cases fl with
  | ret u=>exact I.after hq
  | next=>exact False.elim hq
  | brk=>exact False.elim hq
  | cont=>exact False.elim hq
theorem mP(F:FnOk X.prog X.w X.K X.mg X.base CX k f fd ps sp)(hr:Room k X.A)(hg:Gl X x)(hm:X.mg x=some (.ref f))(hk:PySem.W.keepIn X.K (.ref f)=true)(hb:Binds X.K fd ps ds)(hd:Vals dvs ds)(hx:Passes CX X E)
  (ha:PA X (e::es) t) (hdb:(x == ("__debug__":Str))=false:=by decide) (he:starEach (e::es) X.env=(false,eval e X.env)::starEach es X.env:=by rfl) (hpl:(backTo pos (starEach es X.env)).any (·.1)=false:=by rfl) :
  PE X (.Call (.Name x p) (e::es) [] pos) (wm sp dvs E t):=by
 intro pins s σ H Q I h
 refine wpAny_Call_Name_kw (jf I hg hm ?_ hdb)
 refine PySem.W.callWith_K (h₀:=X.base) I.ok.mod.kin hk (thn (ha pos pins s σ H _ I h) fun us s1 ⟨vs,H1,I1,r,q⟩=>⟨I1.kIn,?_⟩) he hpl
 exact lz F hr hb hd hx I1 r q
theorem uw{pl:Sem Bool}(he:PE X o ta)(c:Cls X.K C)(hm:Meth X.K C m f)(F:FnOk X.prog X.w X.K X.mg X.base CX k f fd ps sp)(hr:Room k X.A)(hb:Binds X.K fd ps ds)(hd:Vals dvs ds)(hx:Passes CX X E)(ha:PA X (e::es) t)
  (hst:starEach (e::es) X.env=(false,eval e X.env)::starEach es X.env:=by rfl) (hpl:(backTo pos (starEach es X.env)).any (·.1)=false:=by rfl)
  (ht:eval (.Call (.Attribute o m apos) (e::es) [] pos) X.env=(do
   let ov <- eval o X.env
   standAt apos.atName
   let (f,first) <- holding [ov] (getMethod ov m pl)
   callWith pos f first (backTo pos (starEach (e::es) X.env)) (backToKw pos (keywordEach [] X.env))):=by rfl) :
  PE X (.Call (.Attribute o m apos) (e::es) [] pos) (qu C m sp dvs E ta t):=by
 intro pins s σ H Q I h
 refine PySem.W.methodCall_KW (pl:=pl) (thn (he pins s σ H _ I h) fun u s1 hZ=>?_) ht
 obtain⟨x,H1,I1,rx,a,dx,fs,ex,ea,l,q⟩:=hZ
 subst ex
 obtain rfl:u=Value.ref a:=rx
 refine gR I1 ea c hm l ?_
 refine PySem.W.callWith_K (first:=[.ref a]) (h₀:=X.base) I.ok.mod.kin hm.kp (thn (ha pos pins s1 σ H1 _ I1 q) fun us s2 ⟨vs,H2,I2,r,q2⟩=>⟨I2.kIn,?_⟩) hst hpl
 exact lz (us:=.ref a::us) (vs:=.ref a::vs) F hr hb hd hx I2 (.cons rfl r) q2
theorem qw{pl:Sem Bool}(he:PE X o ta)(c:Cls X.K C)(hm:Meth X.K C m f)(F:FnOk X.prog X.w X.K X.mg X.base CX k f fd ps sp)(hr:Room k X.A)(hb:Binds X.K fd ps ds)(hd:Vals dvs ds)(hx:Passes CX X E)
  (ht:eval (.Call (.Attribute o m apos) [] [] pos) X.env=(do
   let ov <- eval o X.env
   standAt apos.atName
   let (f,first) <- holding [ov] (getMethod ov m pl)
   callWith pos f first (backTo pos (starEach [] X.env)) (backToKw pos (keywordEach [] X.env))):=by rfl) :
  PE X (.Call (.Attribute o m apos) [] [] pos) (qu C m sp dvs E ta tNil):=by
 intro pins s σ H Q I h
 refine PySem.W.methodCall_KW (pl:=pl) (thn (he pins s σ H _ I h) fun u s1 hZ=>?_) ht
 obtain⟨x,H1,I1,rx,a,dx,fs,ex,ea,l,q⟩:=hZ
 subst ex
 obtain rfl:u=Value.ref a:=rx
 refine gR I1 ea c hm l ?_
 exact PySem.W.callWith_K0 (first:=[.ref a]) I1.kIn hm.kp (lz (us:=[.ref a]) (vs:=[.ref a]) F hr hb hd hx I1 (.cons rfl .nil) q)
structure Mk (K:PySem.W.Frag)(C f:Addr):Prop where
 makes:PySem.W.makesIn K C=true
 init:PySem.W.findIn K (.ref C) "__init__"=some (some (.ref f))
 fn:PySem.W.isFn K (.ref f)=true
 kp:PySem.W.keepIn K (.ref C)=true
theorem qx{pins:List (Addr × Obj)}{σ:St}{H:Hp}{s:Shared}{Q:VK}{us:List Value}{vs:List V}(M:Mk X.K C f)(F:FnOk X.prog X.w X.K X.mg X.base CX k f fd ps sp)(hr:Room (k + 1) X.A)(hb:Binds X.K fd ps ds)(hd:Vals dvs ds)
  (hx:Passes CX X E) (I:Inv X pins σ H s) (r:Vals vs us)
  (h:∀x dx,H x=none->H dx=none->dx≠x->sp (.ref x::(vs++dvs)) (upd (upd H dx (.own x)) x (.ins C dx [])) (fun v H2=>v=.non/\Q (.ref x) H2) E) :
  wpAny (model X.prog X.w) X.A (call (.ref C) us) (EP X pins σ Q) X.xe s:=by
 have hq:=h (s.heap.objs.size + 1) s.heap.objs.size (I.hok.fresh (Nat.le_succ _)) (I.hok.fresh (Nat.le_refl _)) (Nat.ne_of_lt (Nat.lt_succ_self _))
 have I2:=Inv.made (C:=C) I
 have r2:Vals (V.ref (s.heap.objs.size + 1)::(vs++dvs)) (Value.ref (s.heap.objs.size + 1)::(us++ds)):=.cons rfl (r.append hd)
 have hl:(Value.ref (s.heap.objs.size + 1)::us++ds).length=ps.length:=by
  have e:=r2.length
  rw[F.len _ _ _ _ hq]at e
  exact e.symm
 refine wpAny_call (qt (f:=f) I.kIn M.makes M.init (beq_iff_eq.mp M.fn) (codeAny_mono (F.run _ X.stack _ _ ⟨Value.ref (s.heap.objs.size + 1)::us,[]⟩ (Value.ref (s.heap.objs.size + 1)::(us++ds)) _ _ E (hr.make C us [])
  (I2.env0.make C us []) (hb _ (Value.ref (s.heap.objs.size + 1)::us) I2.kIn hl) r2 hq) fun r s' hq'=>?_))
 cases r with
 | error e=>exact hx pins σ _ _ e s' I2 hq'
 | ok fl =>
  cases fl with
  | ret u =>
   obtain⟨v,H',I3,rv,ev,q3⟩:=I2.after hq'
   subst ev
   exact⟨rv,⟨V.ref (s.heap.objs.size + 1),H',I3,rfl,q3⟩⟩
  | next=>exact False.elim hq'
  | brk=>exact False.elim hq'
  | cont=>exact False.elim hq'
theorem ux(M:Mk X.K C f)(F:FnOk X.prog X.w X.K X.mg X.base CX k f fd ps sp)(hr:Room (k + 1) X.A)(hg:Gl X x)(hm:X.mg x=some (.ref C))(hb:Binds X.K fd ps ds)(hd:Vals dvs ds)(hx:Passes CX X E)
  (ha:PA X (e::es) t) (hdb:(x == ("__debug__":Str))=false:=by decide) (he:starEach (e::es) X.env=(false,eval e X.env)::starEach es X.env:=by rfl) (hpl:(backTo pos (starEach es X.env)).any (·.1)=false:=by rfl) :
  PE X (.Call (.Name x p) (e::es) [] pos) (wo C sp dvs E t):=by
 intro pins s σ H Q I h
 refine wpAny_Call_Name_kw (jf I hg hm ?_ hdb)
 refine PySem.W.callWith_K (h₀:=X.base) I.ok.mod.kin M.kp (thn (ha pos pins s σ H _ I h) fun us s1 ⟨vs,H1,I1,r,q⟩=>⟨I1.kIn,?_⟩) he hpl
 exact qx M F hr hb hd hx I1 r q
end
structure FnScope (N P:List Str)(sc:Scope):Prop where
 kind:sc.kind=.function
 co:sc.isCoroutine=false
 gen:sc.isGenerator=false
 nd:N.Nodup
 pre:N.take P.length=P
 par:∀x∈P,sc.names.lookup x=some .local\/sc.names.lookup x=some .cell
 nofree:∀y∈sc.names,y.2≠.free
theorem iM{kindOf:Str->Option NameKind}{x:Str}:∀{binds:List (Str × Value)} {m:Str->Option Value},(∀v,(x,v) ∉ binds)->bindL kindOf binds m x=m x
 | [],_,_=>rfl
 | (n,v)::r,m,h=>by
  unfold bindL
  rw[iM fun w hw=>h w (List.mem_cons_of_mem _ hw)]
  split
  ·have:x≠n:=by rintro rfl;exact h v List.mem_cons_self
   simp[this]
  ·rfl
theorem iN{kindOf:Str->Option NameKind}{x:Str}:∀{binds:List (Str × Value)} {m:Str->Option Value},(∀v,(x,v) ∉ binds)->bindC kindOf binds m x=m x
 | [],_,_=>rfl
 | (n,v)::r,m,h=>by
  unfold bindC
  rw[iN fun w hw=>h w (List.mem_cons_of_mem _ hw)]
  split
  ·rfl
  ·have:x≠n:=by rintro rfl;exact h v List.mem_cons_self
   simp[this]
theorem iO{kindOf:Str->Option NameKind}{x:Str}{v:Value}:∀{P:List Str} {vs:List Value} {i:Nat} {m:Str->Option Value},P.Nodup->P[i]?=some x->vs[i]?=some v->kindOf x=some .local ->
  bindL kindOf (P.zip vs) m x=some v
 | [],_,_,_,_,h,_,_=>by simp at h
 | _::_,[],_,_,_,_,h,_=>by simp at h
 | p::P,w::vs,0,m,nd,h1,h2,hk=>by
  simp at h1 h2;subst h1;subst h2
  show bindL kindOf ((p,w)::P.zip vs) m p=_
  unfold bindL
  rw[iM fun v hv=>(List.nodup_cons.mp nd).1 (List.of_mem_zip hv).1,if_pos hk]
  simp
 | p::P,w::vs,i + 1,m,nd,h1,h2,hk=>by
  show bindL kindOf ((p,w)::P.zip vs) m x=_
  unfold bindL
  exact iO (i:=i) (List.nodup_cons.mp nd).2 (by simpa using h1) (by simpa using h2) hk
theorem iP{kindOf:Str->Option NameKind}{x:Str}{v:Value}:∀{P:List Str} {vs:List Value} {i:Nat} {m:Str->Option Value},P.Nodup->P[i]?=some x->vs[i]?=some v->kindOf x≠some .local ->
  bindC kindOf (P.zip vs) m x=some v
 | [],_,_,_,_,h,_,_=>by simp at h
 | _::_,[],_,_,_,_,h,_=>by simp at h
 | p::P,w::vs,0,m,nd,h1,h2,hk=>by
  simp at h1 h2;subst h1;subst h2
  show bindC kindOf ((p,w)::P.zip vs) m p=_
  unfold bindC
  rw[iN fun v hv=>(List.nodup_cons.mp nd).1 (List.of_mem_zip hv).1,if_neg hk]
  simp
 | p::P,w::vs,i + 1,m,nd,h1,h2,hk=>by
  show bindC kindOf ((p,w)::P.zip vs) m x=_
  unfold bindC
  exact iP (i:=i) (List.nodup_cons.mp nd).2 (by simpa using h1) (by simpa using h2) hk
def start(N:List Str)(vs:List V):St:=vs.map some++List.replicate (N.length - vs.length) none
def jm(CX:CXT)(P:Program)(w:World)(K:PySem.W.Frag)(mg:Str->Option Value)(base:Heap)(N:List Str)(qual:Str)(scope:Scope)(f:Addr)(cd:Value)(A:Around)(outer:List Env)(s:Shared)(H:Hp)(E:XK):Cx where
 prog:=P
 w:=w
 K:=K
 mg:=mg
 base:=base
 A:=A.deeper (envOfC qual scope s.heap.objs.size f cd)
 N:=N
 s₀:=s
 H₀:=H
 env:=envOfC qual scope s.heap.objs.size f cd
 outer:=outer
 stack:=envOfC qual scope s.heap.objs.size f cd::outer
 ex:=[]
 calm:=true
 fn:=fun _=>true
 pn:=[]
 xe:=fun e s'=>wpAny (model P w) (A.deeper (envOfC qual scope s.heap.objs.size f cd)) (leaving (envOfC qual scope s.heap.objs.size f cd) e) (fun _ s''=>CX outer H s E e s'') (fun e' s''=>CX outer H s E e' s'') s'
theorem kg{sc:Scope}{n:Nat}{x:Str}(h:sc.names.lookup x=some .cell):∃c,(cellsFrom n sc.names []).lookup x=some c:=by
 have q:=PySem.W.cellsFrom_some sc.names n [] (.inl h)
 exact Option.isSome_iff_exists.mp q
theorem pd{CX:CXT}{P:Program}{w:World}{K:PySem.W.Frag}{mg:Str->Option Value}{base:Heap}{N ps:List Str}{qual:Str}{scope:Scope}{f:Addr}{cd:Value}{A:Around}{outer:List Env}{s s1:Shared}{H:Hp}{E:XK}{us:List Value}{vs:List V}
  (S:FnScope N ps scope) (hd:A.handled=none) (e0:Env0 P w K mg base A outer s H) (hl:vs.length=ps.length) (r:Vals vs us)
  (x:InCallC s s.heap.objs.size (bindL (envOfC qual scope s.heap.objs.size f cd).kindOf (ps.zip us) fun _=>none) (cellsFrom (s.heap.objs.size + 1) scope.names []) (bindC (envOfC qual scope s.heap.objs.size f cd).kindOf (ps.zip us) fun _=>none) s1) :
  Inv (jm CX P w K mg base N qual scope f cd A outer s H E) [] (start N vs) H s1:=by
 have hpl:ps.length≤N.length:=by have:=congrArg List.length S.pre;rw[List.length_take]at this;omega
 obtain⟨h1,tk,rfl,hk⟩:=x.done
 have noA:∀b:Addr,b ∉ (jm CX P w K mg base N qual scope f cd A outer s H E).ex:=fun b z=>absurd (show b∈([]:List Addr) from z) (by simp)
 refine⟨⟨e0.mod,S.kind,rfl,rfl,Nat.le_refl _,fun y z c h1 h2=>?_,fun y hy=>?_,fun y c _ h=>?_,fun _=>hd,Around.frames_deeper e0.frames,.inr ⟨rfl,rfl⟩,fun b z=>absurd z (noA b),e0.bs,e0.bsz,fun b _ _=>noA b,fun b z=>absurd z (noA b),e0.funs,e0.frf⟩,
  rfl,e0.bare,Un.kept hk,⟨_,x.toInCall.ns,fun i y v h1 h2 h3=>?_⟩,fun y c h=>⟨_,x.cell y c h⟩,e0.hok.fresh (Nat.le_refl _),fun y c h=>?_,fun p hp=>absurd (show p∈([]:List (Addr × Obj)) from hp) (by simp),e0.hok.kept hk,?_⟩
 ·exact name_of_addr x.apart (PySem.mem_of_lookup h1) (PySem.mem_of_lookup h2)
 ·have hy:scope.names.lookup y=some .cell\/scope.names.lookup y=some .free:=hy
  rcases hy with hy | hy
  ·exact kg hy
  ·exact absurd rfl (S.nofree _ (PySem.mem_of_lookup hy))
 ·exact Nat.le_of_lt (x.above y c (PySem.mem_of_lookup h))
 ·have hi:i < vs.length:=by
   unfold start at h2
   by_cases hi:i < vs.length
   ·exact hi
   ·rw[List.getElem?_append_right (by simpa using hi)]at h2
    rw[List.getElem?_replicate]at h2
    split at h2<;>cases h2
  have ha:vs[i]?=some v:=by
   unfold start at h2
   rw[List.getElem?_append_left (by simpa using hi),List.getElem?_map]at h2
   cases e:vs[i]? with
   | none=>rw[e]at h2;cases h2
   | some a=>rw[e]at h2;cases h2;rfl
  obtain⟨u,hu,rv⟩:=r.get ha
  have hp:ps[i]?=some y:=by
   rw[<- S.pre,List.getElem?_take_of_lt (by omega)];exact h1
  have ndP:ps.Nodup:=by rw[<- S.pre];exact S.nd.sublist (List.take_sublist _ _)
  refine⟨u,rv,?_⟩
  rcases S.par y (List.mem_of_getElem? hp) with k | k
  ·exact .inl ⟨k,iO ndP hp hu k⟩
  ·obtain⟨c,e⟩:=kg (n:=s.heap.objs.size + 1) k
   refine .inr ⟨.inl k,c,e,?_⟩
   have q:=x.cell y c e
   rw[iP ndP hp hu (by show scope.names.lookup y≠_;rw[k];decide)]at q
   exact q
 ·exact e0.hok.fresh (Nat.le_of_lt (x.above y c (PySem.mem_of_lookup h)))
 ·unfold start
  show _=N.length
  rw[List.length_append,List.length_map,List.length_replicate]
  omega
theorem Ai{CX:CXT}{P:Program}{w:World}{K:PySem.W.Frag}{mg:Str->Option Value}{base:Heap}{k:Nat}{f:Addr}{name qual:Str}{params:Arguments}{body:List Stmt}{scope:Scope}{dV kV doc pm cdv ct oc:Value}{an od:Option Addr}
  {osl:Array (Option Value)} {N ps:List Str} {sp:Sp} (lk:K.lookup f=some ⟨oc,od,.func (PySem.W.fnOf name qual params body scope dV kV doc pm an cdv ct),osl⟩) (hcd:PySem.W.codeIn K cdv qual=true) (S:FnScope N ps scope)
  (len:∀vs H Q E,sp vs H Q E->vs.length=ps.length)
  (hbody:∀(A:Around) (outer:List Env) (s:Shared) (H:Hp) (vs:List V) (Q:VK) (E:XK),Room k (A.deeper (envOfC qual scope s.heap.objs.size f cdv))->sp vs H Q E ->
   ∃t,PSs (jm CX P w K mg base N qual scope f cdv A outer s H E) body t/\t { nx:=fun _ H'=>Q .non H',rt:=Q } (start N vs) H) :
  FnOk P w K mg base CX (k + 1) f (PySem.W.fnOf name qual params body scope dV kV doc pm an cdv ct) ps sp:=by
 refine⟨len,fun A outer s H args us vs Q E hr e0 hb r hsp=>?_⟩
 have hl:=len _ _ _ _ hsp
 have KX:K.In s.heap:=e0.mod.kin.keeps fun b o e=>(e0.bs b o e).1
 have lim:s.heap.NoLimit:=e0.mod.nolimit.keeps fun b o e=>(e0.bs b o e).1
 have hkind:∀y∈ps.zip us,scope.names.lookup y.1=some .local\/(scope.names.lookup y.1=some .cell/\((cellsFrom (s.heap.objs.size + 1) scope.names []).lookup y.1).isSome=true):=fun ⟨n,v⟩ hy=>by
  rcases S.par n (List.of_mem_zip hy).1 with q | q
  ·exact .inl q
  ·exact .inr ⟨q,PySem.W.cellsFrom_some _ _ _ (.inl q)⟩
 refine codeAny_call_function hr.depth (KX _ _ lk) rfl S.co S.gen rfl (PySem.W.codeRec_of KX hcd) (hb _ _ _ _ ?_)
 refine wpAny_newFunctionEnv_cells S.kind hkind fun env he s1 x=>?_
 subst he
 refine⟨lim.keeps x.toInCall.keep,codeAny_func ?_⟩
 obtain⟨t,ht,hq⟩:=hbody A outer s H vs Q E (hr.deeper _) hsp
 have I:Inv (jm CX P w K mg base N qual scope f cdv A outer s H E) [] (start N vs) H s1:=pd S hr.hd e0 hl r x
 refine wpAny_mono (ht [] s1 (start N vs) H _ I hq) (fun fl s' hs=>?_) fun e s' hs=>hs
 have fin:∀{σ':St} {H':Hp} {v:V} {u:Value},Inv (jm CX P w K mg base N qual scope f cdv A outer s H E) [] σ' H' s'->RelV v u->Q v H'->CE outer P w H s Q u s' :=
  fun {σ' H' v u} J rv q=>⟨v,H',J.os,J.bare,J.base,J.hok,rv,q⟩
 cases fl with
 | ret u =>
  obtain⟨v,σ',H',J,rv,q⟩:=hs
  exact fin J rv q
 | next =>
  obtain⟨σ',H',J,q⟩:=hs
  exact fin (v:=V.non) (u:=Value.none) J rfl q
 | brk =>
  obtain⟨_,_,_,q⟩:=hs
  exact False.elim q
 | cont =>
  obtain⟨_,_,_,q⟩:=hs
  exact False.elim q
end
section
section
variable{X:Cx}{x:Str}{p pos:Pos}{e:Expr}{es:List Expr}{t:TA}{id T:String}{r:List V->Hp->VK->Prop}
def Dh(r:List V->Hp->VK->Prop)(t:TA):TE:=fun σ H Q=>t σ H fun vs H1=>r vs H1 Q
theorem b9 (hc:bo X (.builtin id) r) (hg:Gl X x) (hm:X.mg x=none) (hv:bootBuiltins x=some (.builtin id)) (ha:PA X (e::es) t) (hn:x≠"__name__":=by decide) (hdb:(x == ("__debug__":Str))=false:=by decide)
  (he:starEach (e::es) X.env=(false,eval e X.env)::starEach es X.env:=by rfl) (hpl:(backTo pos (starEach es X.env)).any (·.1)=false:=by rfl):PE X (.Call (.Name x p) (e::es) [] pos) (Dh r t):=by
 intro pins s σ H Q I h
 refine wpAny_Call_Name_kw (fG I hg hm hv ?_ hn hdb)
 exact PyProof.Rows.callWith_builtin1 (thn (ha pos pins s σ H _ I h) fun us s1 ⟨vs,H1,I1,r1,q1⟩=>hc pins s1 σ H1 vs us Q I1 r1 q1) he hpl
theorem fI (hc:bo X (.type T) r) (hg:Gl X x) (hm:X.mg x=none) (hv:bootBuiltins x=some (.type T)) (ha:PA X (e::es) t) (hn:x≠"__name__":=by decide) (hdb:(x == ("__debug__":Str))=false:=by decide)
  (he:starEach (e::es) X.env=(false,eval e X.env)::starEach es X.env:=by rfl) (hpl:(backTo pos (starEach es X.env)).any (·.1)=false:=by rfl):PE X (.Call (.Name x p) (e::es) [] pos) (Dh r t):=by
 intro pins s σ H Q I h
 refine wpAny_Call_Name_kw (fG I hg hm hv ?_ hn hdb)
 exact PyProof.Rows.callWith_type1 (thn (ha pos pins s σ H _ I h) fun us s1 ⟨vs,H1,I1,r1,q1⟩=>hc pins s1 σ H1 vs us Q I1 r1 q1) he hpl
end
end
end L2
namespace L2
open PySem PySem.Spec PyProof.Rows
section
def ixN(n:Nat)(i:Int):Option Nat:=if 0≤i then (if i < n then some i.toNat else none) else if -(n:Int)≤i then some (i + n).toNat else none
def atI{α:Type}(xs:List α)(i:Int):Option α:=(ixN xs.length i).bind fun j=>xs[j]?
theorem ixN_seq{n:Nat}{i:Int}{j:Nat}(h:ixN n i=some j):seqIndex? i n=some j/\j < n/\-(n:Int)≤i/\i < n:=by
 unfold ixN at h
 by_cases h0:0≤i
 ·rw[if_pos h0]at h
  by_cases h1:i < n
  ·rw[if_pos h1]at h
   have e:i.toNat=j:=Option.some.inj h
   exact⟨by rw[seqIndex_of h0 h1,e],by omega,by omega,h1⟩
  ·rw[if_neg h1]at h;cases h
 ·rw[if_neg h0]at h
  by_cases h1:-(n:Int)≤i
  ·rw[if_pos h1]at h
   have e:(i + n).toNat=j:=Option.some.inj h
   exact⟨by rw[seqIndex_neg (by omega) h1,e],by omega,h1,by omega⟩
  ·rw[if_neg h1]at h;cases h
theorem atI_get{α:Type}{xs:List α}{i:Int}{v:α}(h:atI xs i=some v):∃j,seqIndex? i xs.length=some j/\xs[j]?=some v/\j < xs.length/\-(xs.length:Int)≤i/\i < xs.length:=by
 unfold atI at h
 cases e:ixN xs.length i with
 | none=>rw[e]at h;cases h
 | some j =>
  rw[e]at h
  obtain⟨h1,h2,h3,h4⟩:=ixN_seq e
  exact⟨j,h1,h,h2,h3,h4⟩
def PlainIx(b:Expr):Prop:=∀o i,subscripted b false o i=operate [o,i] (getItem o i)
def IxR(X:Cx)(r:R2):Prop :=
 ∀(value slice:Expr) (pins:List (Addr × Obj)) (s:Shared) (σ:St) (H:Hp) (x y:V) (v u:Value) (Q:VK),Inv X pins σ H s->RelV x v->RelV y u->r x y H Q ->
  subscripted slice false v u=operate [v,u] (getItem v u)->wpAny (model X.prog X.w) X.A (subscriptTail value slice v u) (EP X pins σ Q) X.xe s
def EJ(X:Cx)(id:String)(r:V->List V->Hp->VK->Prop):Prop :=
 ∀(pins:List (Addr × Obj)) (s:Shared) (σ:St) (H:Hp) (x:V) (xs:List V) (v:Value) (us:List Value) (Q:VK),Inv X pins σ H s->RelV x v->Vals xs us->r x xs H Q ->
  wpAny (model X.prog X.w) X.A (call (.builtin id) (v::us)) (EP X pins σ Q) X.xe s
section
variable{X:Cx}{a b:Expr}{ta tb:TE}{pos:Pos}
theorem IxR.or{r r':R2}(h:IxR X r)(h':IxR X r'):IxR X (fun x y H Q=>r x y H Q\/r' x y H Q):=by
 intro value slice pins s σ H x y v u Q I rx ry q hs
 rcases q with q | q
 ·exact h value slice pins s σ H x y v u Q I rx ry q hs
 ·exact h' value slice pins s σ H x y v u Q I rx ry q hs
theorem qy{r:R2}(hr:IxR X r)(ha:PE X a ta)(hb:PE X b tb)(hs:PlainIx b):PE X (.Subscript a b pos) (wc r ta tb):=by
 intro pins s σ H Q I h
 exact Subscript_ (xB ha hb I h fun v u s2 x y H2 I2 rx ry q=>hr a b pins s2 σ H2 x y v u Q I2 rx ry q (hs _ _))
def Aj(K:PySem.W.Frag):R2:=fun x y H Q=>∃p xs i v,x=.ref p/\y=.int i/\SqL K H p xs/\atI xs i=some v/\Q v H
def Ak(K:PySem.W.Frag):R2:=fun x y H Q=>∃p xs i v,x=.ref p/\y=.int i/\SqT K H p xs/\atI xs i=some v/\Q v H
def rIxS:R2:=fun x y H Q=>∃z i c,x=.str z/\y=.int i/\z.length≤sizeLine/\atI z.cps.toList i=some c/\Q (.str ⟨#[c]⟩) H
theorem ix_list:IxR X (Aj X.K):=by
 intro value slice pins s σ H x y v u Q I rx ry h hs
 obtain⟨p,xs,i,z,rfl,rfl,hq,he,q⟩:=h
 cases rx
 obtain⟨t,rfl⟩:=ry
 obtain⟨its,r,pl,hz⟩:=I.list hq
 obtain⟨j,h1,h2,h3,h4,h5⟩:=atI_get he
 obtain⟨w,ew,rw'⟩:=r.get h2
 have hl:=r.length
 have hn:=line63
 have fin:EP X pins σ Q w s:=⟨z,H,I,rw',q⟩
 by_cases h0:0≤i
 ·have hj:i.toNat=j:=by
   rw[seqIndex_of h0 h5]at h1
   exact Option.some.inj h1
  exact item_listR pl.isList h0 (by omega) (by rw[hj];simpa using ew) fin hs
 ·have hj:(i + (its.toArray.size:Int)).toNat=j:=by
   rw[seqIndex_neg (by omega) h4]at h1
   rw[List.size_toArray,<- hl]
   exact Option.some.inj h1
  exact subscriptTail_builtinR (x:=w) pl.isList.typeIs slot_list_getitem.lookup
   (wpAny_getItem_list_neg (Q:=fun r s'=>r=w/\EP X pins σ Q r s') pl.isList (by omega) (by rw[List.size_toArray]<;>omega) (by omega) (by rw[hj];simpa using ew) ⟨rfl,fin⟩) hs
theorem ix_tup:IxR X (Ak X.K):=by
 intro value slice pins s σ H x y v u Q I rx ry h hs
 obtain⟨p,xs,i,z,rfl,rfl,hq,he,q⟩:=h
 cases rx
 obtain⟨t,rfl⟩:=ry
 obtain⟨its,r,pl,hz⟩:=I.tuple hq
 obtain⟨j,h1,h2,h3,h4,h5⟩:=atI_get he
 obtain⟨w,ew,rw'⟩:=r.get h2
 have hl:=r.length
 have hn:=line63
 have fin:EP X pins σ Q w s:=⟨z,H,I,rw',q⟩
 exact subscriptTail_builtinR (x:=w) pl.typeIs slot_tuple_getitem.lookup
  (getItem_tuple (j:=j) (Q:=fun r s'=>r=w/\EP X pins σ Q r s') pl (by omega) (by omega) (by rw[List.size_toArray,<- hl];exact h1) (by simpa using ew) ⟨rfl,fin⟩) hs
theorem xQ:IxR X rIxS:=by
 intro value slice pins s σ H x y v u Q I rx ry h hs
 obtain⟨z,i,c,rfl,rfl,hz,he,q⟩:=h
 obtain⟨t,rfl⟩:=rx
 obtain⟨t',rfl⟩:=ry
 obtain⟨j,h1,h2,h3,h4,h5⟩:=atI_get he
 have hl:z.cps.toList.length=z.length:=by simp[Str.length]
 rw[hl]at h1 h4 h5
 have hn:=line63
 exact tail_any (typeIs_str s z t) slot_str_getitem.lookup (getItem_str (c:=c) (by
  have e1:decide (i < -(2 ^ 63:Int))=false:=decide_eq_false (by omega)
  have e2:decide (i ≥ 2 ^ 63)=false:=decide_eq_false (by omega)
  rw[e1,e2,Bool.or_false]) (by rw[h1];simpa using h2) ⟨.str ⟨#[c]⟩,H,I.tok _,⟨_,rfl⟩,q⟩) hs
def Eu(K:PySem.W.Frag):R2:=fun x y H Q=>Aj K x y H Q\/Ak K x y H Q\/rIxS x y H Q
theorem lA:IxR X (Eu X.K):=ix_list.or (ix_tup.or xQ)
theorem lC(its:List Value)(n j:Nat)(u:Value):Obj.mapSeq (·.setIfInBounds j u) { cls:=.type "list",data:=.seq its.toArray n }={ cls:=.type "list",data:=.seq (its.set j u).toArray n }:=by
 simp[Obj.mapSeq]
theorem Inv.lst{pins:List (Addr × Obj)}{σ:St}{H:Hp}{s:Shared}{p:Addr}{xs:List V}(I:Inv X pins σ H s)(h:H p=some (.lst xs)) :
  ∃(its:List Value) (n:Nat),Vals xs its/\s.heap.get? p=some { cls:=.type "list",data:=.seq its.toArray n }/\xs.length≤sizeLine:=by
 obtain⟨z,its,n,r,e⟩:=I.hok p _ h
 exact⟨its,n,r,e,z⟩
theorem Inv.lstUpd{pins:List (Addr × Obj)}{σ:St}{H:Hp}{s:Shared}{p:Addr}{xs ys:List V}{its its':List Value}{n n':Nat}{f:Obj->Obj}(I:Inv X pins σ H s)(h:H p=some (.lst xs))
  (ho:s.heap.get? p=some { cls:=.type "list",data:=.seq its.toArray n }) (hf:f { cls:=.type "list",data:=.seq its.toArray n }={ cls:=.type "list",data:=.seq its'.toArray n' }) (r:Vals ys its') (hz:ys.length≤sizeLine) (t:Nat) :
  Inv X pins σ (upd H p (.lst ys)) { s with heap:=s.heap.update p f,toks:=t }:=by
 have e:(s.heap.update p f).get? p=some { cls:=.type "list",data:=.seq its'.toArray n' }:=by
  rw[Heap.get?_update_self f ho (by rw[hf]<;>rfl),hf]
 refine I.write (x:=p) (e:=p) (by rw[h];trivial) (.inl rfl) (fun b u hb q=>(Heap.get?_update_other _ _ (Ne.symm hb)).trans q) ⟨_,e⟩ ?_
 exact⟨hz,its',n',r,e⟩
def rSetL:V->V->V->Hp->(Hp->Prop)->Prop:=fun o i v H Q=>∃p xs k j,o=.ref p/\i=.int k/\H p=some (.lst xs)/\ixN xs.length k=some j/\Q (upd H p (.lst (xs.set j v)))
theorem set_list:PSet X rSetL:=by
 intro pins s σ H o i v ov iv u Q I ro ri rv h
 obtain⟨p,xs,k,j,rfl,rfl,hp,hj,q⟩:=h
 cases ro
 obtain⟨t,rfl⟩:=ri
 obtain⟨its,n,r,ho,hz⟩:=I.lst hp
 obtain⟨h1,h2,h3,h4⟩:=ixN_seq hj
 have hl:=r.length
 have hn:=line63
 have I':Inv X pins σ (upd H p (.lst (xs.set j v))) { s with heap:=s.heap.update p (Obj.mapSeq (·.setIfInBounds j u)) } :=
  I.lstUpd hp ho (lC its n j u) (r.set rv j) (by rw[List.length_set];exact hz) s.toks
 by_cases h0:0≤k
 ·have hk:k.toNat=j:=by
   rw[seqIndex_of h0 h4]at h1
   exact Option.some.inj h1
  exact PySem.W.ki_setAt ho h0 (by omega) (by rw[List.size_toArray,<- hl];exact h4) (by rw[hk];exact⟨_,I',q⟩)
 ·have hk:(k + (its.toArray.size:Int)).toNat=j:=by
   rw[seqIndex_neg (by omega) h3]at h1
   rw[List.size_toArray,<- hl]
   exact Option.some.inj h1
  exact PySem.W.ki_setBack ho (by omega) (by rw[List.size_toArray,<- hl];exact h3) (by omega) (by rw[hk];exact⟨_,I',q⟩)
def cm:V->Bool
 | .non=>true
 | .bl _=>true
 | .int _=>true
 | .str _=>true
 | _=>false
def eqV:V->V->Bool
 | .non,.non=>true
 | .bl a,.bl b=>a == b
 | .bl a,.int b=>(if a then 1 else 0) == b
 | .int a,.bl b=>a == (if b then 1 else 0)
 | .int a,.int b=>a == b
 | .str a,.str b=>a == b
 | _,_=>false
theorem xR{A:Around}{s:Shared}{y x:V}{u v:Value}(ry:RelV y u)(rx:RelV x v)(fy:cm y=true)(fx:cm x=true):SeqAt.EqAt A s u v (eqV y x):=by
 cases y with
 | non =>
  cases ry
  cases x with
  | non=>cases rx;exact SeqAt.EqAt.same _
  | bl b=>cases rx;exact SeqAt.EqAt.none_bool b
  | int b=>obtain⟨t,rfl⟩:=rx;exact SeqAt.EqAt.none_int b t
  | str b=>obtain⟨t,rfl⟩:=rx;exact SeqAt.EqAt.none_str b t
  | _=>exact absurd (show false=true from fx) Bool.false_ne_true
 | bl a =>
  cases ry
  cases x with
  | non=>cases rx;exact SeqAt.EqAt.bool_none a
  | bl b=>cases rx;exact SeqAt.EqAt.bool_bool a b
  | int b=>obtain⟨t,rfl⟩:=rx;exact SeqAt.EqAt.bool_int a b t
  | str b=>obtain⟨t,rfl⟩:=rx;exact SeqAt.EqAt.bool_str a b t
  | _=>exact absurd (show false=true from fx) Bool.false_ne_true
 | int a =>
  obtain⟨t',rfl⟩:=ry
  cases x with
  | non=>cases rx;exact SeqAt.EqAt.int_none a t'
  | bl b=>cases rx;exact SeqAt.EqAt.int_bool a t' b
  | int b=>obtain⟨t,rfl⟩:=rx;exact SeqAt.EqAt.int_int a t' b t
  | str b=>obtain⟨t,rfl⟩:=rx;exact SeqAt.EqAt.int_str a t' b t
  | _=>exact absurd (show false=true from fx) Bool.false_ne_true
 | str a =>
  obtain⟨t',rfl⟩:=ry
  cases x with
  | non=>cases rx;exact SeqAt.EqAt.str_none a t'
  | bl b=>cases rx;exact SeqAt.EqAt.str_bool a t' b
  | int b=>obtain⟨t,rfl⟩:=rx;exact SeqAt.EqAt.str_int a t' b t
  | str b=>obtain⟨t,rfl⟩:=rx;exact SeqAt.EqAt.str_str a t' b t
  | _=>exact absurd (show false=true from fx) Bool.false_ne_true
 | _=>exact absurd (show false=true from fy) Bool.false_ne_true
def lD(x:V)(u:Value):Bool:=match u with
 | .none=>eqV .non x
 | .bool b=>eqV (.bl b) x
 | .int i _=>eqV (.int i) x
 | .str z _=>eqV (.str z) x
 | _=>false
theorem qz{x y:V}{u:Value}(r:RelV y u)(f:cm y=true):lD x u=eqV y x:=by
 cases y with
 | non=>cases r;rfl
 | bl b=>cases r;rfl
 | int i=>obtain⟨t,rfl⟩:=r;rfl
 | str z=>obtain⟨t,rfl⟩:=r;rfl
 | _=>exact absurd (show false=true from f) Bool.false_ne_true
theorem eN{x:V}:∀{xs:List V} {us:List Value},Vals xs us->xs.all cm=true->us.any (lD x)=xs.any fun y=>eqV y x
 | _,_,.nil,_=>rfl
 | y::xs,u::us,.cons r t,f=>by
  rw[List.all_cons,Bool.and_eq_true]at f
  rw[List.any_cons,List.any_cons,qz r f.1,eN t f.2]
theorem dz{A:Around}{s:Shared}{x:V}{v:Value}(rx:RelV x v)(fx:cm x=true):∀{xs:List V} {us:List Value},Vals xs us->xs.all cm=true->∀u∈us,SeqAt.EqAt A s u v (lD x u)
 | _,_,.nil,_=>fun u hu=>by cases hu
 | y::xs,u::us,.cons r t,f=>fun u' hu=>by
  rw[List.all_cons,Bool.and_eq_true]at f
  rcases List.mem_cons.mp hu with rfl | hu
  ·rw[qz r f.1];exact xR r rx f.1 fx
  ·exact dz rx fx t f.2 u' hu
def inV(x:V)(xs:List V):Bool:=xs.any fun y=>eqV y x
def Di(K:PySem.W.Frag)(neg:Bool):R2:=fun x y H Q=>∃p xs,y=.ref p/\(SqL K H p xs\/SqT K H p xs)/\cm x=true/\xs.all cm=true/\Q (.bl (if neg then !inV x xs else inV x xs)) H
theorem pe:OpR X (compareOp .In) (Di X.K false):=by
 intro pins s σ H x y v u Q I rx ry h
 obtain⟨p,xs,rfl,hq,fx,fs,q⟩:=h
 cases ry
 rcases hq with hq | hq
 ·obtain⟨its,r,pl,hz⟩:=I.list hq
  refine SeqAt.in_listAt (lD x) pl.isList (fun w hw=>dz rx fx r fs w (by simpa using hw)) ⟨.bl _,H,I,rfl,?_⟩
  rw[show its.toArray.any (lD x)=its.any (lD x) by simp,eN r fs]
  exact q
 ·obtain⟨its,r,pl,hz⟩:=I.tuple hq
  refine SeqAt.in_tupleAt (lD x) pl (fun w hw=>dz rx fx r fs w (by simpa using hw)) ⟨.bl _,H,I,rfl,?_⟩
  rw[show its.toArray.any (lD x)=its.any (lD x) by simp,eN r fs]
  exact q
theorem jn:OpR X (compareOp .NotIn) (Di X.K true):=by
 intro pins s σ H x y v u Q I rx ry h
 obtain⟨p,xs,rfl,hq,fx,fs,q⟩:=h
 cases ry
 rcases hq with hq | hq
 ·obtain⟨its,r,pl,hz⟩:=I.list hq
  refine SeqAt.notIn_listAt (lD x) pl.isList (fun w hw=>dz rx fx r fs w (by simpa using hw)) ⟨.bl _,H,I,rfl,?_⟩
  rw[show its.toArray.any (lD x)=its.any (lD x) by simp,eN r fs]
  exact q
 ·obtain⟨its,r,pl,hz⟩:=I.tuple hq
  refine SeqAt.notIn_tupleAt (lD x) pl (fun w hw=>dz rx fx r fs w (by simpa using hw)) ⟨.bl _,H,I,rfl,?_⟩
  rw[show its.toArray.any (lD x)=its.any (lD x) by simp,eN r fs]
  exact q
theorem jo:bo X (.builtin "len") (fun xs H Q=>∃p ys,xs=[.ref p]/\(SqL X.K H p ys\/SqT X.K H p ys)/\Q (.int ys.length) H):=by
 intro pins s σ H xs us Q I r h
 obtain⟨p,ys,rfl,hq,q⟩:=h
 obtain⟨u,rfl,rx⟩:=vals1 r
 cases rx
 have hn:=line63
 rcases hq with hq | hq
 ·obtain⟨its,r',pl,hz⟩:=I.list hq
  have hlen:=r'.length
  exact Calls.call_len_list pl.isList (by simp only[List.size_toArray]<;>omega) ⟨.int ys.length,H,I.tok _,⟨s.toks + 1,by rw[List.size_toArray,hlen]⟩,q⟩
 ·obtain⟨its,r',pl,hz⟩:=I.tuple hq
  have hlen:=r'.length
  exact len_tuple pl (by simp only[List.size_toArray]<;>omega) ⟨.int ys.length,H,I.tok _,⟨s.toks + 1,by rw[List.size_toArray,hlen]⟩,q⟩
theorem jq:bo X (.type "list") (fun xs H Q=>∃p ys,xs=[.ref p]/\(SqL X.K H p ys\/SqT X.K H p ys)/\∀l,H l=none->Q (.ref l) (upd H l (.lst ys))):=by
 intro pins s σ H xs us Q I r h
 obtain⟨p,ys,rfl,hq,q⟩:=h
 obtain⟨u,rfl,rx⟩:=vals1 r
 cases rx
 have fin:∀(its:List Value),Vals ys its->ys.length≤sizeLine->∀(h':Heap) (c':Nat),(∀b o',s.heap.get? b=some o'->h'.get? b=some o') ->
   h'.get? s.heap.objs.size=some { cls:=.type "list",dict:=none,data:=.seq its.toArray c',slots:=#[] }->EP X pins σ Q (.ref s.heap.objs.size) { s with heap:=h' }:=fun its r' hz h' c' kp e =>
  ⟨.ref s.heap.objs.size,_,I.laid (t':=s.toks) kp (Nat.le_refl _) (show ObjOk X.prog X.w _ h' _ (.lst ys) from ⟨hz,its,c',r',e⟩),rfl,q _ (I.hok.fresh (Nat.le_refl _))⟩
 rcases hq with hq | hq
 ·obtain⟨its,r',pl,hz⟩:=I.list hq
  have hlen:=r'.length
  obtain⟨o,ho,hc,n,hd⟩:=pl.isList
  exact call_list_seq p (.inl rfl) ho hc hd (fun h' c' kp e=>fin its r' hz h' c' kp e) (by simp only[List.size_toArray]<;>omega)
 ·obtain⟨its,r',pl,hz⟩:=I.tuple hq
  have hlen:=r'.length
  obtain⟨o,ho,hc,n,hd⟩:=pl
  exact call_list_seq p (.inr rfl) ho hc hd (fun h' c' kp e=>fin its r' hz h' c' kp e) (by simp only[List.size_toArray]<;>omega)
theorem iJ:bo X (.type "tuple") (fun xs H Q=>∃p ys,xs=[.ref p]/\((SqL X.K H p ys/\∀l,H l=none->Q (.ref l) (upd H l (.tup ys)))\/(SqT X.K H p ys/\Q (.ref p) H))):=by
 intro pins s σ H xs us Q I r h
 obtain⟨p,ys,rfl,h⟩:=h
 obtain⟨u,rfl,rx⟩:=vals1 r
 cases rx
 rcases h with ⟨hq,q⟩ | ⟨hq,q⟩
 ·obtain⟨its,r',pl,hz⟩:=I.list hq
  have hlen:=r'.length
  refine call_tuple_list pl.isList (fun h' kp=>?_) (by simp only[List.size_toArray]<;>omega)
  have I1:Inv X pins σ H { s with heap:=h' }:=I.kept (t':=s.toks) kp
  have I2:Inv X pins σ (upd H h'.objs.size (.tup ys)) { s with heap:=h'.push { cls:=.type "tuple",data:=.seq its.toArray } } :=
   I1.laid (t':=s.toks) (fun b o e=>Heap.get?_push_of_some _ e) (Nat.le_refl _) (show ObjOk X.prog X.w _ _ _ (.tup ys) from ⟨hz,its,r',IsTup.new _ _⟩)
  exact⟨.ref h'.objs.size,_,I2,rfl,q _ (I1.hok.fresh (Nat.le_refl _))⟩
 ·obtain⟨its,r',pl,hz⟩:=I.tuple hq
  exact call_tuple_same pl ⟨.ref p,H,I,rfl,q⟩
def Ew(K:PySem.W.Frag)(T:String)(x:V)(H:Hp):Prop:=match x with
 | .str _=>T="str"
 | .int _=>T="int"
 | .ref p=>(T="list"/\∃xs,SqL K H p xs)\/(T="tuple"/\∃o,K.lookup p=some o/\o.cls=.type "tuple"/\o.dict=none) \/
   (T="dict"/\((∃kvs,H p=some (.dK kvs))\/∃kvs,H p=some (.dT kvs)))\/(T="set"/\∃S n,H p=some (.set S n))
 | _=>False
theorem xS{pins:List (Addr × Obj)}{σ:St}{H:Hp}{s:Shared}{T:String}{x:V}{v:Value}(I:Inv X pins σ H s)(r:RelV x v)(ty:Ew X.K T x H) :
  s.TypeIs v T/\∀a,v=.ref a->∃ob,s.heap.get? a=some ob/\ob.dict=none:=by
 cases x with
 | str z =>
  obtain⟨t,rfl⟩:=r
  cases (show T="str" from ty)
  exact⟨typeIs_str s z t,fun _ e=>nomatch e⟩
 | int i =>
  obtain⟨t,rfl⟩:=r
  cases (show T="int" from ty)
  exact⟨typeIs_int s i t,fun _ e=>nomatch e⟩
 | ref p =>
  cases r
  rcases ty with ⟨rfl,xs,hq⟩ | ⟨rfl,o,hk,hc,hd⟩ | ⟨rfl,hk⟩ | ⟨rfl,S,n,hk⟩
  ·obtain⟨its,_,pl,_⟩:=I.list hq
   refine⟨pl.isList.typeIs,fun a e=>?_⟩
   cases e
   obtain⟨o,n,e,c,hd,_⟩:=pl
   exact⟨o,e,hd⟩
  ·refine⟨⟨o,I.kIn p o hk,hc⟩,fun a e=>?_⟩
   cases e
   exact⟨o,I.kIn _ o hk,hd⟩
  ·have z:∃o,s.heap.get? p=some o/\o.ExactDict:=by
    rcases hk with ⟨kvs,hk⟩ | ⟨kvs,hk⟩
    ·obtain⟨_,_,_,_,o,_,_,e,ex,_⟩:=I.hok p _ hk
     exact⟨o,e,ex⟩
    ·obtain⟨_,_,_,_,o,_,_,e,ex,_⟩:=I.hok p _ hk
     exact⟨o,e,ex⟩
   obtain⟨o,e,ex⟩:=z
   refine⟨⟨o,e,ex.1⟩,fun a e2=>?_⟩
   cases e2
   exact⟨o,e,ex.2.1⟩
  ·obtain⟨o,_,_,_,e,ex,_⟩:=I.hok p _ hk
   refine⟨⟨o,e,ex.1⟩,fun a e2=>?_⟩
   cases e2
   exact⟨o,e,ex.2.1⟩
 | _=>exact False.elim ty
def EK(K:PySem.W.Frag)(T:String)(r:V->List V->Hp->VK->Prop)(to:TE)(t:TA):TE:=fun σ H Q=>to σ H fun x H1=>Ew K T x H1/\t σ H1 fun xs H2=>r x xs H2 Q
variable{o e:Expr}{es:List Expr}{to:TE}{t:TA}{name:Str}{apos cpos:Pos}{T id:String}{r:V->List V->Hp->VK->Prop}
theorem qA (pa:PlainAttrs T) (slot:Slot T name id) (hty:typeOf (.builtin id)=pure (.type "method_descriptor")) (hm:EJ X id r) (ho:PE X o to) (ha:PA X (e::es) t)
  (hbase:attributeBase o name X.env (eval o X.env)=eval o X.env:=by rfl)
  (hfew:((backTo cpos (starEach (e::es) X.env)).all (fun x=>!x.1) && (backToKw cpos (keywordEach [] X.env)).all (fun x=>x.1.isSome)
   && decide ((e::es).length + ([]:List Keyword).length + (if ([]:List Keyword).isEmpty then 0 else 1) < 30))=true:=by rfl)
  (hline:(apos.endLine == cpos.line)=true:=by rfl) (hs:starEach (e::es) X.env=(false,eval e X.env)::starEach es X.env:=by rfl) (hplain:(backTo cpos (starEach es X.env)).any (·.1)=false:=by rfl) :
  PE X (.Call (.Attribute o name apos) (e::es) [] cpos) (EK X.K T r to t):=by
 intro pins s σ H Q I h
 refine wpAny_Call_method_late hbase hfew hline rfl (thn (ho pins s σ H _ I h) fun v s1 hZ=>?_)
 obtain⟨x,H1,I1,r1,ty,q1⟩:=hZ
 obtain⟨h1,h2⟩:=xS I1 r1 ty
 refine⟨T,id,pa,slot,hty,h1,h2,?_⟩
 have hA:=ha cpos pins s1 σ H1 _ I1 q1
 rw[hs]at hA ⊢
 refine Calls.callWith_builtin (by show (false || (backTo cpos (starEach es X.env)).any (·.1))=false;rw[hplain]<;>rfl) (Calls.evalArgs_plain ?_)
 exact thn hA fun us s2 ⟨vs,H2,I2,r2,q2⟩=>hm pins s2 σ H2 x vs v us Q I2 r1 r2 q2
end
end
section
def EL(X:Cx)(id:String)(r:V->List V->Hp->VK->Prop):Prop :=
 ∀(pins:List (Addr × Obj)) (s:Shared) (σ:St) (H:Hp) (x:V) (xs:List V) (v:Value) (us:List Value) (Q:VK),Inv X pins σ H s->RelV x v->Vals xs us->r x xs H Q ->
  wpAny (model X.prog X.w) X.A (call (.builtin id) (v::us)) (EP X pins σ Q) X.xe s
theorem Vals.one{x:V}{us:List Value}(h:Vals [x] us):∃u,us=[u]/\RelV x u:=by
 cases h with | cons r t=>cases t;exact⟨_,rfl,r⟩
theorem Vals.two{x y:V}{us:List Value}(h:Vals [x,y] us):∃u v,us=[u,v]/\RelV x u/\RelV y v:=by
 cases h with | cons r t=>cases t with | cons q t=>cases t;exact⟨_,_,rfl,r,q⟩
section
variable{X:Cx}{pins:List (Addr × Obj)}{σ:St}{H:Hp}{s:Shared}{l b:Addr}{xs ys zs:List V}
theorem Inv.lset{its its':List Value}{n:Nat}{f:Array Value->Array Value}{t':Nat}(I:Inv X pins σ H s)(hH:H l=some (.lst xs))
  (e:s.heap.get? l=some { cls:=.type "list",data:=.seq its.toArray n }) (hf:f its.toArray=its'.toArray) (hv:Vals ys its') (hz:ys.length≤sizeLine) :
  Inv X pins σ (upd H l (.lst ys)) { s with heap:=s.heap.update l (Obj.mapSeq f),toks:=t' }:=by
 have q:=PySem.IsL.update e f
 rw[hf]at q
 refine I.write (x:=l) (e:=l) (by rw[hH];exact trivial) (.inl rfl) (fun b' u hb hu=>(Heap.get?_update_other s.heap (Obj.mapSeq f) (Ne.symm hb)).trans hu) ⟨_,q⟩ ?_
 exact⟨hz,its',_,hv,q⟩
theorem Inv.lnew{its:List Value}{t':Nat}(I:Inv X pins σ H s)(hv:Vals ys its)(hz:ys.length≤sizeLine) :
  Inv X pins σ (upd H s.heap.objs.size (.lst ys)) { s with heap:=s.heap.push { cls:=.type "list",data:=.seq its.toArray },toks:=t' } :=
 I.laid (fun _ _ q=>Heap.get?_push_of_some _ q) (Nat.le_refl _) ⟨hz,its,0,hv,Heap.get?_push_size _ rfl⟩
theorem Inv.fresh(I:Inv X pins σ H s):H s.heap.objs.size=none:=I.hok.fresh (Nat.le_refl _)
theorem Inv.lstM(I:Inv X pins σ H s)(hH:H l=some (.lst xs)):xs.length≤sizeLine/\∃(its:List Value) (n:Nat),Vals xs its/\xs.length=its.length/\s.heap.get? l=some { cls:=.type "list",data:=.seq its.toArray n }:=by
 obtain⟨z,its,n,r,e⟩:=I.hok l _ hH
 exact⟨z,its,n,r,r.length,e⟩
end
section
variable{X:Cx}
def rAppend:V->List V->Hp->VK->Prop:=fun x vs H Q=>∃l xs y,x=.ref l/\vs=[y]/\H l=some (.lst xs)/\xs.length < sizeLine/\Q .non (upd H l (.lst (xs++[y])))
theorem dP:EL X "list.append" rAppend:=by
 intro pins s σ H x vs v us Q I rx rv h
 obtain⟨l,xs,y,rfl,rfl,hH,hz,q⟩:=h
 cases rx
 obtain⟨u,rfl,ru⟩:=rv.one
 obtain⟨z,its,n,r,hl,e⟩:=I.lstM hH
 refine call_meets F.slot_list_append ⟨_,e,rfl⟩ F.entry_list_append (F.args_list_append_2 _ _) (PySem.list_append l its.toArray n u (by rw[List.size_toArray];omega)) ⟨e,?_⟩
 refine⟨.non,_,I.lset (its':=its++[u]) hH e (by simp) (r.append (.cons ru .nil)) ?_,rfl,q⟩
 rw[List.length_append,List.length_singleton]
 omega
end
end
end L2
namespace Att
open PySem PySem.W PySem.Calls PyProof.Rows
theorem gA{P:Params}{h:Heap}:∀(ns:List Int) (vs:List Value),WellAll P h vs (ns.map WData.int)->IntsAre vs ns:=by
 intro ns
 induction ns with
 | nil =>
  intro vs w
  rw[List.map_nil]at w
  cases w
  exact .nil
 | cons n ns ih =>
  intro vs w
  rw[List.map_cons]at w
  cases w with
  | cons a b =>
   cases a
   exact .cons _ _ (ih _ b)
theorem ph{l:OpenLaw}{n:Nat}(hn:l.most=some n){P:Params}{h:Heap}{args:List WData}{vals:List Value}
  (hpre:l.row.toRowW.claim.pre args=true) (hwl:WellAll P h vals args) :
  ∃a vs ns,vals=[Value.ref a]/\args=[WData.list (ns.map WData.int)]/\h.get? a=some { cls:=.type "list",data:=.seq vs.toArray }/\IntsAre vs ns/\ns.length≤n:=by
 have hsh:WShape.hasAll [] args [.list .int]=true:=(pre_splitW hpre).1
 have hc:l.pre.holds [] { args:=args }=true:=(pre_splitW hpre).2
 obtain⟨d,r,rfl,h1,h2⟩:=hasAllW_cons hsh
 obtain rfl:=hasAllW_nil h2
 obtain⟨xs,rfl,h3⟩:=hasW_list h1
 obtain⟨ns,rfl⟩:=items_int h3
 have hlen:ns.length≤n:=by
  unfold OpenLaw.pre at hc
  have h4:(WTm.not (.lt (.lit (.int (n:Int))) (.len (.arg 0)))).holds [] { args:=[.list (ns.map .int)] }=true:=by
   have h4:=(holds_andW hc).1
   rw[hn]at h4
   exact h4
  have h5:=condW_of h4 (w_not (w_lt w_lit (w_len_list (w_arg rfl))))
  rw[List.length_map]at h5
  refine Nat.le_of_not_lt fun q=>?_
  have q':(n:Int) < ((ns.length:Nat):Int):=by omega
  first
   | (rw[decide_eq_true q']at h5;exact absurd h5 (by decide))
   | (simp at h5;omega)
 cases hwl with
 | cons w1 w2 =>
  cases w2
  cases w1 with
  | list ho hall=>exact⟨_,_,ns,rfl,rfl,ho,gA ns _ hall,hlen⟩
theorem pj(l:OpenLaw)(args:List WData):l.row.toRowW.claim.post args (.bool true) args=true :=
 postW_of (r:=l.row.toRowW) (X:=(true == true))
  (show WShape.has [] (.bool true) .bool=true by first | rfl | decide | simp[WShape.has,WShape.arms,WShape.armsAll])
  (show (WTm.eq .res (.lit (.bool true))).value [] { args:=args,res:=some (.bool true),after:=args }=some (.bool (true == true)) from w_eq_bool (w_res rfl) w_lit) rfl
theorem attach_call{l:OpenLaw}{n:Nat}{q:Program}{loose:List Str}{XP:(Str->Option Value)->Heap->Prop}{YP:World->Heap->Prop}{d:DefRec}
  (hn:l.most=some n) (hdf:d.params.defaults=[])
  (call:∀(w:World) (s₀ s₁:Shared) (mg mb:Str->Option Value) (fa:Addr) (o:Obj) (pm cd doc:Value) (a:Addr) (vs:List Value) (ns:List Int),
   Ground q loose [] XP w s₀ mg mb s₁.heap->YP w s₁.heap ->
   s₁.heap.get? fa=some o->o.data=.func (docDef d.name d.params d.body d.scope pm cd doc)->s₁.heap.CodeRec cd d.name->mg d.name=some (.ref fa) ->
   s₁.heap.get? a=some { cls:=.type "list",data:=.seq vs.toArray }->IntsAre vs ns->ns.length≤n->s₁.gens=#[] ->
   codeAny (model l.prog w) callerA (.call (.ref fa) ⟨[.ref a],[]⟩) (fun r s'=>r=.ok (.ret (.bool true))/\OldK s₁.heap s'.heap/\s'.os=s₁.os/\AllBare s'.gens) s₁) :
  WalkO q loose XP YP l.row.toRowW d [] (fun f vs=>PySem.call f vs):=by
 intro w s₀ s₁ mg mb G Y fa o pm cd doc dV kV ho hd hcd hD hmg hg args vals as hpre hlay hrd hwl hlo
 obtain rfl:dV=.none:=Dflts.none hD hdf
 obtain rfl:kV=.none:=Dflts.noKw hD
 obtain⟨a,vs,ns,rfl,rfl,hobj,hints,hlen⟩:=ph hn hpre hwl
 refine enter_call (codeAny_mono (call w s₀ s₁ mg mb fa o pm cd doc a vs ns G Y ho (fd_plain hd) hcd hmg hobj hints hlen hg) fun r s' hq=>?_)
 obtain⟨rfl,h2,h3,h4⟩:=hq
 exact⟨.inl ⟨.bool true,.bool true,[],rfl,fun _=>rfl,.bool true,pj l _,fun _=>⟨List.Pairwise.nil,fun _ hm=>(nomatch hm)⟩⟩,h2,h3,h4⟩
end Att
namespace L2
open PySem PySem.Spec PyProof.Rows
section
theorem vals_ints:∀{vs:List Value} {ns:List Int},IntsAre vs ns->Vals (ns.map V.int) vs
 | _,_,.nil=>.nil
 | _,_,.cons n t h=>.cons ⟨t,rfl⟩ (vals_ints h)
def xT(H:Hp):Prop:=∀b,H b=none\/∃o xs,H b=some (.frz o (.lst xs))
theorem qB{P:Program}{w:World}{K:PySem.W.Frag}{mg mb:Str->Option Value}{CX:CXT}{k:Nat}{fa a:Addr}{fd:FuncData}{x:Str}{sp:Sp}{s₁:Shared}{vs:List Value}{ns:List Int}
  (KX:K.In s₁.heap) (hns:s₁.heap.Ns mainGlobals mg) (hb:s₁.heap.Ns builtinsNs mb) (hbb:∀x:Str,x≠"__name__"->mb x=bootBuiltins x) (hlim:s₁.heap.NoLimit) (hg:s₁.gens=#[])
  (ha:s₁.heap.get? a=some { cls:=.type "list",data:=.seq vs.toArray }) (hi:IntsAre vs ns) (hl:ns.length≤sizeLine) (hr:Room k callerA)
  (F:∀base:Heap,K.In base->base.Ns mainGlobals mg->FnOk P w K mg base CX k fa fd [x] sp) (hbind:∀(s:Shared) (u:Value),BindsTo s fd ⟨[u],[]⟩ [(x,u)])
  (hsp:∀H:Hp,xT H->SqL K H a (ns.map V.int)->sp [.ref a] H (fun v _=>v=.bl true) fun _ _ _=>False)
  (hCX:∀H e s',CX [] H s₁ (fun _ _ _=>False) e s'->False) :
  codeAny (model P w) callerA (.call (.ref fa) ⟨[.ref a],[]⟩) (fun r s'=>r=.ok (.ret (.bool true))/\OldK s₁.heap s'.heap/\s'.os=s₁.os/\AllBare s'.gens) s₁:=by
 have rv:=vals_ints hi
 have lenV:=hi.length
 have core:∀H:Hp,xT H->SqL K H a (ns.map V.int)->HOk P w H s₁.heap->(∀b,H b≠none->b=a)->(H a≠none->K.lookup a=none) ->
   codeAny (model P w) callerA (.call (.ref fa) ⟨[.ref a],[]⟩) (fun r s'=>r=.ok (.ret (.bool true))/\OldK s₁.heap s'.heap/\s'.os=s₁.os/\AllBare s'.gens) s₁:=by
  intro H hO hS hok hA hK
  have base_of:∀{b:Addr} {o:Obj},s₁.heap.get? b=some o->H b=none->(je s₁.heap H).get? b=some o:=fun e n=>hidT_get e n
  have noA:∀{b:Addr} {o:Obj} {es:Array DictEntry} {ep:Nat},s₁.heap.get? b=some o->o.data=.dict es ep->H b=none:=fun {b o es ep} e d=>by
   cases q:H b with
   | none=>rfl
   | some u =>
    have e':b=a:=hA b (by rw[q];simp)
    subst e'
    rw[ha]at e;cases e
    have d':Data.seq vs.toArray _=Data.dict es ep:=d
    cases d'
  have nsK:∀{b:Addr} {m:Str->Option Value},s₁.heap.Ns b m->(je s₁.heap H).Ns b m:=fun {b m} ⟨o,es,ep,e,d,r⟩=>⟨o,es,ep,base_of e (noA e d),d,r⟩
  have hKb:K.In (je s₁.heap H):=fun b o e=>base_of (KX b o e) (by
   cases q:H b with
   | none=>rfl
   | some u =>
    have e':b=a:=hA b (by rw[q];simp)
    subst e'
    rw[hK (by rw[q];simp)]at e;cases e)
  have hM:Mod K mg (je s₁.heap H):=⟨hKb,nsK hns,⟨mb,nsK hb,hbb⟩,let ⟨mc,h1,h2⟩:=hlim;⟨mc,nsK h1,h2⟩⟩
  have e0:Env0 P w K mg (je s₁.heap H) callerA [] s₁ H:=⟨rfl,hM,fun b o e=>ue e,Nat.le_of_eq (oR _ _),trivial,fun b hb=>absurd (show b∈([]:List Addr) from hb) (by simp),hok,.of_eq hg⟩
  refine codeAny_mono ((F _ hKb (nsK hns)).run callerA [] s₁ H ⟨[.ref a],[]⟩ [.ref a] [.ref a] _ _ hr e0 (hbind s₁ (.ref a)) (.cons rfl .nil) (hsp H hO hS)) fun r s' h=>?_
  cases r with
  | error e=>exact (hCX H e s' h).elim
  | ok fl =>
   cases fl with
   | next=>exact False.elim h
   | brk=>exact False.elim h
   | cont=>exact False.elim h
   | ret u =>
    obtain⟨v,H',os,bare,un,hok',r',q⟩:=h
    have q':v=.bl true:=q
    subst q'
    obtain rfl:u=Value.bool true:=r'
    refine⟨rfl,OldK.of_keep fun b o e=>?_,os,bare⟩
    cases q:H b with
    | none=>exact un.keep b o e q (by intro z;exact absurd (show b∈([]:List Addr) from z) (by simp)) (by simp)
    | some u =>
     rcases hO b with z | ⟨ob,xs,z⟩
     ·rw[q]at z;cases z
     ·have z2:=un.frzs b ob _ z
      obtain⟨e1,_⟩:=hok b _ z
      obtain⟨e2,_⟩:=hok' b _ z2
      rw[e]at e1;cases e1
      exact e2
 cases hk:K.lookup a with
 | some o =>
  have e:=KX a o hk
  rw[ha]at e
  cases e
  refine core (fun _=>none) (fun _=>.inl rfl) (.inr ⟨_,vs.toArray,_,hk,rfl,rfl,rfl,by rw[List.size_toArray,lenV];exact hl,by simpa using rv⟩) (fun b u z=>by have z':(none:Option HO)=some u:=z;cases z') (fun b z=>absurd rfl z) fun z=>absurd rfl z
 | none =>
  refine core (fun b=>if b=a then some (.frz { cls:=.type "list",data:=.seq vs.toArray } (.lst (ns.map V.int))) else none) (fun b=>?_) (.inl (.inr ⟨{ cls:=.type "list",data:=.seq vs.toArray },if_pos rfl⟩)) (fun b u z=>?_) (fun b z=>?_) fun _=>hk
  ·by_cases hb:b=a
   ·exact .inr ⟨_,_,if_pos hb⟩
   ·exact .inl (if_neg hb)
  ·by_cases hb:b=a
   ·have z':=(if_pos hb).symm.trans z
    cases z'
    subst hb
    exact⟨ha,by rw[List.length_map];exact hl,vs,_,rv,ha⟩
   ·have z':=(if_neg hb).symm.trans z
    cases z'
  ·by_cases hb:b=a
   ·exact hb
   ·exact absurd (if_neg hb) z
end
section
theorem walk_of{l:PySem.W.OpenLaw}{n k:Nat}{q:Program}{loose:List Str}{XP:(Str->Option Value)->Heap->Prop}{YP:World->Heap->Prop}{d:DefRec}{K:Params->PySem.W.Frag}{CX:World->CXT}{sp:World->Sp}{x:Str}
  (hn:l.most=some n) (hn2:n≤sizeLine) (hdf:d.params.defaults=[]) (hr:Room k callerA)
  (hY:∀(w:World) (h:Heap),YP w h->(K w.params).In h)
  (F:∀(w:World) (mg:Str->Option Value) (fa:Addr) (h:Heap),(K w.params).In h->h.Ns mainGlobals mg->mg d.name=some (.ref fa) ->
   ∃fd:FuncData,(∀(s:Shared) (u:Value),BindsTo s fd ⟨[u],[]⟩ [(x,u)]) /\
    ∀base:Heap,(K w.params).In base->base.Ns mainGlobals mg->FnOk l.prog w (K w.params) mg base (CX w) k fa fd [x] (sp w))
  (hsp:∀(w:World) (H:Hp) (a:Addr) (ns:List Int),ns.length≤n->xT H->SqL (K w.params) H a (ns.map V.int)->sp w [.ref a] H (fun v _=>v=.bl true) fun _ _ _=>False)
  (hCX:∀(w:World) (H:Hp) (s:Shared) (e:Value) (s':Shared),CX w [] H s (fun _ _ _=>False) e s'->False) :
  PySem.W.WalkO q loose XP YP l.row.toRowW d [] (fun f vs=>PySem.call f vs):=by
 refine Att.attach_call hn hdf fun w s₀ s₁ mg mb fa o pm cd doc a vs ns G Y ho hd hcd hmg hobj hints hlen hg=>?_
 have KX:=hY w _ Y
 obtain⟨fd,hb,hF⟩:=F w mg fa _ KX G.T.g hmg
 exact qB KX G.T.g G.T.b G.T.builtins G.T.nolimit hg hobj hints (Nat.le_trans hlen hn2) hr hF hb (fun H hO hS=>hsp w H a ns hlen hO hS) fun H e s'=>hCX w H s₁ e s'
end
section
def dQ(s:Stmt):Arguments:=match s with
 | .FunctionDef _ a _ _ _ _ _ _ _ _=>a
 | _=>{ posonlyargs:=[],args:=[],vararg:=none,kwonlyargs:=[],kw_defaults:=[],kwarg:=none,defaults:=[] }
def bV(s:Stmt):List Stmt:=match s with
 | .FunctionDef _ _ b _ _ _ _ _ _ _=>b
 | _=>[]
def aI(s:Stmt):Scope:=match s with
 | .FunctionDef _ _ _ _ _ _ sc _ _ _=>sc
 | _=>{ kind:=.function,names:=[],isGenerator:=false,isCoroutine:=false }
abbrev CX0:CXT:=fun _ _ _ _ _ _=>False
abbrev E0:XK:=fun _ _ _=>False
theorem kh{X:Cx}:Passes CX0 X E0:=fun _ _ _ _ _ _ _ h=>h.elim
structure Fun (K:PySem.W.Frag)(x qual:Str)(st:Stmt)(f:Addr)(fd:FuncData):Prop where
 ex:∃(oc:Value) (od:Option Addr) (kV doc pm:Value) (an:Option Addr) (cdv ct:Value) (osl:Array (Option Value)),
  fd=PySem.W.fnOf x qual (dQ st) (bV st) (aI st) .none kV doc pm an cdv ct/\K.lookup f=some ⟨oc,od,.func fd,osl⟩/\PySem.W.codeIn K cdv qual=true
 kp:PySem.W.keepIn K (.ref f)=true
section
variable{P:Program}{w:World}{K:PySem.W.Frag}{mg:Str->Option Value}{base:Heap}
theorem Fun.ok{x qual:Str}{st:Stmt}{f:Addr}{fd:FuncData}{N ps:List Str}{k:Nat}{sp:Sp}(F:Fun K x qual st f fd)(S:FnScope N ps (aI st))(len:∀vs H Q E,sp vs H Q E->vs.length=ps.length)
  (hbody:∀(cdv:Value) (A:Around) (outer:List Env) (s:Shared) (H:Hp) (vs:List V) (Q:VK) (E:XK),Room k (A.deeper (envOfC qual (aI st) s.heap.objs.size f cdv))->sp vs H Q E ->
   ∃t,PSs (jm CX0 P w K mg base N qual (aI st) f cdv A outer s H E).nox (bV st) t/\t { nx:=fun _ H'=>Q .non H',rt:=Q } (start N vs) H):FnOk P w K mg base CX0 (k + 1) f fd ps sp:=by
 obtain⟨oc,od,kV,doc,pm,an,cdv,ct,osl,rfl,lk,hcd⟩:=F.ex
 refine Ai lk hcd S len fun A outer s H vs Q E hr hsp=>?_
 obtain⟨t,h,q⟩:=hbody cdv A outer s H vs Q E hr hsp
 exact⟨t,h.nox,q⟩
theorem jr{x qual:Str}{st:Stmt}{f:Addr}{oc:Value}{od an:Option Addr}{osl:Array (Option Value)}{kV doc pm cdv ct:Value}(l:K.lookup f=some ⟨oc,od,.func (PySem.W.fnOf x qual (dQ st) (bV st) (aI st) .none kV doc pm an cdv ct),osl⟩)
  (c:PySem.W.codeIn K cdv qual=true) (k:PySem.W.keepIn K (.ref f)=true):Fun K x qual st f (PySem.W.fnOf x qual (dQ st) (bV st) (aI st) .none kV doc pm an cdv ct):=⟨⟨oc,od,kV,doc,pm,an,cdv,ct,osl,rfl,l,c⟩,k⟩
end
def Same(H H':Hp):Prop:=∀b o,H b=some o->H' b=some o
theorem Same.seq{K:PySem.W.Frag}{H H':Hp}{a:Addr}{xs:List V}(e:Same H H')(h:SqL K H a xs):SqL K H' a xs:=by
 rcases h with (h | ⟨o,h⟩) | h
 ·exact .inl (.inl (e _ _ h))
 ·exact .inl (.inr ⟨o,e _ _ h⟩)
 ·exact .inr h
end
section
theorem lF{env:Env}:∀(names:List (Str × NameKind)) (acc:List (Str × Addr)),(∀x∈names,x.2=.free->∃c,env.cells.lookup x.1=some c) ->
  (∀x c,acc.lookup x=some c->env.cells.lookup x=some c) ->
  ∃cl:List (Str × Addr),forIn names acc (fun (x:Str × NameKind) (r:List (Str × Addr))=>match x with
    | (name,kind)=>(if kind == NameKind.free then do let c <- cellOf env name;pure (ForInStep.yield ((name,c)::r)) else pure (ForInStep.yield r):Sem (ForInStep (List (Str × Addr)))))=pure cl /\
   (∀x c,cl.lookup x=some c->env.cells.lookup x=some c)/\(∀x∈names,x.2=.free->∃c,cl.lookup x.1=some c)/\(∀x c,acc.lookup x=some c->∃c',cl.lookup x=some c'):=by
 intro names
 induction names with
 | nil=>intro acc _ h2;exact⟨acc,rfl,h2,fun _ h=>(nomatch h),fun x c h=>⟨c,h⟩⟩
 | cons p r ih =>
  intro acc h1 h2
  obtain⟨n,k⟩:=p
  rw[List.forIn_cons]
  have hr:∀x∈r,x.2=.free->∃c,env.cells.lookup x.1=some c:=fun x hx=>h1 x (List.mem_cons_of_mem _ hx)
  by_cases hk:k=.free
  ·subst hk
   obtain⟨c,hc⟩:=h1 (n,.free) List.mem_cons_self rfl
   have hce:cellOf env n=pure c:=by unfold cellOf;rw[show env.cells.lookup n=some c from hc]
   have h2':∀x c',((n,c)::acc).lookup x=some c'->env.cells.lookup x=some c':=fun x c' h=>by
    rw[List.lookup_cons]at h
    cases hx:x == n with
    | true=>rw[hx]at h;cases h;rw[eq_of_beq hx];exact hc
    | false=>rw[hx]at h;exact h2 x c' h
   obtain⟨cl,e,a,b,d⟩:=ih ((n,c)::acc) hr h2'
   refine⟨cl,?_,a,fun x hx hf=>?_,fun x c' h=>?_⟩
   ·show ((cellOf env n >>= fun c=>pure (ForInStep.yield ((n,c)::acc))) >>= _)=_
    rw[hce]
    exact e
   ·rcases List.mem_cons.mp hx with rfl | hx
    ·exact d n c (by simp[List.lookup_cons])
    ·exact b x hx hf
   ·cases hx:x == n with
    | true=>exact d x c (by rw[List.lookup_cons,hx])
    | false=>exact d x c' (by rw[List.lookup_cons,hx];exact h)
  ·have hb:(k == NameKind.free)=false:=by simpa using hk
   obtain⟨cl,e,a,b,d⟩:=ih acc hr h2
   refine⟨cl,?_,a,fun x hx hf=>?_,d⟩
   ·show ((if (k == NameKind.free)=true then _ else _) >>= _)=_
    rw[hb]
    exact e
   ·rcases List.mem_cons.mp hx with rfl | hx
    ·exact absurd hf hk
    ·exact b x hx hf
theorem lG{scope:Scope}{env:Env}(h:∀x∈scope.names,x.2=.free->∃c,env.cells.lookup x.1=some c) :
  ∃cl:List (Str × Addr),closureFor scope env=pure cl/\(∀x c,cl.lookup x=some c->env.cells.lookup x=some c)/\(∀x∈scope.names,x.2=.free->∃c,cl.lookup x.1=some c):=by
 obtain⟨cl,e,a,b,_⟩:=lF (env:=env) scope.names [] h (fun _ _ h=>nomatch h)
 refine⟨cl,?_,a,b⟩
 have q:closureFor scope env=(forIn scope.names ([]:List (Str × Addr)) (fun (x:Str × NameKind) (r:List (Str × Addr))=>match x with
    | (name,kind)=>(if kind == NameKind.free then do let c <- cellOf env name;pure (ForInStep.yield ((name,c)::r)) else pure (ForInStep.yield r):Sem (ForInStep (List (Str × Addr))))) >>= fun r=>pure r):=rfl
 rw[q,e]
 rfl
def cb(X:Cx)(N:List Str)(scope:Scope)(cl:List (Str × Addr))(s:Shared)(H:Hp)(fp:List Addr)(pins:List (Addr × Obj)):Cx where
 prog:=X.prog
 w:=X.w
 K:=X.K
 mg:=X.mg
 base:=X.base
 A:=X.A
 N:=N
 s₀:=s
 H₀:=H
 env:=compEnvC scope cl s.heap.objs.size X.env
 outer:=X.stack
 stack:=X.stack
 ex:=fp
 fn:=fun _=>false
 calm:=X.calm
 pn:=X.pn++pins
 xe:=fun _ _=>False
structure CC where
 cl:List (Str × Addr)
 s:Shared
 H:Hp
 fp:List Addr
 pins:List (Addr × Obj)
abbrev fJ(X:Cx)(N:List Str)(scope:Scope)(c:CC):Cx:=cb X N scope c.cl c.s c.H c.fp c.pins
def bP(nt:Nat)(fr:List Nat)(σ:St):St:=List.replicate nt none++fr.map fun j=>(σ[j]?).join
structure CompScope (N:List Str)(nt:Nat)(fr:List Nat)(ON:List Str)(sc osc:Scope):Prop where
 kind:sc.kind=.function
 nocell:∀x∈sc.names,x.2≠.cell
 names:∀x∈sc.names,x.2=.local->sc.names.lookup x.1=some .local
 len:N.length=nt + fr.length
 out:∀(i:Nat) (j:Nat),fr[i]?=some j->∃x,N[nt + i]?=some x/\ON[j]?=some x/\osc.names.lookup x=some .cell/\sc.names.lookup x=some .free
 cells:∀x∈sc.names,x.2=.free->osc.names.lookup x.1=some .cell
 looks:∀x∈sc.names,x.2=.free->sc.names.lookup x.1=some .free
theorem bW{sc:Scope}{env:Env}:∀(names:List (Str × NameKind)) (x:Str) (k:NameKind),
  (names.map fun (n,k)=>if (k == NameKind.free && env.scope.kind == .function && env.kindOf n == some .cell) then (n,NameKind.cell) else (n,k)).lookup x=some k ->
  names.lookup x=some k\/(k=.cell/\names.lookup x=some .free)
 | [],_,_,h=>by simp at h
 | (n,k0)::r,x,k,h=>by
  have ih:=bW (sc:=sc) (env:=env) r x k
  rw[List.map_cons]at h
  have h':List.lookup x ((if (k0 == NameKind.free && env.scope.kind == .function && env.kindOf n == some .cell)=true then (n,NameKind.cell) else (n,k0))::(r.map fun (n,k)=>if (k == NameKind.free && env.scope.kind == .function && env.kindOf n == some .cell) then (n,NameKind.cell) else (n,k)))=some k:=h
  by_cases hc:(k0 == NameKind.free && env.scope.kind == .function && env.kindOf n == some .cell)=true
  ·rw[if_pos hc,List.lookup_cons]at h'
   rw[List.lookup_cons]
   cases hx:x == n with
   | true =>
    rw[hx]at h'
    cases h'
    rw[Bool.and_eq_true,Bool.and_eq_true]at hc
    have:k0=.free:=by simpa using hc.1.1
    subst this
    exact .inr ⟨rfl,rfl⟩
   | false=>rw[hx]at h';exact ih h'
  ·rw[if_neg hc,List.lookup_cons]at h'
   rw[List.lookup_cons]
   cases hx:x == n with
   | true=>rw[hx]at h';exact .inl h'
   | false=>rw[hx]at h';exact ih h'
theorem pk{prog:Program}{w:World}{A:Around}{R:Result->Shared->Prop}{s:Shared}{elt target iter:Expr}{ifs:List Expr}{scope:Scope}{pos:Pos}{it acc:Value}{env:Env}(I:Nat->Shared->Prop)
  (turn:∀n s,I n s->wpAny (model prog w) A (pyNext it) (fun r s₁=>match r with
   | none=>R (.ok .next) s₁
   | some v=>wpAny (model prog w) A (letOwnedTupleGo target it v) (fun _ s₂=>wpAny (model prog w) A (assign target env v) (fun _ s₂ =>
     wpAny (model prog w) A (forIn ifs true fun c r=>if r=true then do let ok <- isTrue c env (eval c env);pure (ForInStep.yield ok) else pure (ForInStep.yield r)) (fun ok s₃ =>
      if ok=true then wpAny (model prog w) A (eval elt env) (fun x s₄ =>
       wpAny (model prog w) A (call (.builtin "list.append") [acc,x]) (fun _ s₅=>∃m,m < n/\I m s₅) (fun _ _=>False) s₄) (fun _ _=>False) s₃
      else ∃m,m < n/\I m s₃) (fun _ _=>False) s₂) (fun _ _=>False) s₂) (fun _ _=>False) s₁) (fun _ _=>False) s)
  (n:Nat) (h:I n s) :
  codeAny (model prog w) A (.compLoop (.ListComp elt [⟨target,iter,ifs,0⟩] scope pos) 0 it acc env) R s:=by
 refine codeAny_loop rfl I (fun n s hI=>?_) n h
 show wpAny _ A ((compTurn (.ListComp elt [⟨target,iter,ifs,0⟩] scope pos) 0 it acc env).onRaise (fun x=>do noteFrame x env;theTreesLotGoes x)) _ _ s
 refine wpAny_noted ?_
 rw[compTurn_list]
 refine wpAny_bind (wpAny_standAt (wpAny_bind (wpAny_mono (turn n s hI) (fun r s₁ h₁=>?_) fun _ _ h'=>h'.elim)))
 cases r with
 | none=>exact wpAny_pure h₁
 | some v =>
  refine wpAny_bind (wpAny_mono h₁ (fun _ s₂ h₁=>?_) fun _ _ h'=>h'.elim)
  refine wpAny_bind (wpAny_mono h₁ (fun _ s₂ h₂=>wpAny_bind (wpAny_mono h₂ (fun ok s₃ h₃=>?_) fun _ _ h'=>h'.elim)) fun _ _ h'=>h'.elim)
  cases ok with
  | false=>exact wpAny_pure ⟨rfl,h₃⟩
  | true =>
   exact wpAny_bind (wpAny_bind (wpAny_mono h₃ (fun x s₄ h₄=>wpAny_bind (wpAny_mono h₄ (fun _ s₅ h₅=>wpAny_pure (wpAny_pure ⟨rfl,h₅⟩)) fun _ _ h'=>h'.elim)) fun _ _ h'=>h'.elim))
section
variable{X:Cx}{tg elt iter:Expr}{ifs:List Expr}{scope:Scope}{pos:Pos}{N:List Str}{nt:Nat}{fr:List Nat}
theorem lH{pins:List (Addr × Obj)}{σ:St}{H:Hp}{s s4:Shared}{fp:List Addr}{cl:List (Str × Addr)}(S:CompScope N nt fr X.N scope X.env.scope)(I:Inv X pins σ H s)
  (hf:∀b∈fp,FpOk X pins H b) (hlt:∀b∈fp,b < s.heap.objs.size)
  (hcl:∀x c,cl.lookup x=some c->X.env.cells.lookup x=some c) (hcf:∀x∈scope.names,x.2=.free->∃c,cl.lookup x.1=some c)
  (hk:∀b o,s.heap.get? b=some o->s4.heap.get? b=some o) (hn:∃m,s4.heap.Ns s.heap.objs.size m) (ho:s4.os=s.os) (hg:s4.gens=s.gens) :
  Inv (cb X N scope cl s H fp pins) [] (bP nt fr σ) H s4:=by
 have hC:H s.heap.objs.size=none:=I.hok.fresh (Nat.le_refl _)
 have neC:∀b o,s.heap.get? b=some o->b≠s.heap.objs.size:=fun b o e=>Nat.ne_of_lt (Heap.lt_size e)
 have kd:(cb X N scope cl s H fp pins).env.scope.kind=.function:=S.kind
 have lk:∀x,scope.names.lookup x=some .free->∃c,cl.lookup x=some c:=fun x h=>hcf (x,.free) (PySem.mem_of_lookup h) rfl
 refine⟨⟨I.ok.mod,kd,I.ok.glob,I.ok.blt,Nat.le_refl _,fun x y c h1 h2=>I.ok.inj x y c (hcl x c h1) (hcl y c h2),fun x hx=>?_,fun _ _ h _=>absurd (show false=true from h) Bool.false_ne_true,I.ok.hd,I.ok.frames,.inl rfl,fun b hb=>⟨Nat.ne_of_lt (hlt b hb),fun x c e=>(hf b hb).2.2.2.2.1 x c (hcl x c e)⟩,
  I.bs,Nat.le_trans I.ok.bsz I.sz,fun b o e hb=>?_,fun b hb hs=>?_,I.stack,I.stkFree⟩,ho,by rw[hg];exact I.bare,Un.kept hk,?_,fun x c e=>?_,hC,fun x c e=>I.freeC x c (hcl x c e),fun p hp=>?_,I.hok.kept hk,?_⟩
 ·have hx':(relabel scope X.env).names.lookup x=some .cell\/(relabel scope X.env).names.lookup x=some .free:=hx
  rcases hx' with h | h
  ·rcases bW (sc:=scope) scope.names x _ h with q | ⟨_,q⟩
   ·exact absurd rfl (S.nocell _ (PySem.mem_of_lookup q))
   ·exact lk x q
  ·rcases bW (sc:=scope) scope.names x _ h with q | ⟨q,_⟩
   ·exact lk x q
   ·cases q
 ·rcases (hf b hb).2.2.2.1 with z | z
  ·exact I.ok.noex b o e z
  ·exact absurd (Nat.lt_of_lt_of_le (Heap.lt_size e) (Nat.le_trans I.ok.bsz z)) (Nat.lt_irrefl _)
 ·rcases List.mem_cons.mp (I.stkSub b hs) with z | z
  ·exact (hf b hb).2.1 z
  ·exact (hf b hb).2.2.1 z
 ·obtain⟨m,hm⟩:=hn
  refine⟨m,hm,fun i x v h1 h2 h3=>?_⟩
  obtain⟨m0,hn0,hl0⟩:=I.loc
  have hi:nt≤i:=by
   refine Nat.le_of_not_lt fun hlt=>?_
   unfold bP at h2
   rw[List.getElem?_append_left (by simpa using hlt),List.getElem?_replicate]at h2
   rw[if_pos hlt]at h2
   cases h2
  obtain⟨d,rfl⟩:∃d,i=nt + d:=⟨i - nt,by omega⟩
  unfold bP at h2
  rw[List.getElem?_append_right (by simp),List.length_replicate,Nat.add_sub_cancel_left,List.getElem?_map]at h2
  cases ej:fr[d]? with
  | none=>rw[ej]at h2;cases h2
  | some j =>
   rw[ej]at h2
   have h2':(σ[j]?).join=some v:=Option.some.inj h2
   have hσ:σ[j]?=some (some v):=by
    cases e:σ[j]? with
    | none=>rw[e]at h2';cases h2'
    | some q=>rw[e]at h2';exact congrArg some h2'
   obtain⟨y,e1,e2,e3,e4⟩:=S.out d j ej
   have e1':N[nt + d]?=some x:=h1
   rw[e1]at e1';cases e1'
   obtain⟨u,ru,l⟩:=hl0 j x v e2 hσ (.inr (.inl e3))
   refine⟨u,ru,?_⟩
   rcases l with ⟨q,_⟩ | ⟨_,c,ec,z⟩
   ·have q':X.env.scope.names.lookup x=some .local:=q
    rw[e3]at q';cases q'
   ·obtain⟨c',hc'⟩:=lk x e4
    have:c'=c:=by have:=hcl x c' hc';rw[ec]at this;exact (Option.some.inj this).symm
    subst this
    obtain⟨o,ho',hd⟩:=z
    refine .inr ⟨?_,c',hc',⟨o,hk _ _ ho',hd⟩⟩
    rcases h3 with q | q | q
    ·have q':(relabel scope X.env).names.lookup x=some .local:=q
     rcases bW (sc:=scope) scope.names x _ q' with z | ⟨z,_⟩
     ·rw[e4]at z;cases z
     ·cases z
    ·exact .inl q
    ·exact .inr q
 ·obtain⟨v,o,ho',hd⟩:=I.cell x c (hcl x c e)
  exact⟨v,o,hk _ _ ho',hd⟩
 ·have hp':p∈X.pn++pins:=by
   rcases List.mem_append.mp hp with z | z
   ·exact z
   ·exact absurd z (by simp)
  obtain⟨e,n,ne,nf,d⟩:=I.pin p hp'
  refine⟨hk _ _ e,n,neC _ _ e,fun z=>?_,d⟩
  rcases List.mem_cons.mp (I.stkSub p.1 z) with q | q
  ·exact ne q
  ·exact nf q
 ·show (bP nt fr σ).length=N.length
  unfold bP
  rw[List.length_append,List.length_replicate,List.length_map,S.len]
theorem qC{pins pins':List (Addr × Obj)}{σ σ':St}{H H1:Hp}{s s3 s5:Shared}{D:Addr}{h':Heap}{fp:List Addr}{cl:List (Str × Addr)}(I:Inv X pins σ H s)(hf:∀b∈fp,FpOk X pins H b)
  (hD:H D=none) (hDs:s.heap.objs.size≤D) (hDC:D < s3.heap.objs.size) (hk:∀b o,s.heap.get? b=some o->s3.heap.get? b=some o) (hos:s3.os=s.os)
  (J:Inv (cb X N scope cl s3 (upd H D (.lst [])) fp pins) pins' σ' H1 s5) (hs:Heap.SameBut s3.heap.objs.size s5.heap h') :
  Inv X pins σ H1 { s5 with heap:=h' }:=by
 have hsz:s.heap.objs.size≤s3.heap.objs.size:=Nat.le_of_lt (Nat.lt_of_le_of_lt hDs hDC)
 have up3:∀b,b < s.heap.objs.size->b≠D/\b≠s3.heap.objs.size:=fun b hb=>⟨Nat.ne_of_lt (Nat.lt_of_lt_of_le hb hDs),Nat.ne_of_lt (Nat.lt_of_lt_of_le hb hsz)⟩
 have H3:∀b,b≠D->(upd H D (.lst [])) b=H b:=fun b hb=>upd_ne hb
 refine I.call' (ch:=fp) (s':={ s5 with heap:=h' }) (J.os.trans hos) ⟨fun b o e n hb hx=>?_,fun b o e n hb hx=>?_,fun b o e n hx=>?_,fun b o e hx=>?_,fun b xs e=>?_,fun b o u e=>?_,fun b ps e=>?_⟩ ?_ J.bare fun b hb=>?_
 ·obtain⟨n1,n2⟩:=up3 b (Heap.lt_size e)
  exact (hs.2 b n2).trans (J.base.keep b o (hk b o e) ((H3 b n1).trans n) hb hx)
 ·obtain⟨n1,n2⟩:=up3 b (Heap.lt_size e)
  obtain⟨sl,q⟩:=J.base.slot b o (hk b o e) ((H3 b n1).trans n) hb hx
  exact⟨sl,(hs.2 b n2).trans q⟩
 ·obtain⟨n1,n2⟩:=up3 b (Heap.lt_size e)
  exact J.base.free b o (hk b o e) ((H3 b n1).trans n) hx
 ·obtain⟨n1,n2⟩:=up3 b (Heap.lt_size e)
  obtain⟨o',q⟩:=J.base.there b o (hk b o e) hx
  exact⟨o',(hs.2 b n2).trans q⟩
 ·exact J.base.tups b xs ((H3 b (ak e hD)).trans e)
 ·exact J.base.frzs b o u ((H3 b (ak e hD)).trans e)
 ·exact J.base.tbls b ps ((H3 b (ak e hD)).trans e)
 ·intro b u e
  refine (J.hok b u e).stay (fun c v hc q=>(hs.2 c ?_).trans q) (fun _ q=>q) fun _ _ q=>q
  have hfree:H1 s3.heap.objs.size=none:=J.free
  rintro rfl
  rcases hc with z | z
  ·rw[z]at hfree;rw[hfree]at e;cases e
  ·rw[hfree]at z;cases z
 ·obtain⟨f0,f1,f2,f3,f4,f5⟩:=hf b hb
  exact⟨f3,f1,f4,f5⟩
abbrev TC:=Addr->St->Hp->(Hp->Prop)->Prop
def mQ(te:TE):TC:=fun D σ H Q=>te σ H fun y H1=>∃ys,H1 D=some (.lst ys)/\ys.length < sizeLine/\Q (upd H1 D (.lst (ys++[y])))
def Am(tt:TT)(te:TE):TC:=fun D σ H Q=>tt σ H fun b H1=>if b=true then mQ te D σ H1 Q else Q H1
def ki(wi:TI)(nt:Nat)(fr:List Nat)(g:CC->TG)(tc:CC->TC):TE:=fun σ H Q=>wi σ H fun J H1=>∀(c:CC) D,H1 D=none->∃W:Nat->Nat->St->Hp->Prop,(∃m,W 0 m (bP nt fr σ) (upd H1 D (.lst []))) /\
 ∀i m σ' H',W i m σ' H'->(J.stop i H'/\Q (.ref D) H')\/(J.go i H'/\∀x H2,J.yld i H' x H2->g c x σ' H2 fun σ3 H3=>tc c D σ3 H3 fun H4=>∃m',m' < m/\W (i + 1) m' σ3 H4)
def kj(Y:Cx)(D:Addr)(ifs:List Expr)(elt:Expr)(tc:TC):Prop :=
 ∀(pins:List (Addr × Obj)) (s:Shared) (σ:St) (H:Hp) (Q:Hp->Prop),Inv Y pins σ H s->tc D σ H Q ->
  wpAny (model Y.prog Y.w) Y.A (forIn ifs true fun c r=>if r=true then do let ok <- isTrue c Y.env (eval c Y.env);pure (ForInStep.yield ok) else pure (ForInStep.yield r)) (fun ok s₃ =>
   if ok=true then wpAny (model Y.prog Y.w) Y.A (eval elt Y.env) (fun x s₄ =>
    wpAny (model Y.prog Y.w) Y.A (call (.builtin "list.append") [.ref D,x]) (fun _ s₅=>∃H',Inv Y pins σ H' s₅/\Q H') Y.xe s₄) Y.xe s₃
   else ∃H',Inv Y pins σ H' s₃/\Q H') Y.xe s
theorem mR{Y:Cx}{D:Addr}{te:TE}(he:PE Y elt te){pins:List (Addr × Obj)}{s:Shared}{σ:St}{H:Hp}{Q:Hp->Prop}(I:Inv Y pins σ H s)(h:mQ te D σ H Q) :
  wpAny (model Y.prog Y.w) Y.A (eval elt Y.env) (fun x s₄ =>
    wpAny (model Y.prog Y.w) Y.A (call (.builtin "list.append") [.ref D,x]) (fun _ s₅=>∃H',Inv Y pins σ H' s₅/\Q H') Y.xe s₄) Y.xe s:=by
 refine thn (he pins s σ H _ I h) fun u s1 hZ=>?_
 obtain⟨y,H1,I1,r1,ys,hD,hz,q⟩:=hZ
 refine thn (dP pins s1 σ H1 (.ref D) [y] (.ref D) [u] (fun v H'=>v=.non/\Q H') I1 rfl (.cons r1 .nil) ⟨D,ys,y,rfl,rfl,hD,hz,rfl,q⟩) fun v s2 ⟨z,H2,I2,_,_,q2⟩=>⟨H2,I2,q2⟩
theorem pv{Y:Cx}{D:Addr}{te:TE}(he:PE Y elt te):kj Y D [] elt (mQ te):=by
 intro pins s σ H Q I h
 refine wpAny_tests_nil ?_
 rw[if_pos rfl]
 exact mR he I h
theorem qD{Y:Cx}{D:Addr}{c:Expr}{tt:TT}{te:TE}(hc:PT Y c tt)(he:PE Y elt te):kj Y D [c] elt (Am tt te):=by
 intro pins s σ H Q I h
 refine wpAny_tests_one (thn (hc pins s σ H _ I h) fun b s1 hZ=>?_)
 obtain⟨H1,I1,q1⟩:=hZ
 cases b with
 | true =>
  rw[if_pos rfl]at q1 ⊢
  exact mR he I1 q1
 | false =>
  rw[if_neg Bool.false_ne_true]at q1 ⊢
  exact⟨H1,I1,q1⟩
theorem iQ{wi:TI}{g:CC->TG}{tc:CC->TC}{use:Option (Value->Sem Unit)}{Q0:Value->Shared->Prop}(hc:X.calm=true)(S:CompScope N nt fr X.N scope X.env.scope)(hi:PI X tg iter wi)
  (hg:∀c:CC,PG (fJ X N scope c) tg (g c)) (ha:∀(c:CC) D,kj (fJ X N scope c) D ifs elt (tc c))
  {pins:List (Addr × Obj)} {s:Shared} {σ:St} {H:Hp} {Q:VK} (I:Inv X pins σ H s) (h:ki wi nt fr g tc σ H Q) (hfr:∀x∈scope.names,x.2=.free->X.env.kindOf x.1=some .cell)
  (fin:∀(D C:Addr) (s5:Shared) (H1:Hp),FpOk X pins H1 C->s5.heap.get? C≠none->C≠X.env.locals->(∃m,s5.heap.Ns C m)->(∀h',Heap.SameBut C s5.heap h'->Inv X pins σ H1 { s5 with heap:=h' })->Q (.ref D) H1 ->
   compPost (model X.prog X.w) X.A X.xe use Q0 (.ref D) C (.ok .next) s5)
  (hs:∀x,foldedSetIterable iter X.env x=pure x:=by intro _;rfl) :
  wpAny (model X.prog X.w) X.A (comprehension (.ListComp elt [⟨tg,iter,ifs,0⟩] scope pos) scope X.env (firstIterPos [⟨tg,iter,ifs,0⟩] pos) (newList []) false (eval iter X.env) use) Q0 X.xe s:=by
 have hcells:∀x∈scope.names,x.2=.free->∃c,X.env.cells.lookup x.1=some c:=fun x hx hf=>I.ok.has x.1 (.inl (hfr x hx hf))
 obtain⟨cl,hcl,h1,h2⟩:=lG hcells
 refine wpAny_comprehension_free (use:=use) rfl hs hcl S.kind S.names (thn (hi pins s σ H _ I h) fun xv s1 hx=>thn hx fun itv s2 hpe=>?_)
 obtain⟨it,fp,tn,J,H2,rfl,I2,T,st2,f2,hW⟩:=hpe
 have hlt:∀b∈fp,b < s2.heap.objs.size:=fun b hb=>let ⟨o,e,_⟩:=T.obj 0 _ st2 b hb;Heap.lt_size e
 refine wpAny_newObj_type (wpAny_newFunctionEnv S.nocell (by intro y hy;simp at hy) (fun h₁ hns₁ hsb₁=>?_) S.kind) (by show 0≤sizeLine;exact Nat.zero_le _)
 have hD:H2 s2.heap.objs.size=none:=I2.hok.fresh (Nat.le_refl _)
 have I3:Inv X pins σ (upd H2 s2.heap.objs.size (.lst [])) { s2 with heap:=s2.heap.push { cls:=.type "list",dict:=none,data:=.seq ([]:List Value).toArray } }:=I2.lnew (t':=s2.toks) (ys:=[]) .nil (Nat.zero_le _)
 generalize hs3:({ s2 with heap:=s2.heap.push { cls:=.type "list",dict:=none,data:=.seq ([]:List Value).toArray } }:Shared)=s3 at hns₁ hsb₁ I3 ⊢
 obtain⟨W,⟨m0,w0⟩,turn⟩:=hW ⟨cl,s3,upd H2 s2.heap.objs.size (.lst []),fp,pins⟩ _ hD
 have k23:∀b o,s2.heap.get? b=some o->s3.heap.get? b=some o:=fun b o e=>by rw[<- hs3];exact Heap.get?_push_of_some _ e
 have z3:s3.heap.objs.size=s2.heap.objs.size + 1:=by rw[<- hs3];exact Heap.size_push ..
 have os3:s3.os=s2.os:=by rw[<- hs3]
 have f3:∀b∈fp,FpOk X pins (upd H2 s2.heap.objs.size (.lst [])) b:=fun b hb=>⟨by rw[upd_ne (Nat.ne_of_lt (hlt b hb))];exact (f2 b hb).1,(f2 b hb).2⟩
 have k34:∀b o,s3.heap.get? b=some o->h₁.get? b=some o:=fun b o e=>hsb₁.extBut b o (Nat.ne_of_lt (Heap.lt_size e)) (Heap.get?_push_of_some _ e)
 generalize hs4:({ s3 with heap:=h₁,toks:=s3.toks + ([]:List (Str × Value)).length }:Shared)=s4
 have e4h:s4.heap=h₁:=by rw[<- hs4]
 have I4:Inv (cb X N scope cl s3 (upd H2 s2.heap.objs.size (.lst [])) fp pins) [] (bP nt fr σ) (upd H2 s2.heap.objs.size (.lst [])) s4 :=
  lH S I3 f3 (fun b hb=>by rw[z3];exact Nat.lt_succ_of_lt (hlt b hb)) h1 h2 (fun b o e=>by rw[e4h];exact k34 b o e) ⟨_,by rw[e4h];exact hns₁⟩ (by rw[<- hs4]) (by rw[<- hs4])
 have st4:tn 0 s4.heap:=T.keep 0 _ _ st2 fun b hb o e=>by rw[e4h];exact k34 b o (k23 b o e)
 have loop:codeAny (model X.prog X.w) X.A (.compLoop (.ListComp elt [⟨tg,iter,ifs,0⟩] scope pos) 0 (.ref it) (.ref s2.heap.objs.size) (compEnvC scope cl s3.heap.objs.size X.env))
   (compPost (model X.prog X.w) X.A X.xe use Q0 (.ref s2.heap.objs.size) s3.heap.objs.size) s4:=by
  have stat:∀{H':Hp},(∀b∈fp,H' b=none)->∀b∈fp,FpOk (cb X N scope cl s3 (upd H2 s2.heap.objs.size (.lst [])) fp pins) [] H' b:=fun {H'} hn b hb =>
   ⟨hn b hb,Nat.ne_of_lt (show b < s3.heap.objs.size by rw[z3];exact Nat.lt_succ_of_lt (hlt b hb)),fun z=>I4.ok.exfs b hb z,.inl hb,fun x c e=>(f2 b hb).2.2.2.2.1 x c (h1 x c e),fun p hp=>(f2 b hb).2.2.2.2.2 p (by
    rcases List.mem_append.mp hp with z | z
    ·exact z
    ·exact absurd z (by simp))⟩
  refine pk (env:=compEnvC scope cl s3.heap.objs.size X.env) (fun n s'=>∃i σ' H',Inv (cb X N scope cl s3 (upd H2 s2.heap.objs.size (.lst [])) fp pins) [] σ' H' s'/\tn i s'.heap/\(∀b∈fp,H' b=none)/\W i n σ' H') ?_ m0
   ⟨0,_,_,I4,st4,fun b hb=>(f3 b hb).1,w0⟩
  rintro n s5 ⟨i,σ5,H5,I5,st5,fr5,w5⟩
  rcases turn i n σ5 H5 w5 with ⟨stop,qn⟩ | ⟨go,step⟩
  ·refine thn (T.done (cb X N scope cl s3 (upd H2 s2.heap.objs.size (.lst [])) fp pins) rfl rfl rfl hc i [] s5 σ5 H5 (fun _ _=>False) I5 (stat fr5) st5 stop) fun r s6 hZ=>?_
   obtain⟨hr,I6⟩:=hZ
   subst hr
   obtain⟨m,hm,_⟩:=id I6.loc
   refine fin _ _ s6 H5 (I2.fpOk (by rw[z3];exact Nat.le_succ _) I6.free) ?_ ?_ ⟨m,hm⟩ (fun h' hs'=>qC I2 f2 hD (Nat.le_refl _) (by rw[z3];exact Nat.lt_succ_self _) k23 os3 I6 hs') qn
   ·obtain⟨o,_,_,ho,_⟩:=hm
    intro z
    have ho':s6.heap.get? s3.heap.objs.size=some o:=ho
    rw[z]at ho';cases ho'
   ·exact Nat.ne_of_gt (Nat.lt_trans I2.lt (by rw[z3];exact Nat.lt_succ_self _))
  ·refine thn (T.item (cb X N scope cl s3 (upd H2 s2.heap.objs.size (.lst [])) fp pins) rfl rfl rfl hc i [] s5 σ5 H5 (fun _ _=>False) I5 (stat fr5) st5 go) fun r s6 hZ=>?_
   obtain⟨u,hr,h6⟩:=hZ
   subst hr
   refine thn h6 fun _ s7 hZ=>?_
   obtain⟨x,H7,I7,r7,y7,st7,fr7⟩:=hZ
   have I7':=I7.pinned (stat fr7) (T.obj _ _ st7)
   refine thn (hg ⟨cl,s3,upd H2 s2.heap.objs.size (.lst []),fp,pins⟩ _ s7 σ5 H7 x u _ I7' r7 (step x H7 y7)) fun _ s8 hZ=>?_
   obtain⟨σ8,H8,I8,q8⟩:=hZ
   refine thn (ha ⟨cl,s3,upd H2 s2.heap.objs.size (.lst []),fp,pins⟩ _ _ s8 σ8 H8 _ I8 q8) fun ok s9 h9=>?_
   have again:∀{s7':Shared},(∃H',Inv (cb X N scope cl s3 (upd H2 s2.heap.objs.size (.lst [])) fp pins) ([]++pinsAt fp s7.heap) σ8 H' s7'/\∃m',m' < n/\W (i + 1) m' σ8 H') ->
     ∃m,m < n/\∃i σ' H',Inv (cb X N scope cl s3 (upd H2 s2.heap.objs.size (.lst [])) fp pins) [] σ' H' s7'/\tn i s7'.heap/\(∀b∈fp,H' b=none)/\W i m σ' H':=fun {s7'} ⟨H',I',m',hm,w'⟩=>by
    refine⟨m',hm,i + 1,σ8,H',I'.unpinned,T.keep _ _ _ st7 fun b hb o e=>(I'.pin (b,o) (List.mem_append_right _ (List.mem_append_right _ (cO hb e)))).1,fun b hb=>?_,w'⟩
    obtain⟨o,e,d⟩:=T.obj _ _ st7 b hb
    exact (I'.pin (b,o) (List.mem_append_right _ (List.mem_append_right _ (cO hb e)))).2.1
   cases ok with
   | true =>
    rw[if_pos rfl]at h9 ⊢
    exact thn h9 fun y s10 h10=>thn h10 fun _ s11 h11=>again h11
   | false =>
    rw[if_neg Bool.false_ne_true]at h9 ⊢
    exact again h9
 exact codeAny_compStart_list loop (T.self X.A 0 s4 _ _ st4 loop)
theorem mS{wi:TI}{g:CC->TG}{tc:CC->TC}(hc:X.calm=true)(S:CompScope N nt fr X.N scope X.env.scope)(hi:PI X tg iter wi)
  (hg:∀c:CC,PG (fJ X N scope c) tg (g c)) (ha:∀(c:CC) D,kj (fJ X N scope c) D ifs elt (tc c))
  (hs:∀x,foldedSetIterable iter X.env x=pure x:=by intro _;rfl) :
  PE X (.ListComp elt [⟨tg,iter,ifs,0⟩] scope pos) (ki wi nt fr g tc):=by
 intro pins s σ H Q I h
 rw[eval_ListComp]
 refine iQ (use:=none) hc S hi hg ha I h (fun x hx hf=>S.cells x hx hf) (fun D C s5 H1 _ _ _ hm hI q=>?_) hs
 obtain⟨m,hm⟩:=hm
 exact⟨m,hm,fun h' hs'=>⟨.ref D,H1,hI h' hs',rfl,q⟩⟩
theorem uy{i:Nat}{y:Str}{py spos:Pos}{wi:TI}{g:CC->TG}{tc:CC->TC}(hN:X.N.Nodup)(hy:X.N[i]?=some y)(hl:X.env.scope.names.lookup y=some .local)(hc:X.calm=true)(S:CompScope N nt fr X.N scope X.env.scope)(hi:PI X tg iter wi)
  (hg:∀c:CC,PG (fJ X N scope c) tg (g c)) (ha:∀(c:CC) D,kj (fJ X N scope c) D ifs elt (tc c))
  (hs:∀x,foldedSetIterable iter X.env x=pure x:=by intro _;rfl)
  (hsw:swapsWith (.ListComp elt [⟨tg,iter,ifs,0⟩] scope pos) (some (.Name y py)) spos.line X.env=pure true:=by rfl) :
  PS X (.Assign [.Name y py] (.ListComp elt [⟨tg,iter,ifs,0⟩] scope pos) spos) (uk (ki wi nt fr g tc) (mJ i)):=by
 intro pins s σ H D I h
 rw[exec_Assign_Name_used _ _ _ _ hsw]
 refine wpAny_bind (wpAny_standAt (wpAny_bind ?_))
 show wpAny _ X.A (do let _ <- comprehension (.ListComp elt [⟨tg,iter,ifs,0⟩] scope pos) scope X.env _ (newList []) false (eval iter X.env) (some (assign (.Name y py) X.env))) _ _ s
 refine wpAny_bind (wpAny_mono (iQ (use:=some (assign (.Name y py) X.env)) (Q:=fun x H1=>D.nx (σ.set i (some x)) H1) (Q0:=fun _ s'=>SP X pins D .next s') hc S hi hg ha I h (fun x hx hf=>S.cells x hx hf) (fun Dd C s5 H1 fp hC _ hm hI q=>?_) hs) (fun _ s' hq=>wpAny_pure (wpAny_pure hq)) fun _ _ e=>e)
 obtain⟨m,hm⟩:=hm
 have I5:Inv X pins σ H1 s5:=hI s5.heap ⟨rfl,fun _ _=>rfl⟩
 show wpAny _ X.A (assign (.Name y py) X.env (.ref Dd)) _ _ _
 refine wpAny_assign_Name (iL I5 hN hy (.inl hl) (v:=.ref Dd) rfl (fun s6 I6 hsb=>?_) (.inr hl))
 obtain⟨a,hs6,ha6⟩:=hsb
 have hCa:C≠a:=by
  rcases ha6 with e | e
  ·rw[e];exact fp.2.1
  ·exact fun z=>fp.2.2.2.2.1 _ _ e z.symm
 exact⟨m,hm.sameBut hs6 hCa,fun h' hs'=>⟨_,H1,I6.turned (t':=s6.toks) (fun b o hb e=>(hs'.2 b hb).trans e) fp.1 fp.2.1 fp.2.2.2.1 fp.2.2.2.2.1 fp.2.2.2.2.2,q⟩⟩
end
end
section
section
variable{prog:Program}{w:World}{A:Around}{E:Value->Shared->Prop}{s:Shared}
theorem eO{it t:Addr}{i:Nat}{items}{x:Value}{Q:Value->Shared->Prop}(hit:s.heap.IsTupleIter it t i)
  (ht:s.heap.IsTuple t items) (hx:items[i]?=some x)
  (hQ:∀h',h'.IsTupleIter it t (i + 1)->Heap.SameBut it s.heap h'->Q x { s with heap:=h' }) :
  wpAny (model prog w) A (Builtin.SmallTypes.nextOf (.ref it)) Q E s:=by
 obtain⟨o,ho,hc,hd⟩:=id hit
 obtain⟨ol,hol,_,nl,hdl⟩:=ht
 unfold Builtin.SmallTypes.nextOf
 refine wpAny_bind (wpAny_callSpecial?_slot (name:=Str.ofString "__next__") hit.typeIs F.slot_tuple_iterator_next
  (wpAny_call_entry F.slot_tuple_iterator_next hit.typeIs F.entry_tuple_iterator_next ?_ (F.args_tuple_iterator_next_1 _)))
 show wpAny _ _ (field (.ref it) 0 >>= _) _ _ s
 refine wpAny_bind (wpAny_field ho hd (x:=.ref t) rfl ?_)
 show wpAny _ _ (if (Value.ref t == Value.none)=true then _ else _) _ _ s
 rw[if_neg (show ¬ ((Value.ref t == Value.none)=true) from Bool.false_ne_true)]
 show wpAny _ _ (field (.ref it) 1 >>= _) _ _ s
 refine wpAny_bind (wpAny_field ho hd (x:=.int i 0) rfl ?_)
 show wpAny _ _ (seqItems? (.ref t) >>= _) _ _ s
 refine wpAny_bind (wpAny_seqItems hol hdl ?_)
 simp only[Int.toNat_natCast,hx]
 refine wpAny_bind (wpAny_setField ho hd (by simp) (wpAny_pure ⟨x,rfl,wpAny_pure (hQ _ ?_ (Heap.SameBut.update ..))⟩))
 exact⟨_,Heap.get?_update_self _ ho (Obj.isFreed_of_fields (Obj.data_mapFields hd _)),(Obj.cls_mapFields ..).trans hc,by
  rw[Obj.data_mapFields hd];simp[rawInt]⟩
theorem fK{it t:Addr}{i:Nat}{items}{Q:Value->Shared->Prop}(hh:A.handled=none)
  (hit:s.heap.IsTupleIter it t i) (ht:s.heap.IsTuple t items) (hx:items[i]?=none)
  (hE:∀h' e,Heap.ExtBut it s.heap h'->(∃o,h'.get? e=some o/\o.cls=.type "StopIteration")->E (.ref e) { s with heap:=h' }) :
  wpAny (model prog w) A (Builtin.SmallTypes.nextOf (.ref it)) Q E s:=by
 obtain⟨o,ho,hc,hd⟩:=id hit
 obtain⟨ol,hol,_,nl,hdl⟩:=ht
 unfold Builtin.SmallTypes.nextOf
 refine wpAny_bind (wpAny_callSpecial?_slot (name:=Str.ofString "__next__") hit.typeIs F.slot_tuple_iterator_next
  (wpAny_call_entry F.slot_tuple_iterator_next hit.typeIs F.entry_tuple_iterator_next ?_ (F.args_tuple_iterator_next_1 _)))
 show wpAny _ _ (field (.ref it) 0 >>= _) _ _ s
 refine wpAny_bind (wpAny_field ho hd (x:=.ref t) rfl ?_)
 show wpAny _ _ (if (Value.ref t == Value.none)=true then _ else _) _ _ s
 rw[if_neg (show ¬ ((Value.ref t == Value.none)=true) from Bool.false_ne_true)]
 show wpAny _ _ (field (.ref it) 1 >>= _) _ _ s
 refine wpAny_bind (wpAny_field ho hd (x:=.int i 0) rfl ?_)
 show wpAny _ _ (seqItems? (.ref t) >>= _) _ _ s
 refine wpAny_bind (wpAny_seqItems hol hdl ?_)
 simp only[Int.toNat_natCast,hx]
 refine wpAny_bind (wpAny_rule (wpAny_bind (wpAny_setField ho hd (by simp) ?_)))
 show wpAny _ _ (newExc (.type "StopIteration") [] >>= _) _ _ _
 refine wpAny_bind ?_
 simp only[newExc,newTuple]
 refine wpAny_bind (wpAny_newObj_type ?_ (by size_fits))
 refine wpAny_bind (m:=firstArgMember _ _) (wpAny_of_eq (a:=Value.none) (by first | rfl | (simp only[firstArgMember];rfl)) ?_)
 refine wpAny_newObj_type ?_ (by size_fits)
 simp only[raiseNew]
 refine wpAny_bind (wpAny_handled ?_)
 first | rw[show A.in1.handled=none from hh] | rw[hh]
 refine wpAny_bind (wpAny_pure (wpAny_throw ?_))
 exact hE _ _ (((Heap.SameBut.update ..).extBut.push _).push _) ⟨_,Heap.get?_push_size _ rfl,rfl⟩
end
inductive ZS where
 | lst (a:Addr) (xs:List V)
 | tup (a:Addr) (xs:List V)
 | str (z:Str)
def ZS.items:ZS->List V
 | .lst _ xs=>xs
 | .tup _ xs=>xs
 | .str z=>z.cps.toList.map fun c=>.str ⟨#[c]⟩
def ZS.val:ZS->V
 | .lst a _=>.ref a
 | .tup a _=>.ref a
 | .str z=>.str z
def ZS.ok(K:PySem.W.Frag)(H:Hp):ZS->Prop
 | .lst a xs=>SqL K H a xs
 | .tup a xs=>SqT K H a xs
 | .str _=>True
structure Sub (prog:Program)(w:World)(A:Around)(i:Addr)(sl:List Addr)(src:Heap->Prop)(st:Nat->Heap->Prop)(vs:List V):Prop where
 sfr:∀h h',src h->(∀b∈sl,∀o,h.get? b=some o->h'.get? b=some o)->src h'
 ifr:∀k h h',st k h->(∀o,h.get? i=some o->h'.get? i=some o)->st k h'
 item:∀(k:Nat) (s:Shared) (x:V) (Q:Value->Shared->Prop) (E:Value->Shared->Prop),vs[k]?=some x->src s.heap->st k s.heap ->
  (∀v h' tk,RelV x v->st (k + 1) h'->Heap.SameBut i s.heap h'->Q v { s with heap:=h',toks:=tk })->wpAny (model prog w) A (Builtin.SmallTypes.nextOf (.ref i)) Q E s
 done:∀(k:Nat) (s:Shared) (Q:Value->Shared->Prop) (E:Value->Shared->Prop),vs.length≤k->src s.heap->st k s.heap ->
  (∀h' e,Heap.ExtBut i s.heap h'->(∃o,h'.get? e=some o/\o.cls=.type "StopIteration")->E (.ref e) { s with heap:=h' })->wpAny (model prog w) A (Builtin.SmallTypes.nextOf (.ref i)) Q E s
theorem Sub.list{prog:Program}{w:World}{A:Around}(hh:A.handled=none)(i l:Addr){xs:List V}{its:List Value}(r:Vals xs its) :
  Sub prog w A i [l] (fun h=>h.IsList l its.toArray) (fun k h=>h.IsListIter i l k) xs where
 sfr:=fun h h' x k=>x.at fun o e=>k l (by simp) o e
 ifr:=fun k h h' x f=>x.at fun o e=>f o e
 item:=fun k s x Q E hx hs st hQ=>by
  obtain⟨u,hu,ru⟩:=r.get hx
  exact wpAny_nextOf_list_item st hs (x:=u) (by simpa using hu) fun h' st' sb=>hQ u h' s.toks ru st' sb
 done:=fun k s Q E hk hs st hE=>by
  have hl:=r.length
  exact wpAny_nextOf_list_end hh st hs (by simp;omega) hE
theorem Sub.tuple{prog:Program}{w:World}{A:Around}(hh:A.handled=none)(i l:Addr){xs:List V}{its:List Value}(r:Vals xs its) :
  Sub prog w A i [l] (fun h=>h.IsTuple l its.toArray) (fun k h=>h.IsTupleIter i l k) xs where
 sfr:=fun h h' ⟨o,e,c⟩ k=>⟨o,k l (by simp) o e,c⟩
 ifr:=fun k h h' ⟨o,e,c⟩ f=>⟨o,f o e,c⟩
 item:=fun k s x Q E hx hs st hQ=>by
  obtain⟨u,hu,ru⟩:=r.get hx
  exact eO st hs (x:=u) (by simpa using hu) fun h' st' sb=>hQ u h' s.toks ru st' sb
 done:=fun k s Q E hk hs st hE=>by
  have hl:=r.length
  exact fK hh st hs (by simp;omega) hE
theorem Sub.strs{prog:Program}{w:World}{A:Around}(hh:A.handled=none)(i:Addr)(z:Str)(t:Tok) :
  Sub prog w A i [] (fun _=>True) (fun k h=>h.IsStrIter i (strIterType z) z t k) (z.cps.toList.map fun c=>V.str ⟨#[c]⟩) where
 sfr:=fun h h' x k=>trivial
 ifr:=fun k h h' ⟨o,e,c⟩ f=>⟨o,f o e,c⟩
 item:=fun k s x Q E hx hs st hQ=>by
  rw[List.getElem?_map]at hx
  cases e:z.cps.toList[k]? with
  | none=>rw[e]at hx;cases hx
  | some c =>
   rw[e]at hx
   have hx':V.str ⟨#[c]⟩=x:=Option.some.inj hx
   subst hx'
   have e':z.cps[k]?=some c:=by rw[<- Array.getElem?_toList];exact e
   unfold strIterType at st hQ
   split at st
   ·rename_i ha
    rw[if_pos ha]at hQ
    exact wpAny_nextOf_ascii_item st e' fun h' st' sb=>hQ _ h' _ ⟨_,rfl⟩ st' sb
   ·rename_i ha
    rw[if_neg ha]at hQ
    exact wpAny_nextOf_wide_item st e' fun h' st' sb=>hQ _ h' _ ⟨_,rfl⟩ st' sb
 done:=fun k s Q E hk hs st hE=>by
  have e':z.cps[k]?=none:=by
   rw[List.length_map,Array.length_toList]at hk
   exact Array.getElem?_eq_none hk
  unfold strIterType at st
  split at st
  ·exact wpAny_nextOf_ascii_end hh st e' hE
  ·exact wpAny_nextOf_wide_end hh st e' hE
structure ZApart (z TI TO i1 i2:Addr)(sl1 sl2:List Addr):Prop where
 TIz:TI≠z
 TOz:TO≠z
 i1z:i1≠z
 i2z:i2≠z
 TITO:TI≠TO
 TIi1:TI≠i1
 TIi2:TI≠i2
 TOi1:TO≠i1
 TOi2:TO≠i2
 i12:i1≠i2
 s1:∀b∈sl1,b≠z/\b≠TO/\b≠i1/\b≠i2
 s2:∀b∈sl2,b≠z/\b≠TO/\b≠i1/\b≠i2
section
variable{prog:Program}{w:World}{A:Around}{E:Value->Shared->Prop}{s:Shared}
theorem pw{z TI TO i1 i2:Addr}{sl1 sl2:List Addr}{src1 src2:Heap->Prop}{st1 st2:Nat->Heap->Prop}{xs ys:List V}{k:Nat}{x y:V}{a b:Value}{Q:Value->Shared->Prop}(D:ZApart z TI TO i1 i2 sl1 sl2)
  (S1:Sub prog w A i1 sl1 src1 st1 xs) (S2:Sub prog w A i2 sl2 src2 st2 ys)
  (hz:IsZip s.heap z TI TO .none) (hTI:IsPair s.heap TI (.ref i1) (.ref i2)) (hTO:IsPair s.heap TO a b)
  (h1:st1 k s.heap) (h2:st2 k s.heap) (hl1:src1 s.heap) (hl2:src2 s.heap) (hx:xs[k]?=some x) (hy:ys[k]?=some y)
  (hQ:∀u v h' tk,RelV x u->RelV y v->IsZip h' z TI TO (rawInt s.heap.objs.size)->IsPair h' TO u v->st1 (k + 1) h'->st2 (k + 1) h'->IsPair h' s.heap.objs.size u v->h'.objs.size=s.heap.objs.size + 1 ->
   (∀c o,c≠z->c≠TO->c≠i1->c≠i2->s.heap.get? c=some o->h'.get? c=some o)->Q (.ref s.heap.objs.size) { s with heap:=h',toks:=tk })
  (hi1:i1 < s.heap.objs.size) (hi2:i2 < s.heap.objs.size) :
  wpAny (model prog w) A (Builtin.«zip.__next__» ⟨[.ref z],[]⟩) (fun fin s'=>∃v,fin=.done (.ret v)/\Q v s') E s:=by
 show wpAny _ _ (field (.ref z) 2 >>= _) _ _ _
 refine wpAny_bind (wpAny_field hz rfl (x:=.bool false) rfl ?_)
 show wpAny _ _ (field (.ref z) 3 >>= _) _ _ _
 refine wpAny_bind (wpAny_field hz rfl (x:=.ref TI) rfl ?_)
 refine wpAny_bind (wpAny_seqItems hTI rfl ?_)
 show wpAny _ _ (Builtin.SmallTypes.ownedTupleIsFree (.ref z) >>= _) _ _ _
 refine wpAny_bind ?_
 unfold Builtin.SmallTypes.ownedTupleIsFree
 refine wpAny_bind (wpAny_field hz rfl (x:=.none) rfl (wpAny_pure ?_))
 simp only[if_true]
 refine wpAny_bind (wpAny_rule ?_)
 refine wpAny_bind (wpAny_field hz rfl (x:=.ref TO) rfl ?_)
 refine wpAny_bind (wpAny_setField_rec hz (by simp) fun h₁ hz₁ hs₁=>?_)
 replace hz₁:IsZip h₁ z TI TO .ellipsis:=hz₁
 refine wpAny_bind ?_
 simp only[List.zipIdx_cons,List.zipIdx_nil,List.forIn_cons,List.forIn_nil]
 refine wpAny_bind (wpAny_bind (wpAny_onRaise ?_))
 show wpAny _ _ (Builtin.SmallTypes.nextOf (.ref i1) >>= _) _ _ _
 refine wpAny_bind (S1.item k _ x _ _ hx (S1.sfr _ _ hl1 fun b hb o e=>hs₁.extBut b o (D.s1 b hb).1 e) (S1.ifr _ _ _ h1 fun o e=>hs₁.extBut _ o D.i1z e) fun u h₂ tk₂ ru h1₂ hs₂=>wpAny_pure ?_)
 have hs₂:Heap.SameBut i1 h₁ h₂:=hs₂
 have hTO₂:IsPair h₂ TO a b:=hs₂.extBut _ _ D.TOi1 (hs₁.extBut _ _ D.TOz hTO)
 refine wpAny_bind (wpAny_seqItems hTO₂ rfl ?_)
 refine wpAny_bind (wpAny_updateSeq_pair hTO₂ fun h₃ hTO₃ hs₃=>?_)
 replace hTO₃:IsPair h₃ TO u b:=hTO₃
 have hs₃:Heap.SameBut TO h₂ h₃:=hs₃
 refine wpAny_bind (wpAny_letGo (wpAny_pure ?_))
 refine wpAny_bind (wpAny_bind (wpAny_onRaise ?_))
 show wpAny _ _ (Builtin.SmallTypes.nextOf (.ref i2) >>= _) _ _ _
 refine wpAny_bind (S2.item k _ y _ _ hy (S2.sfr _ _ hl2 fun b hb o e=>hs₃.extBut b o (D.s2 b hb).2.1 (hs₂.extBut b o (D.s2 b hb).2.2.1 (hs₁.extBut b o (D.s2 b hb).1 e)))
  (S2.ifr _ _ _ h2 fun o e=>hs₃.extBut _ o D.TOi2.symm (hs₂.extBut _ o D.i12.symm (hs₁.extBut _ o D.i2z e))) fun v h₄ tk₄ rv h2₄ hs₄=>wpAny_pure ?_)
 have hs₄:Heap.SameBut i2 h₃ h₄:=hs₄
 have hTO₄:IsPair h₄ TO u b:=hs₄.extBut _ _ D.TOi2 hTO₃
 refine wpAny_bind (wpAny_seqItems hTO₄ rfl ?_)
 refine wpAny_bind (wpAny_updateSeq_pair hTO₄ fun h₅ hTO₅ hs₅=>?_)
 replace hTO₅:IsPair h₅ TO u v:=hTO₅
 have hs₅:Heap.SameBut TO h₄ h₅:=hs₅
 refine wpAny_bind (wpAny_letGo (wpAny_pure (wpAny_pure ?_)))
 refine wpAny_bind (wpAny_seqItems hTO₅ rfl ?_)
 refine wpAny_bind (wpAny_newTuple ?_)
 have hsz:h₅.objs.size=s.heap.objs.size:=by rw[hs₅.1,hs₄.1,hs₃.1,hs₂.1,hs₁.1]
 have hz₅:IsZip h₅ z TI TO .ellipsis:=hs₅.extBut _ _ D.TOz.symm (hs₄.extBut _ _ D.i2z.symm (hs₃.extBut _ _ D.TOz.symm (hs₂.extBut _ _ D.i1z.symm hz₁)))
 have hk₅:∀c o,c≠z->c≠TO->c≠i1->c≠i2->s.heap.get? c=some o->h₅.get? c=some o:=fun c o c1 c2 c3 c4 e =>
  hs₅.extBut _ _ c2 (hs₄.extBut _ _ c4 (hs₃.extBut _ _ c2 (hs₂.extBut _ _ c3 (hs₁.extBut _ _ c1 e))))
 have h1₅:st1 (k + 1) h₅:=S1.ifr _ _ _ h1₂ fun o e=>hs₅.extBut _ o D.TOi1.symm (hs₄.extBut _ o D.i12 (hs₃.extBut _ o D.TOi1.symm e))
 have h2₅:st2 (k + 1) h₅:=S2.ifr _ _ _ h2₄ fun o e=>hs₅.extBut _ o D.TOi2.symm e
 have hzlt:z < h₅.objs.size:=Heap.lt_size hz₅
 show wpAny _ _ (Builtin.SmallTypes.ownedTupleHandOut (.ref z) (.ref h₅.objs.size) >>= _) _ _ _
 refine wpAny_bind ?_
 unfold Builtin.SmallTypes.ownedTupleHandOut
 have hz₆:IsZip (h₅.push { cls:=.type "tuple",data:=.seq #[u,v] }) z TI TO .ellipsis:=Heap.get?_push_of_some _ hz₅
 refine wpAny_bind (wpAny_setField_rec hz₆ (by simp) fun h₇ hz₇ hs₇=>?_)
 replace hz₇:IsZip h₇ z TI TO (rawInt h₅.objs.size):=hz₇
 refine wpAny_setField_rec hz₇ (by simp) fun h₈ hz₈ hs₈=>?_
 replace hz₈:IsZip h₈ z TI TO (rawInt h₅.objs.size):=hz₈
 have up:∀c o,c≠z->h₅.get? c=some o->h₈.get? c=some o:=fun c o c1 e=>hs₈.extBut _ _ c1 (hs₇.extBut _ _ c1 (Heap.get?_push_of_some _ e))
 have hT₈:IsPair h₈ h₅.objs.size u v:=hs₈.extBut _ _ (Nat.ne_of_gt hzlt) (hs₇.extBut _ _ (Nat.ne_of_gt hzlt) (Heap.get?_push_size _ rfl))
 have hz8:h₈.objs.size=h₅.objs.size + 1:=by rw[hs₈.1,hs₇.1,Heap.size_push]
 rw[hsz]at hz₈ hT₈ hz8
 refine wpAny_pure ⟨_,rfl,?_⟩
 show Q (.ref h₅.objs.size) _
 rw[hsz]
 exact hQ u v h₈ _ ru rv hz₈ (up _ _ D.TOz hTO₅) (S1.ifr _ _ _ h1₅ fun o e=>up _ o D.i1z e) (S2.ifr _ _ _ h2₅ fun o e=>up _ o D.i2z e) hT₈ hz8 fun c o c1 c2 c3 c4 e=>up c o c1 (hk₅ c o c1 c2 c3 c4 e)
theorem qE{z TI TO i1 i2:Addr}{sl1 sl2:List Addr}{src1 src2:Heap->Prop}{st1 st2:Nat->Heap->Prop}{xs ys:List V}{k:Nat}{a b:Value}{Q:Fin->Shared->Prop}(D:ZApart z TI TO i1 i2 sl1 sl2)
  (S1:Sub prog w A i1 sl1 src1 st1 xs) (S2:Sub prog w A i2 sl2 src2 st2 ys)
  (hz:IsZip s.heap z TI TO .none) (hTI:IsPair s.heap TI (.ref i1) (.ref i2)) (hTO:IsPair s.heap TO a b)
  (h1:st1 k s.heap) (h2:st2 k s.heap) (hl1:src1 s.heap) (hl2:src2 s.heap) (hend:xs.length≤k\/ys.length≤k)
  (hE:∀h' tk e,(∀c o,c≠z->c≠TO->c≠i1->c≠i2->s.heap.get? c=some o->h'.get? c=some o)->(∃o,h'.get? e=some o/\o.cls=.type "StopIteration")->E (.ref e) { s with heap:=h',toks:=tk }) :
  wpAny (model prog w) A (Builtin.«zip.__next__» ⟨[.ref z],[]⟩) Q E s:=by
 show wpAny _ _ (field (.ref z) 2 >>= _) _ _ _
 refine wpAny_bind (wpAny_field hz rfl (x:=.bool false) rfl ?_)
 show wpAny _ _ (field (.ref z) 3 >>= _) _ _ _
 refine wpAny_bind (wpAny_field hz rfl (x:=.ref TI) rfl ?_)
 refine wpAny_bind (wpAny_seqItems hTI rfl ?_)
 show wpAny _ _ (Builtin.SmallTypes.ownedTupleIsFree (.ref z) >>= _) _ _ _
 refine wpAny_bind ?_
 unfold Builtin.SmallTypes.ownedTupleIsFree
 refine wpAny_bind (wpAny_field hz rfl (x:=.none) rfl (wpAny_pure ?_))
 simp only[if_true]
 refine wpAny_bind (wpAny_rule ?_)
 refine wpAny_bind (wpAny_field hz rfl (x:=.ref TO) rfl ?_)
 refine wpAny_bind (wpAny_setField_rec hz (by simp) fun h₁ hz₁ hs₁=>?_)
 replace hz₁:IsZip h₁ z TI TO .ellipsis:=hz₁
 refine wpAny_bind ?_
 simp only[List.zipIdx_cons,List.zipIdx_nil,List.forIn_cons,List.forIn_nil]
 refine wpAny_bind (wpAny_bind (wpAny_onRaise ?_))
 show wpAny _ _ (Builtin.SmallTypes.nextOf (.ref i1) >>= _) _ _ _
 have l1:src1 h₁:=S1.sfr _ _ hl1 fun b hb o e=>hs₁.extBut b o (D.s1 b hb).1 e
 have t1:st1 k h₁:=S1.ifr _ _ _ h1 fun o e=>hs₁.extBut _ o D.i1z e
 by_cases hx:xs.length≤k
 ·refine wpAny_bind (S1.done k _ _ _ hx l1 t1 fun h₂ e hs₂ he=>?_)
  have hs₂:Heap.ExtBut i1 h₁ h₂:=hs₂
  obtain⟨oe,hoe,hce⟩:=he
  have hz₂:IsZip h₂ z TI TO .ellipsis:=hs₂ _ _ D.i1z.symm hz₁
  have hez:e≠z:=fun x=>by subst x;rw[hz₂]at hoe;cases hoe;simp at hce
  refine wpAny_setField_rec hz₂ (by simp) fun h₃ _ hs₃=>hE h₃ _ e (fun c o c1 _ c3 _ x=>hs₃.extBut _ _ c1 (hs₂ _ _ c3 (hs₁.extBut _ _ c1 x))) ⟨oe,hs₃.extBut _ _ hez hoe,hce⟩
 ·have hy:ys.length≤k:=by rcases hend with h | h;exact absurd h hx;exact h
  obtain⟨x,hx'⟩:∃x,xs[k]?=some x:=⟨_,List.getElem?_eq_getElem (Nat.lt_of_not_le hx)⟩
  refine wpAny_bind (S1.item k _ x _ _ hx' l1 t1 fun u h₂ tk₂ ru h1₂ hs₂=>wpAny_pure ?_)
  have hs₂:Heap.SameBut i1 h₁ h₂:=hs₂
  have hTO₂:IsPair h₂ TO a b:=hs₂.extBut _ _ D.TOi1 (hs₁.extBut _ _ D.TOz hTO)
  refine wpAny_bind (wpAny_seqItems hTO₂ rfl ?_)
  refine wpAny_bind (wpAny_updateSeq_pair hTO₂ fun h₃ hTO₃ hs₃=>?_)
  have hs₃:Heap.SameBut TO h₂ h₃:=hs₃
  refine wpAny_bind (wpAny_letGo (wpAny_pure ?_))
  refine wpAny_bind (wpAny_bind (wpAny_onRaise ?_))
  show wpAny _ _ (Builtin.SmallTypes.nextOf (.ref i2) >>= _) _ _ _
  refine wpAny_bind (S2.done k _ _ _ hy (S2.sfr _ _ hl2 fun b hb o e=>hs₃.extBut b o (D.s2 b hb).2.1 (hs₂.extBut b o (D.s2 b hb).2.2.1 (hs₁.extBut b o (D.s2 b hb).1 e)))
   (S2.ifr _ _ _ h2 fun o e=>hs₃.extBut _ o D.TOi2.symm (hs₂.extBut _ o D.i12.symm (hs₁.extBut _ o D.i2z e))) fun h₄ e hs₄ he=>?_)
  have hs₄:Heap.ExtBut i2 h₃ h₄:=hs₄
  obtain⟨oe,hoe,hce⟩:=he
  have hz₄:IsZip h₄ z TI TO .ellipsis:=hs₄ _ _ D.i2z.symm (hs₃.extBut _ _ D.TOz.symm (hs₂.extBut _ _ D.i1z.symm hz₁))
  have hez:e≠z:=fun x=>by subst x;rw[hz₄]at hoe;cases hoe;simp at hce
  refine wpAny_setField_rec hz₄ (by simp) fun h₅ _ hs₅=>hE h₅ _ e (fun c o c1 c2 c3 c4 x=>hs₅.extBut _ _ c1 (hs₄ _ _ c4 (hs₃.extBut _ _ c2 (hs₂.extBut _ _ c3 (hs₁.extBut _ _ c1 x))))) ⟨oe,hs₅.extBut _ _ hez hoe,hce⟩
theorem lI{z TI TO i1 i2:Addr}{sl1 sl2:List Addr}{src1 src2:Heap->Prop}{st1 st2:Nat->Heap->Prop}{xs ys:List V}{k:Nat}{x y:V}{a b:Value}{Q:Option Value->Shared->Prop}(D:ZApart z TI TO i1 i2 sl1 sl2)
  (S1:Sub prog w A.in1 i1 sl1 src1 st1 xs) (S2:Sub prog w A.in1 i2 sl2 src2 st2 ys)
  (hz:IsZip s.heap z TI TO .none) (hTI:IsPair s.heap TI (.ref i1) (.ref i2)) (hTO:IsPair s.heap TO a b)
  (h1:st1 k s.heap) (h2:st2 k s.heap) (hl1:src1 s.heap) (hl2:src2 s.heap) (hx:xs[k]?=some x) (hy:ys[k]?=some y)
  (hQ:∀u v h' tk,RelV x u->RelV y v->IsZip h' z TI TO (rawInt s.heap.objs.size)->IsPair h' TO u v->st1 (k + 1) h'->st2 (k + 1) h'->IsPair h' s.heap.objs.size u v->h'.objs.size=s.heap.objs.size + 1 ->
   (∀c o,c≠z->c≠TO->c≠i1->c≠i2->s.heap.get? c=some o->h'.get? c=some o)->Q (some (.ref s.heap.objs.size)) { s with heap:=h',toks:=tk })
  (hi1:i1 < s.heap.objs.size) (hi2:i2 < s.heap.objs.size) :
  wpAny (model prog w) A (pyNext (.ref z)) Q E s:=by
 have hT:s.TypeIs (.ref z) "zip":=⟨_,hz,rfl⟩
 unfold pyNext
 exact wpAny_bind (wpAny_attempt (wpAny_callSpecial?_slot (name:=Str.ofString "__next__") hT F.slot_zip_next
  (wpAny_call_entry F.slot_zip_next hT F.entry_zip_next
   (pw D S1 S2 hz hTI hTO h1 h2 hl1 hl2 hx hy (fun u v h' tk r1 r2 a1 a2 a3 a4 a5 a6 a7=>wpAny_pure (hQ u v h' tk r1 r2 a1 a2 a3 a4 a5 a6 a7)) hi1 hi2) (F.args_zip_next_1 _))))
theorem pC{z TI TO i1 i2:Addr}{sl1 sl2:List Addr}{src1 src2:Heap->Prop}{st1 st2:Nat->Heap->Prop}{xs ys:List V}{k:Nat}{a b:Value}{Q:Option Value->Shared->Prop}(D:ZApart z TI TO i1 i2 sl1 sl2)
  (S1:Sub prog w A.in1 i1 sl1 src1 st1 xs) (S2:Sub prog w A.in1 i2 sl2 src2 st2 ys)
  (hz:IsZip s.heap z TI TO .none) (hTI:IsPair s.heap TI (.ref i1) (.ref i2)) (hTO:IsPair s.heap TO a b)
  (h1:st1 k s.heap) (h2:st2 k s.heap) (hl1:src1 s.heap) (hl2:src2 s.heap) (hend:xs.length≤k\/ys.length≤k)
  (hQ:∀h' tk,(∀c o,c≠z->c≠TO->c≠i1->c≠i2->s.heap.get? c=some o->h'.get? c=some o)->Q none { s with heap:=h',toks:=tk }):wpAny (model prog w) A (pyNext (.ref z)) Q E s:=by
 have hT:s.TypeIs (.ref z) "zip":=⟨_,hz,rfl⟩
 unfold pyNext
 refine wpAny_bind (wpAny_attempt (wpAny_callSpecial?_slot (name:=Str.ofString "__next__") hT F.slot_zip_next
  (wpAny_call_entry F.slot_zip_next hT F.entry_zip_next (qE D S1 S2 hz hTI hTO h1 h2 hl1 hl2 hend fun h' tk e hk he=>?_) (F.args_zip_next_1 _))))
 obtain⟨o,ho,hc⟩:=he
 refine wpAny_bind (wpAny_isInstance (T:="StopIteration") (b:=true) ⟨o,ho,hc⟩ isSubtype_stop ?_)
 exact wpAny_pure (hQ _ _ hk)
end
end
section
def Dj(K:PySem.W.Frag)(a b:ZS):It :=
 ⟨fun i H=>a.ok K H/\b.ok K H/\i < a.items.length/\i < b.items.length,
  fun i H v H'=>∃T x y,a.items[i]?=some x/\b.items[i]?=some y/\H T=none/\v=.ref T/\H'=upd H T (.tup [x,y]),
  fun i H=>a.ok K H/\b.ok K H/\(a.items.length≤i\/b.items.length≤i)⟩
def ZS.rcd:ZS->Value->Obj
 | .lst _ _,v=>{ cls:=.type "list_iterator",data:=.fields #[v,.int 0 0] }
 | .tup _ _,v=>{ cls:=.type "tuple_iterator",data:=.fields #[v,.int 0 0] }
 | .str z,v=>{ cls:=.type (strIterType z),data:=.fields #[v,.int 0 0] }
def ZS.st(a:ZS)(v:Value)(i:Addr)(k:Nat)(h:Heap):Prop:=match a,v with
 | .lst l _,_=>h.IsListIter i l k
 | .tup l _,_=>h.IsTupleIter i l k
 | .str z,.str _ t=>h.IsStrIter i (strIterType z) z t k
 | .str _,_=>False
def ZS.sl:ZS->List Addr
 | .lst l _=>[l]
 | .tup l _=>[l]
 | .str _=>[]
theorem ZS.st_obj{a:ZS}{v:Value}{i:Addr}{k:Nat}{h:Heap}(x:a.st v i k h):∃o,h.get? i=some o/\∀c,o.data≠.cell c:=by
 cases a with
 | lst l xs=>obtain⟨o,e,c,d⟩:=(show h.IsListIter i l k from x);exact⟨o,e,fun v z=>by rw[d]at z;cases z⟩
 | tup l xs=>obtain⟨o,e,c,d⟩:=(show h.IsTupleIter i l k from x);exact⟨o,e,fun v z=>by rw[d]at z;cases z⟩
 | str z =>
  cases v with
  | str y t=>obtain⟨o,e,c,d⟩:=(show h.IsStrIter i (strIterType z) z t k from x);exact⟨o,e,fun v z=>by rw[d]at z;cases z⟩
  | _=>exact False.elim x
theorem ZS.st_keep{a:ZS}{v:Value}{i:Addr}{k:Nat}{h h':Heap}(x:a.st v i k h)(f:∀o,h.get? i=some o->h'.get? i=some o):a.st v i k h':=by
 cases a with
 | lst l xs=>obtain⟨o,e,c⟩:=(show h.IsListIter i l k from x);exact⟨o,f o e,c⟩
 | tup l xs=>obtain⟨o,e,c⟩:=(show h.IsTupleIter i l k from x);exact⟨o,f o e,c⟩
 | str z =>
  cases v with
  | str y t=>obtain⟨o,e,c⟩:=(show h.IsStrIter i (strIterType z) z t k from x);exact⟨o,f o e,c⟩
  | _=>exact False.elim x
section
variable{X:Cx}{pins:List (Addr × Obj)}{σ:St}{H:Hp}{s:Shared}
theorem ZS.sub(a:ZS){v:Value}(I:Inv X pins σ H s)(ok:a.ok X.K H)(rv:RelV a.val v)(A:Around)(hh:A.handled=none)(i:Addr) :
  ∃src:Heap->Prop,src s.heap/\Sub X.prog X.w A i a.sl src (a.st v i) a.items/\(∀b∈a.sl,∃o,s.heap.get? b=some o/\(H b≠none\/X.base.get? b=some o)):=by
 cases a with
 | lst l xs =>
  have ok:SqL X.K H l xs:=ok
  obtain⟨its,r,p,hz⟩:=I.list ok
  refine⟨_,p.isList,Sub.list hh i l r,fun b hb=>?_⟩
  have e:b=l:=by simpa [ZS.sl] using hb
  subst e
  rcases ok with (h | ⟨o,h⟩) | ⟨o,its',n,hk,_⟩
  ·obtain⟨_,_,_,_,e⟩:=I.hok _ _ h
   exact⟨_,e,.inl (by rw[h];simp)⟩
  ·obtain⟨e,_⟩:=I.hok _ _ h
   exact⟨_,e,.inl (by rw[h];simp)⟩
  ·exact⟨o,I.kIn _ _ hk,.inr (I.ok.mod.kin _ _ hk)⟩
 | tup l xs =>
  have ok:SqT X.K H l xs:=ok
  obtain⟨its,r,p,hz⟩:=I.tuple ok
  refine⟨_,p,Sub.tuple hh i l r,fun b hb=>?_⟩
  have e:b=l:=by simpa [ZS.sl] using hb
  subst e
  rcases ok with (h | ⟨o,h⟩) | ⟨o,its',n,hk,_⟩
  ·obtain⟨_,_,_,o,e,_⟩:=I.hok _ _ h
   exact⟨_,e,.inl (by rw[h];simp)⟩
  ·obtain⟨e,_⟩:=I.hok _ _ h
   exact⟨_,e,.inl (by rw[h];simp)⟩
  ·exact⟨o,I.kIn _ _ hk,.inr (I.ok.mod.kin _ _ hk)⟩
 | str z =>
  obtain⟨t,rfl⟩:=rv
  exact⟨_,trivial,Sub.strs hh i z t,fun b hb=>by simp[ZS.sl]at hb⟩
end
theorem aJ{X:Cx}{pins:List (Addr × Obj)}{σ:St}{H:Hp}{s:Shared}{a:ZS}{b:Addr}(I:Inv X pins σ H s)(f:FpOk X pins H b)(h:∀c∈a.sl,∃o,s.heap.get? c=some o/\(H c≠none\/X.base.get? c=some o)):∀c∈a.sl,c≠b:=by
 intro c hc e
 subst e
 obtain⟨o,_,q⟩:=h c hc
 rcases q with q | q
 ·exact q f.1
 ·rcases f.2.2.2.1 with z | z
  ·exact I.ok.noex c o q z
  ·exact absurd (Nat.lt_of_lt_of_le (Heap.lt_size q) (Nat.le_trans I.ok.bsz z)) (Nat.lt_irrefl _)
structure ZRec (z TI TO i1 i2:Addr):Prop where
 TIz:TI≠z
 TOz:TO≠z
 i1z:i1≠z
 i2z:i2≠z
 TITO:TI≠TO
 TIi1:TI≠i1
 TIi2:TI≠i2
 TOi1:TO≠i1
 TOi2:TO≠i2
 i12:i1≠i2
theorem Inv.turnedL{X:Cx}{pins:List (Addr × Obj)}{σ:St}{H:Hp}{s:Shared}{h':Heap}{t':Nat}{fp:List Addr}(I:Inv X pins σ H s)(k:∀b o,b ∉ fp->s.heap.get? b=some o->h'.get? b=some o)(f:∀b∈fp,FpOk X pins H b)
  : Inv X pins σ H { s with heap:=h',toks:=t' }:=by
 have nit:∀b u,H b=some u->b ∉ fp:=fun b u e z=>by rw[(f b z).1]at e;cases e
 refine I.step (g':=s.gens) (d':=s.drawn) (ch:=fp) (fun b hb=>?_) (fun b o _ _ hc e _=>k b o hc e) (fun b o _ _ hc e _=>⟨o.slots,k b o hc e⟩) (fun _ _ _ _ n=>n)
  (fun b o hc e=>⟨o,k b o hc e⟩) (fun _ _ e=>e) (fun _ _ _ e=>e) (fun b ps e=>⟨#[],by rw[e];simp⟩) (fun m hm=>?_) (fun b u e=>?_) I.bare
 ·obtain⟨f0,f1,f2,f3,f4,f5⟩:=f b hb
  exact⟨f3,f1,f4,f5⟩
 ·obtain⟨o,es,ep,ho,r⟩:=hm
  exact⟨o,es,ep,k _ o (fun z=>(f _ z).2.1 rfl) ho,r⟩
 ·refine (I.hok b u e).stay (fun c v hc q=>k c v ?_ q) (fun _ q=>q) fun _ _ q=>q
  rcases hc with z | z
  ·rw[z];exact nit b u e
  ·exact nit c _ z
theorem qF{P:Program}{w:World}{K:PySem.W.Frag}{es:List Expr}{x1}{pos:Pos}(a b:ZS)(va vb:Value)(ra:RelV a.val va)(rb:RelV b.val vb)(z TI TO i1 i2:Addr)(R:ZRec z TI TO i1 i2) :
  Turn P w K (.Tuple es x1 pos) (Dj K a b) [z,TI,TO,i1,i2] z
   (fun i h=>IsZip h z TI TO .none/\IsPair h TI (.ref i1) (.ref i2)/\(∃p q,IsPair h TO p q)/\a.st va i1 i h/\b.st vb i2 i h) where
 mem:=by simp
 obj:=fun i h ⟨h1,h2,⟨p,q,h3⟩,h4,h5⟩ c hc=>by
  simp only[List.mem_cons,List.not_mem_nil,or_false]at hc
  rcases hc with rfl | rfl | rfl | rfl | rfl
  ·exact⟨_,h1,fun v z=>by cases z⟩
  ·exact⟨_,h2,fun v z=>by cases z⟩
  ·exact⟨_,h3,fun v z=>by cases z⟩
  ·exact ZS.st_obj h4
  ·exact ZS.st_obj h5
 keep:=fun i h h' ⟨h1,h2,⟨p,q,h3⟩,h4,h5⟩ k =>
  ⟨k z (by simp) _ h1,k TI (by simp) _ h2,⟨p,q,k TO (by simp) _ h3⟩,ZS.st_keep h4 (fun o e=>k i1 (by simp) o e),ZS.st_keep h5 (fun o e=>k i2 (by simp) o e)⟩
 item:=by
  intro X hP hw hK hc i pins s σ H E I hf ⟨h1,h2,⟨p,q,h3⟩,h4,h5⟩ hg
  subst hP hw hK
  obtain⟨oka,okb,la,lb⟩:=hg
  have hh:X.A.in1.handled=none:=I.ok.hd hc
  obtain⟨src1,hs1,S1,ap1⟩:=a.sub I oka ra X.A.in1 hh i1
  obtain⟨src2,hs2,S2,ap2⟩:=b.sub I okb rb X.A.in1 hh i2
  obtain⟨x,hx⟩:∃x,a.items[i]?=some x:=⟨_,List.getElem?_eq_getElem la⟩
  obtain⟨y,hy⟩:∃y,b.items[i]?=some y:=⟨_,List.getElem?_eq_getElem lb⟩
  have D:ZApart z TI TO i1 i2 a.sl b.sl:=⟨R.TIz,R.TOz,R.i1z,R.i2z,R.TITO,R.TIi1,R.TIi2,R.TOi1,R.TOi2,R.i12,
   fun c hc=>⟨aJ I (hf z (by simp)) ap1 c hc,aJ I (hf TO (by simp)) ap1 c hc,aJ I (hf i1 (by simp)) ap1 c hc,aJ I (hf i2 (by simp)) ap1 c hc⟩,
   fun c hc=>⟨aJ I (hf z (by simp)) ap2 c hc,aJ I (hf TO (by simp)) ap2 c hc,aJ I (hf i1 (by simp)) ap2 c hc,aJ I (hf i2 (by simp)) ap2 c hc⟩⟩
  have fl:∀c∈([z,TI,TO,i1,i2]:List Addr),c < s.heap.objs.size:=fun c hc=>by
   simp only[List.mem_cons,List.not_mem_nil,or_false]at hc
   rcases hc with rfl | rfl | rfl | rfl | rfl
   ·exact Heap.lt_size h1
   ·exact Heap.lt_size h2
   ·exact Heap.lt_size h3
   ·obtain⟨o,e,_⟩:=ZS.st_obj h4;exact Heap.lt_size e
   ·obtain⟨o,e,_⟩:=ZS.st_obj h5;exact Heap.lt_size e
  refine lI D S1 S2 h1 h2 h3 h4 h5 hs1 hs2 hx hy (fun u v h' tk ru rv hz' hTO' st1' st2' hT hsz hk=>?_) (fl i1 (by simp)) (fl i2 (by simp))
  refine⟨.ref s.heap.objs.size,rfl,?_⟩
  refine wpAny_letOwnedTupleGo_zip hz' fun h'' hz'' hs''=>?_
  have hs'':Heap.SameBut z h' h'':=hs''
  have k1:∀c o,c ∉ ([z,TI,TO,i1,i2]:List Addr)->s.heap.get? c=some o->h''.get? c=some o:=fun c o hc e=>by
   simp only[List.mem_cons,List.not_mem_nil,or_false,not_or]at hc
   exact hs''.extBut _ _ hc.1 (hk c o hc.1 hc.2.2.1 hc.2.2.2.1 hc.2.2.2.2 e)
  have hn:H s.heap.objs.size=none:=I.hok.fresh (Nat.le_refl _)
  have I1:Inv X pins σ H { s with heap:=h'',toks:=tk }:=I.turnedL k1 hf
  have nez:s.heap.objs.size≠z:=Nat.ne_of_gt (fl z (by simp))
  have hT'':IsPair h'' s.heap.objs.size u v:=hs''.extBut _ _ nez hT
  have I2:Inv X pins σ (upd H s.heap.objs.size (.tup [x,y])) { s with heap:=h'',toks:=tk }:=by
   refine I.step (g':=s.gens) (d':=s.drawn) (ch:=[z,TI,TO,i1,i2]) (fun b hb=>?_) (fun b o _ _ hc e _=>k1 b o hc e) (fun b o _ _ hc e _=>⟨o.slots,k1 b o hc e⟩) (fun b o hc e n=>?_)
    (fun b o hc e=>⟨o,k1 b o hc e⟩) (fun b ys e=>?_) (fun b o u e=>?_) (fun b ps e=>⟨#[],?_⟩) (fun m hm=>?_) (fun b o e=>?_) I.bare
   ·obtain⟨f0,f1,f2,f3,f4,f5⟩:=hf b hb
    exact⟨f3,f1,f4,f5⟩
   ·rw[upd_ne (Nat.ne_of_lt (Heap.lt_size e))];exact n
   ·rw[upd_ne (ak e hn)];exact e
   ·rw[upd_ne (ak e hn)];exact e
   ·rw[upd_ne (ak e hn),e];simp
   ·obtain⟨o,es',ep,ho,r⟩:=hm
    exact⟨o,es',ep,k1 _ o (fun z=>(hf _ z).2.1 rfl) ho,r⟩
   ·by_cases hb:b=s.heap.objs.size
    ·subst hb
     rw[aj]at e
     cases e
     exact⟨(by show 2≤sizeLine;decide),[u,v],.cons ru (.cons rv .nil),⟨_,hT'',rfl,_,rfl⟩⟩
    ·rw[upd_ne hb]at e
     refine (I1.hok b o e).stay (fun c v hc q=>q) (fun c q=>by rw[upd_ne (ak q hn)];exact q) fun c ys q=>by rw[upd_ne (ak q hn)];exact q
  refine⟨.ref s.heap.objs.size,_,I2,rfl,⟨_,x,y,hx,hy,hn,rfl,rfl⟩,⟨hz'',?_,⟨u,v,hs''.extBut _ _ R.TOz hTO'⟩,ZS.st_keep st1' (fun o e=>hs''.extBut _ _ R.i1z e),ZS.st_keep st2' (fun o e=>hs''.extBut _ _ R.i2z e)⟩,fun c hc=>?_⟩
  ·exact hs''.extBut _ _ R.TIz (hk _ _ R.TIz R.TITO R.TIi1 R.TIi2 h2)
  ·rw[upd_ne (Nat.ne_of_lt (fl c hc))];exact (hf c hc).1
 done:=by
  intro X hP hw hK hc i pins s σ H E I hf ⟨h1,h2,⟨p,q,h3⟩,h4,h5⟩ hg
  subst hP hw hK
  obtain⟨oka,okb,hend⟩:=hg
  have hh:X.A.in1.handled=none:=I.ok.hd hc
  obtain⟨src1,hs1,S1,ap1⟩:=a.sub I oka ra X.A.in1 hh i1
  obtain⟨src2,hs2,S2,ap2⟩:=b.sub I okb rb X.A.in1 hh i2
  have D:ZApart z TI TO i1 i2 a.sl b.sl:=⟨R.TIz,R.TOz,R.i1z,R.i2z,R.TITO,R.TIi1,R.TIi2,R.TOi1,R.TOi2,R.i12,
   fun c hc=>⟨aJ I (hf z (by simp)) ap1 c hc,aJ I (hf TO (by simp)) ap1 c hc,aJ I (hf i1 (by simp)) ap1 c hc,aJ I (hf i2 (by simp)) ap1 c hc⟩,
   fun c hc=>⟨aJ I (hf z (by simp)) ap2 c hc,aJ I (hf TO (by simp)) ap2 c hc,aJ I (hf i1 (by simp)) ap2 c hc,aJ I (hf i2 (by simp)) ap2 c hc⟩⟩
  refine pC D S1 S2 h1 h2 h3 h4 h5 hs1 hs2 hend fun h' tk hk=>⟨rfl,I.turnedL (fun c o hc e=>?_) hf⟩
  simp only[List.mem_cons,List.not_mem_nil,or_false,not_or]at hc
  exact hk c o hc.1 hc.2.2.1 hc.2.2.2.1 hc.2.2.2.2 e
 self:=fun _ _ _ _ _ ⟨h1,_⟩ h=>wpAny_pyIter_zip h1 h
theorem gU(v1 v2:Value)(o1 o2:Obj)(src1 src2:Heap->Prop)(fr2:∀h o,src2 h->src2 (h.push o))
  (p1:∀(prog:Program) (w:World) (A:Around) (E:Value->Shared->Prop) (s:Shared) (Q:Value->Shared->Prop),src1 s.heap->Q (.ref s.heap.objs.size) { s with heap:=s.heap.push o1 }->wpAny (model prog w) A (pyIter v1) Q E s)
  (p2:∀(prog:Program) (w:World) (A:Around) (E:Value->Shared->Prop) (s:Shared) (Q:Value->Shared->Prop),src2 s.heap->Q (.ref s.heap.objs.size) { s with heap:=s.heap.push o2 }->wpAny (model prog w) A (pyIter v2) Q E s) :
  Meets (Builtin.«zip.__new__» ⟨[.type "zip",v1,v2],[]⟩) (fun _ R s=>src1 s.heap/\src2 s.heap /\
   R (.ok (.ret (.ref ((((s.heap.push o1).push o2).push { cls:=.type "tuple",data:=.seq #[.ref s.heap.objs.size,.ref (s.heap.push o1).objs.size] }).push { cls:=.type "tuple",data:=.seq #[.none,.none] }).objs.size)))
    { s with heap:=((((s.heap.push o1).push o2).push { cls:=.type "tuple",data:=.seq #[.ref s.heap.objs.size,.ref (s.heap.push o1).objs.size] }).push { cls:=.type "tuple",data:=.seq #[.none,.none] }).push { cls:=.type "zip",data:=.fields #[.none,.bool false,.bool false,.ref ((s.heap.push o1).push o2).objs.size,.ref (((s.heap.push o1).push o2).push { cls:=.type "tuple",data:=.seq #[.ref s.heap.objs.size,.ref (s.heap.push o1).objs.size] }).objs.size] } }) :=
 .of_wp fun prog w A R s h=>by
  obtain⟨hp,g,d,tk,os⟩:=s;obtain⟨hl1,hl2,h⟩:=h
  have hsub:=sub_zip
  have q1:∀{A:Around} {E:Value->Shared->Prop} {Q:Value->Shared->Prop},Q (.ref hp.objs.size) ⟨hp.push o1,g,d,tk,os⟩->wpAny (model prog w) A (pyIter v1) Q E ⟨hp,g,d,tk,os⟩:=fun hQ=>p1 _ _ _ _ ⟨hp,g,d,tk,os⟩ _ hl1 hQ
  have q2:∀{A:Around} {E:Value->Shared->Prop} {Q:Value->Shared->Prop},Q (.ref (hp.push o1).objs.size) ⟨(hp.push o1).push o2,g,d,tk,os⟩->wpAny (model prog w) A (pyIter v2) Q E ⟨hp.push o1,g,d,tk,os⟩:=fun hQ=>p2 _ _ _ _ ⟨hp.push o1,g,d,tk,os⟩ _ (fr2 _ _ hl2) hQ
  wp_walk using q1,q2
  exact⟨_,rfl,h⟩
end
section
theorem boot_zip:bootBuiltins "zip"=some (.type "zip"):=by decide +kernel
section
variable{X:Cx}
theorem ZS.iter(a:ZS){v:Value}{pins:List (Addr × Obj)}{σ:St}{H:Hp}{s:Shared}(I:Inv X pins σ H s)(ok:a.ok X.K H)(rv:RelV a.val v) :
  ∃src:Heap->Prop,src s.heap/\(∀h o,src h->src (h.push o)) /\
   ∀(prog:Program) (w:World) (A:Around) (E:Value->Shared->Prop) (s:Shared) (Q:Value->Shared->Prop),src s.heap->Q (.ref s.heap.objs.size) { s with heap:=s.heap.push (a.rcd v) }->wpAny (model prog w) A (pyIter v) Q E s:=by
 cases a with
 | lst l xs =>
  obtain⟨its,r,p,hz⟩:=I.list (show SqL X.K H l xs from ok)
  cases rv
  exact⟨fun h=>h.IsList l its.toArray,p.isList,fun h o x=>x.push o,fun prog w A E s Q h q=>wpAny_pyIter_list h q⟩
 | tup l xs =>
  obtain⟨its,r,p,hz⟩:=I.tuple (show SqT X.K H l xs from ok)
  cases rv
  exact⟨fun h=>h.IsTuple l its.toArray,p,fun h o x=>x.push o,fun prog w A E s Q h q=>wpAny_pyIter_tuple h q⟩
 | str z =>
  obtain⟨t,rfl⟩:=rv
  exact⟨fun _=>True,trivial,fun _ _ _=>trivial,fun prog w A E s Q _ q=>wpAny_pyIter_strU q⟩
theorem ZS.st0(a:ZS){v:Value}(rv:RelV a.val v){h:Heap}{i:Addr}(e:h.get? i=some (a.rcd v)):a.st v i 0 h:=by
 cases a with
 | lst l xs=>cases rv;exact⟨_,e,rfl,rfl⟩
 | tup l xs=>cases rv;exact⟨_,e,rfl,rfl⟩
 | str z=>obtain⟨t,rfl⟩:=rv;exact⟨_,e,rfl,rfl⟩
theorem km(a:ZS)(v:Value):(a.rcd v).isFreed=false:=by cases a<;>rfl
def Dk(K:PySem.W.Frag)(ta:TA):TI:=fun σ H R=>ta σ H fun vs H1=>∃a b:ZS,vs=[a.val,b.val]/\a.ok K H1/\b.ok K H1/\R (Dj K a b) H1
theorem addNe{n i j:Nat}(h:i≠j):(n + i:Addr)≠n + j:=fun e=>h (Nat.add_left_cancel e)
theorem addNe0{n i:Nat}(h:i≠0):(n + i:Addr)≠n:=fun e=>h (Nat.add_left_cancel (k:=0) e)
theorem xU {es:List Expr} {x1} {tpos:Pos} {a b:Expr} {ta:TA} {p pos:Pos} (hg:Gl X "zip") (hm:X.mg "zip"=none) (ha:PA X [a,b] ta) (hs:starEach [a,b] X.env=[(false,eval a X.env),(false,eval b X.env)]:=by rfl) (hs2:starEach [b] X.env=[(false,eval b X.env)]:=by rfl) :
  PI X (.Tuple es x1 tpos) (.Call (.Name "zip" p) [a,b] [] pos) (Dk X.K ta):=by
 intro pins s σ H R I h
 refine Call_ (fG I hg hm boot_zip (PyProof.Rows.callWith_type1 (thn (ha pos pins s σ H _ I h) fun us s1 hZ=>?_) (by rw[hs,hs2]) (by rw[hs2];rfl)))
 obtain⟨vs,H1,I1,r1,q1⟩:=hZ
 obtain⟨za,zb,e,oka,okb,q⟩:=q1
 subst e
 obtain⟨ua,ub,rfl,ra,rb⟩:=r1.two
 obtain⟨src1,h1,_,p1⟩:=za.iter I1 oka ra
 obtain⟨src2,h2,fr2,p2⟩:=zb.iter I1 okb rb
 refine callType_new F.called_zip (by decide) (F.typeCall_zip_2 _ _) (F.newCall_zip_2 _ _) (fun obj=>F.args_object_init_3 obj _ _) F.entry_zip_new
  (gU ua ub (za.rcd ua) (zb.rcd ub) src1 src2 fr2 p1 p2) ⟨h1,h2,?_⟩
 generalize hA:s1.heap.push (za.rcd ua)=A1
 generalize hB:A1.push (zb.rcd ub)=A2
 generalize hC:A2.push { cls:=.type "tuple",data:=.seq #[.ref s1.heap.objs.size,.ref A1.objs.size] }=A3
 generalize hD:A3.push { cls:=.type "tuple",data:=.seq #[.none,.none] }=A4
 generalize hE:A4.push { cls:=.type "zip",data:=.fields #[.none,.bool false,.bool false,.ref A2.objs.size,.ref A3.objs.size] }=A5
 have z1:A1.objs.size=s1.heap.objs.size + 1:=by rw[<- hA];exact Heap.size_push ..
 have z2:A2.objs.size=s1.heap.objs.size + 2:=by rw[<- hB,Heap.size_push,z1]
 have z3:A3.objs.size=s1.heap.objs.size + 3:=by rw[<- hC,Heap.size_push,z2]
 have z4:A4.objs.size=s1.heap.objs.size + 4:=by rw[<- hD,Heap.size_push,z3]
 have g5:A5.get? A4.objs.size=some { cls:=.type "zip",data:=.fields #[.none,.bool false,.bool false,.ref A2.objs.size,.ref A3.objs.size] }:=by rw[<- hE];exact Heap.get?_push_size _ rfl
 have u5:∀c o,A4.get? c=some o->A5.get? c=some o:=fun c o e=>by rw[<- hE];exact Heap.get?_push_of_some _ e
 have u4:∀c o,A3.get? c=some o->A5.get? c=some o:=fun c o e=>u5 c o (by rw[<- hD];exact Heap.get?_push_of_some _ e)
 have u3:∀c o,A2.get? c=some o->A5.get? c=some o:=fun c o e=>u4 c o (by rw[<- hC];exact Heap.get?_push_of_some _ e)
 have u2:∀c o,A1.get? c=some o->A5.get? c=some o:=fun c o e=>u3 c o (by rw[<- hB];exact Heap.get?_push_of_some _ e)
 have u1:∀c o,s1.heap.get? c=some o->A5.get? c=some o:=fun c o e=>u2 c o (by rw[<- hA];exact Heap.get?_push_of_some _ e)
 have g4:A5.get? A3.objs.size=some { cls:=.type "tuple",data:=.seq #[.none,.none] }:=u5 _ _ (by rw[<- hD];exact Heap.get?_push_size _ rfl)
 have g3:A5.get? A2.objs.size=some { cls:=.type "tuple",data:=.seq #[.ref s1.heap.objs.size,.ref A1.objs.size] }:=u4 _ _ (by rw[<- hC];exact Heap.get?_push_size _ rfl)
 have g2:A5.get? A1.objs.size=some (zb.rcd ub):=u3 _ _ (by rw[<- hB];exact Heap.get?_push_size _ (km _ _))
 have g1:A5.get? s1.heap.objs.size=some (za.rcd ua):=u2 _ _ (by rw[<- hA];exact Heap.get?_push_size _ (km _ _))
 refine⟨⟨_,g5,rfl⟩,?_⟩
 have ez:IsZip A5 A4.objs.size A2.objs.size A3.objs.size .none:=g5
 refine wpAny_pyIter_zip ez ?_
 have R:ZRec A4.objs.size A2.objs.size A3.objs.size s1.heap.objs.size A1.objs.size:=by
  rw[z1,z2,z3,z4]
  refine⟨?_,?_,?_,?_,?_,?_,?_,?_,?_,?_⟩<;>first | exact addNe (by decide) | exact addNe0 (by decide) | exact (addNe0 (by decide)).symm
 have I5:Inv X pins σ H1 { s1 with heap:=A5 }:=I1.kept (t':=s1.toks) u1
 refine⟨A4.objs.size,[A4.objs.size,A2.objs.size,A3.objs.size,s1.heap.objs.size,A1.objs.size],_,_,H1,rfl,I5,qF za zb ua ub ra rb _ _ _ _ _ R,
  ⟨ez,g3,⟨_,_,g4⟩,za.st0 ra g1,zb.st0 rb g2⟩,fun b hb=>?_,q⟩
 have hb':s1.heap.objs.size≤b:=by
  simp only[List.mem_cons,List.not_mem_nil,or_false]at hb
  rcases hb with rfl | rfl | rfl | rfl | rfl<;>first | exact Nat.le_refl _ | (rw[z4];exact Nat.le_add_right _ _) | (rw[z3];exact Nat.le_add_right _ _) | (rw[z2];exact Nat.le_add_right _ _) | (rw[z1];exact Nat.le_add_right _ _)
 exact I1.fpOk hb' (I1.hok.fresh hb')
end
section
variable{X:Cx}
theorem mT{bs:List Bool}:∀{us:List Value},Vals (bs.map V.bl) us->LSm.BoolsAre us bs:=by
 induction bs with
 | nil=>intro us r;rw[List.map_nil]at r;cases r;exact .nil
 | cons b bs ih =>
  intro us r
  rw[List.map_cons]at r
  cases r with
  | cons r1 r2=>cases r1;exact .cons b (ih r2)
theorem qG(hc:X.calm=true):bo X (.builtin "all") (fun xs H Q=>∃(p:Addr) (bs:List Bool),xs=[.ref p]/\SqL X.K H p (bs.map V.bl)/\Q (.bl (bs.all id)) H):=by
 intro pins s σ H xs us Q I r h
 obtain⟨p,bs,rfl,hq,q⟩:=h
 obtain⟨u,rfl,rx⟩:=vals1 r
 cases rx
 obtain⟨its,r',pl,hz⟩:=I.list hq
 obtain⟨m,F⟩:=I.fr
 have hlt:p < s.heap.objs.size:=by obtain⟨_,_,e,_⟩:=pl;exact Heap.lt_size e
 have hb:=mT r'
 refine call_all_walk (wpAny_pyIter_list pl.isList ?_)
 refine⟨s.heap.objs.size,[s.heap.objs.size,p],[s.heap.objs.size],its.toArray.size,_,_,fun i=>(bs[i]?).getD true,rfl,Walks.list (A:=X.A.in1) (I.ok.hd hc) _ p (Nat.ne_of_lt hlt) its.toArray,
  ⟨⟨_,Heap.get?_push_size _ rfl,rfl,rfl⟩,pl.isList.push _⟩,fun i v s' Q' E' hP hQ=>?_,fun h' tk hk=>?_⟩
 ·obtain⟨b,e,rfl⟩:=hb.get i v (by simpa using hP)
  simp only[e,Option.getD_some]at hQ
  exact wpAny_truthy_bool hQ
 ·have e:((List.range its.toArray.size).all fun i=>(bs[i]?).getD true)=bs.all id:=by
   rw[List.size_toArray,hb.length];exact LSm.range_all bs
  rw[e]
  exact⟨.bl (bs.all id),H,I.kept (LSm.kept_iter hk),rfl,q⟩
end
end
section
mutual
inductive Dt (K:PySem.W.Frag)(H:Hp):V->PyData->Prop
 | non:Dt K H .non .none
 | bl (b:Bool):Dt K H (.bl b) (.bool b)
 | int (i:Int):Dt K H (.int i) (.int i)
 | str (x:Str):Dt K H (.str x) (.str x)
 | lst {a xs ds}:SqL K H a xs->DtAll K H xs ds->Dt K H (.ref a) (.list ds)
 | tup {a xs ds}:SqT K H a xs->DtAll K H xs ds->Dt K H (.ref a) (.tuple ds)
inductive DtAll (K:PySem.W.Frag)(H:Hp):List V->List PyData->Prop
 | nil:DtAll K H [] []
 | cons {x d xs ds}:Dt K H x d->DtAll K H xs ds->DtAll K H (x::xs) (d::ds)
end
theorem DtAll.length{K:PySem.W.Frag}{H:Hp}{xs:List V}{ds:List PyData}(h:DtAll K H xs ds):xs.length=ds.length:=by
 induction xs generalizing ds with
 | nil=>cases h;rfl
 | cons v vs ih=>cases h with | cons _ t=>rw[List.length_cons,List.length_cons,ih t]
theorem DtAll.ints{K:PySem.W.Frag}{H:Hp}:∀(ns:List Int),DtAll K H (ns.map V.int) (ns.map PyData.int)
 | []=>.nil
 | n::ns=>.cons (.int n) (DtAll.ints ns)
theorem Same.tupS{K:PySem.W.Frag}{H H':Hp}{a:Addr}{xs:List V}(e:Same H H')(h:SqT K H a xs):SqT K H' a xs:=by
 rcases h with (h | ⟨o,h⟩) | h
 ·exact .inl (.inl (e _ _ h))
 ·exact .inl (.inr ⟨o,e _ _ h⟩)
 ·exact .inr h
theorem Dt.ind{K:PySem.W.Frag}{H:Hp}{P:V->PyData->Prop}{Q:List V->List PyData->Prop}(non:P .non .none)(bl:∀b,P (.bl b) (.bool b))(int:∀i,P (.int i) (.int i))(str:∀x,P (.str x) (.str x))
  (lst:∀{a xs ds},SqL K H a xs->Q xs ds->P (.ref a) (.list ds)) (tup:∀{a xs ds},SqT K H a xs->Q xs ds->P (.ref a) (.tuple ds)) (nil:Q [] []) (cons:∀{x d xs ds},P x d->Q xs ds->Q (x::xs) (d::ds)) :
  (∀{v d},Dt K H v d->P v d)/\∀{vs ds},DtAll K H vs ds->Q vs ds :=
 ⟨fun h=>Dt.rec (motive_1:=fun v d _=>P v d) (motive_2:=fun vs ds _=>Q vs ds) non bl int str (fun h _ i=>lst h i) (fun h _ i=>tup h i) nil (fun _ _ i j=>cons i j) h,
  fun h=>DtAll.rec (motive_1:=fun v d _=>P v d) (motive_2:=fun vs ds _=>Q vs ds) non bl int str (fun h _ i=>lst h i) (fun h _ i=>tup h i) nil (fun _ _ i j=>cons i j) h⟩
section
variable{X:Cx}{pins:List (Addr × Obj)}{σ:St}{H:Hp}{s:Shared}
theorem Dt.reads_(I:Inv X pins σ H s):(∀{x:V} {d:PyData},Dt X.K H x d->∀{u:Value},RelV x u->∃as,Reads s.heap u d as)/\∀{xs:List V} {ds:List PyData},DtAll X.K H xs ds->∀{us:List Value},Vals xs us->∃as,ReadsAll s.heap us ds as:=by
 refine Dt.ind (P:=fun x d=>∀{u:Value},RelV x u->∃as,Reads s.heap u d as) (Q:=fun xs ds=>∀{us:List Value},Vals xs us->∃as,ReadsAll s.heap us ds as) ?_ ?_ ?_ ?_ ?_ ?_ ?_ ?_
 ·intro u r;cases r;exact⟨_,.none⟩
 ·intro b u r;cases r;exact⟨_,.bool b⟩
 ·intro i u r;obtain⟨t,rfl⟩:=r;exact⟨_,.int i t⟩
 ·intro x u r;obtain⟨t,rfl⟩:=r;exact⟨_,.str x t⟩
 ·intro a xs ds h i u r
  cases r
  obtain⟨its,rv,⟨o,n,e,hc,_,hd⟩,_⟩:=I.list h
  obtain⟨as,q⟩:=i rv
  exact⟨_,.list e hc hd (by simpa using q)⟩
 ·intro a xs ds h i u r
  cases r
  obtain⟨its,rv,⟨o,e,hc,n,hd⟩,_⟩:=I.tuple h
  obtain⟨as,q⟩:=i rv
  exact⟨_,.tuple e hc hd (by simpa using q)⟩
 ·intro us r;cases r;exact⟨_,.nil⟩
 ·intro x d xs ds i j us r
  cases r with
  | cons r1 r2 =>
   obtain⟨as,q⟩:=i r1
   obtain⟨bs,p⟩:=j r2
   exact⟨_,.cons q p⟩
theorem Dt.reads(I:Inv X pins σ H s){x:V}{d:PyData}{u:Value}(h:Dt X.K H x d)(r:RelV x u):∃as,Reads s.heap u d as:=(Dt.reads_ I).1 h r
end
mutual
theorem eqv_refl:∀(d:PyData),d.canLay0=true->PyData.eqv d d=true
 | .none,_=>by simp[PyData.eqv]
 | .bool b,_=>by simp[PyData.eqv]
 | .int i,_=>by simp[PyData.eqv]
 | .str x,_=>by simp[PyData.eqv]
 | .list xs,h=>by simp only[PyData.eqv];exact eqvAll_refl xs (by simpa [PyData.canLay0] using h)
 | .tuple xs,h=>by simp only[PyData.eqv];exact eqvAll_refl xs (by simpa [PyData.canLay0] using h)
 | .dict _,h=>by simp[PyData.canLay0]at h
theorem eqvAll_refl:∀(ds:List PyData),PyData.canLayAll0 ds=true->PyData.eqvAll ds ds=true
 | [],_=>by simp[PyData.eqvAll]
 | d::ds,h=>by
  simp only[PyData.canLayAll0,Bool.and_eq_true]at h
  simp only[PyData.eqvAll,Bool.and_eq_true]
  exact⟨eqv_refl d h.1,eqvAll_refl ds h.2⟩
end
section
variable{X:Cx}
def An(K:PySem.W.Frag):R2:=fun x y H Q=>∃da db,Dt K H x da/\Dt K H y db/\SeqAt.shaped da=true/\SeqAt.shaped db=true/\Q (.bl (PyData.eqv da db)) H
def Ao(K:PySem.W.Frag):R2:=fun x y H Q=>∃da db,Dt K H x da/\Dt K H y db/\SeqAt.shaped da=true/\SeqAt.shaped db=true/\Q (.bl (!PyData.eqv da db)) H
theorem xV(hu:X.A.units + 64 < cLine):OpR X (compareOp .Eq) (An X.K):=by
 intro pins s σ H x y v u Q I rx ry h
 obtain⟨da,db,ra,rb,sa,sb,q⟩:=h
 obtain⟨as,r1⟩:=ra.reads I rx
 obtain⟨bs,r2⟩:=rb.reads I ry
 exact eq_dataH r1 r2 sa sb hu ⟨.bl _,H,I,rfl,q⟩
theorem xW(hu:X.A.units + 64 < cLine):OpR X (compareOp .NotEq) (Ao X.K):=by
 intro pins s σ H x y v u Q I rx ry h
 obtain⟨da,db,ra,rb,sa,sb,q⟩:=h
 obtain⟨as,r1⟩:=ra.reads I rx
 obtain⟨bs,r2⟩:=rb.reads I ry
 exact ne_dataH r1 r2 sa sb hu ⟨.bl _,H,I,rfl,q⟩
theorem kit_same(K:PySem.W.Frag)(T:String):PySem.W.kitOne K (.type T) (.type T)=some true:=by
 unfold PySem.W.kitOne
 rw[if_pos (by simp)]
theorem kit_tl(K:PySem.W.Frag):PySem.W.kitOne K (.type "tuple") (.type "list")=some false:=by kernel_rfl
theorem kit_bi(K:PySem.W.Frag):PySem.W.kitOne K (.type "bool") (.type "int")=some true:=by kernel_rfl
theorem kit_ib(K:PySem.W.Frag):PySem.W.kitOne K (.type "int") (.type "bool")=some false:=by kernel_rfl
theorem kit_il(K:PySem.W.Frag):PySem.W.kitOne K (.type "int") (.type "list")=some false:=by kernel_rfl
theorem kit_it(K:PySem.W.Frag):PySem.W.kitOne K (.type "int") (.type "tuple")=some false:=by kernel_rfl
theorem kit_sl(K:PySem.W.Frag):PySem.W.kitOne K (.type "str") (.type "list")=some false:=by kernel_rfl
theorem kit_st(K:PySem.W.Frag):PySem.W.kitOne K (.type "str") (.type "tuple")=some false:=by kernel_rfl
theorem kit_si(K:PySem.W.Frag):PySem.W.kitOne K (.type "str") (.type "int")=some false:=by kernel_rfl
theorem kit_bl(K:PySem.W.Frag):PySem.W.kitOne K (.type "bool") (.type "list")=some false:=by kernel_rfl
theorem kit_bt(K:PySem.W.Frag):PySem.W.kitOne K (.type "bool") (.type "tuple")=some false:=by kernel_rfl
theorem kit_bs(K:PySem.W.Frag):PySem.W.kitOne K (.type "bool") (.type "str")=some false:=by kernel_rfl
theorem kit_nl(K:PySem.W.Frag):PySem.W.kitOne K (.type "NoneType") (.type "list")=some false:=by kernel_rfl
theorem kit_nt(K:PySem.W.Frag):PySem.W.kitOne K (.type "NoneType") (.type "tuple")=some false:=by kernel_rfl
theorem kit_ni(K:PySem.W.Frag):PySem.W.kitOne K (.type "NoneType") (.type "int")=some false:=by kernel_rfl
theorem kit_li(K:PySem.W.Frag):PySem.W.kitOne K (.type "list") (.type "int")=some false:=by kernel_rfl
theorem kit_ti(K:PySem.W.Frag):PySem.W.kitOne K (.type "tuple") (.type "int")=some false:=by kernel_rfl
inductive Ty (K:PySem.W.Frag)(H:Hp):V->String->Prop
 | non:Ty K H .non "NoneType"
 | bl (b:Bool):Ty K H (.bl b) "bool"
 | int (i:Int):Ty K H (.int i) "int"
 | str (x:Str):Ty K H (.str x) "str"
 | lst {a xs}:SqL K H a xs->Ty K H (.ref a) "list"
 | tup {a xs}:SqT K H a xs->Ty K H (.ref a) "tuple"
theorem Ty.kitx{pins:List (Addr × Obj)}{σ:St}{H:Hp}{s:Shared}{x:V}{n:String}{u:Value}(I:Inv X pins σ H s)(ty:Ty X.K H x n)(rx:RelV x u) :
  ∃Z:Heap->Prop,PySem.W.KitX X.K u (.type n) Z/\Z s.heap/\u≠.builtin "__main__.__loader__#opaque":=by
 cases ty with
 | non=>cases rx;exact⟨_,PySem.W.kitx_none,trivial,fun z=>nomatch z⟩
 | bl b=>cases rx;exact⟨_,PySem.W.kitx_bool,trivial,fun z=>nomatch z⟩
 | int i=>obtain⟨t,rfl⟩:=rx;exact⟨_,PySem.W.kitx_int,trivial,fun z=>nomatch z⟩
 | str x=>obtain⟨t,rfl⟩:=rx;exact⟨_,PySem.W.kitx_str,trivial,fun z=>nomatch z⟩
 | lst h =>
  cases rx
  obtain⟨its,_,⟨o,n,e,hc,_⟩,_⟩:=I.list h
  exact⟨_,PySem.W.kitx_list,⟨o,e,hc⟩,fun z=>nomatch z⟩
 | tup h =>
  cases rx
  obtain⟨its,_,⟨o,e,hc,_⟩,_⟩:=I.tuple h
  exact⟨_,PySem.W.kitx_tuple,⟨o,e,hc⟩,fun z=>nomatch z⟩
theorem qH(T:String):bo X (.builtin "isinstance") (fun xs H Q=>∃x n b,xs=[x,.ty T]/\Ty X.K H x n/\PySem.W.kitOne X.K (.type n) (.type T)=some b/\Q (.bl b) H):=by
 intro pins s σ H xs us Q I r h
 obtain⟨x,n,b,rfl,ty,e,q⟩:=h
 obtain⟨u,v,rfl,rx,ry⟩:=r.two
 cases ry
 obtain⟨Z,kx,z,ne⟩:=ty.kitx I rx
 exact PySem.W.kia_one kx I.kIn z e ne fun tk=>⟨.bl b,H,I.tok _,rfl,q⟩
theorem pD(S T:String):bo X (.builtin "isinstance") (fun xs H Q=>∃x n b p,xs=[x,.ref p]/\H p=some (.tup [.ty S,.ty T])/\Ty X.K H x n/\PySem.W.kitAny X.K (.type n) [.type S,.type T]=some b/\Q (.bl b) H):=by
 intro pins s σ H xs us Q I r h
 obtain⟨x,n,b,p,rfl,hp,ty,e,q⟩:=h
 obtain⟨u,v,rfl,rx,ry⟩:=r.two
 cases ry
 obtain⟨Z,kx,z,ne⟩:=ty.kitx I rx
 obtain⟨_,its,rv,⟨⟨c,dd,dt,sl⟩,eo,hc,nn,hd⟩⟩:=I.hok p _ hp
 obtain⟨u1,u2,rfl,r1,r2⟩:=rv.two
 cases r1
 cases r2
 replace hc:c=.type "tuple":=hc
 replace hd:dt=.seq [Value.type S,Value.type T].toArray nn:=hd
 subst hc hd
 exact PySem.W.kia_tup kx I.kIn z eo e ne fun tk=>⟨.bl b,H,I.tok _,rfl,q⟩
theorem gV(K:PySem.W.Frag){n S T:String}(h1:PySem.W.kitOne K (.type n) (.type S)=some true\/(PySem.W.kitOne K (.type n) (.type S)=some false/\PySem.W.kitOne K (.type n) (.type T)=some true)) :
  PySem.W.kitAny K (.type n) [.type S,.type T]=some true:=by
 rcases h1 with h | ⟨h,h'⟩
 ·simp[PySem.W.kitAny,h]
 ·simp[PySem.W.kitAny,h,h']
theorem dR(K:PySem.W.Frag){n S T:String}(h:PySem.W.kitOne K (.type n) (.type S)=some false)(h':PySem.W.kitOne K (.type n) (.type T)=some false) :
  PySem.W.kitAny K (.type n) [.type S,.type T]=some false:=by
 simp[PySem.W.kitAny,h,h']
end
end
section
section
variable{X:Cx}{pos:Pos}
def Ap(i j k:Nat)(ta:TA):TS:=fun D σ H=>ta σ H fun vs H1=>∃v w u,vs=[v,w,u]/\D.nx (((σ.set i (some v)).set j (some w)).set k (some u)) H1
theorem uz{i j k:Nat}{x y z:Str}{a b c:Expr}{ta:TA}{px py pz pt:Pos}{kt k2 pt2}(hc:X.calm=true)(hN:X.N.Nodup)(hi:X.N[i]?=some x)(hj:X.N[j]?=some y)(hk:X.N[k]?=some z)(hij:i≠j)(hik:i≠k)(hjk:j≠k)
  (hx:X.env.scope.names.lookup x=some .local) (hy:X.env.scope.names.lookup y=some .local) (hz:X.env.scope.names.lookup z=some .local) (ha:PA X [a,b,c] ta)
  (hw:swappedStores [.Tuple [.Name x px,.Name y py,.Name z pz] kt pt] (.Tuple [a,b,c] k2 pt2) X.env=pure (some [x,y,z]))
  (hs:swapsWithSole [.Tuple [.Name x px,.Name y py,.Name z pz] kt pt] (.Tuple [a,b,c] k2 pt2) pos.line X.env=pure false:=by rfl) :
  PS X (.Assign [.Tuple [.Name x px,.Name y py,.Name z pz] kt pt] (.Tuple [a,b,c] k2 pt2) pos) (Ap i j k ta):=by
 intro pins s σ H D I h
 rw[exec_Assign_arm]
 refine wpAny_bind (wpAny_standAt ?_)
 rw[hs]
 refine wpAny_bind (wpAny_pure ?_)
 rw[if_neg (by decide)]
 refine wpAny_bind (Tuple_ (thn (ha _ pins s σ H _ I h) fun us s1 ⟨vs,H1,I1,r1,q1⟩=>?_))
 obtain⟨v,w,u,e1,q1⟩:=q1
 subst e1
 obtain⟨u1,u2,u3,rfl,rv,rw',ru⟩:∃u1 u2 u3,us=[u1,u2,u3]/\RelV v u1/\RelV w u2/\RelV u u3:=by
  cases r1 with
  | cons p q =>
   cases q with
   | cons p' q' =>
    cases q' with
    | cons p'' q'' =>
     cases q''
     exact⟨_,_,_,rfl,p,p',p''⟩
 refine wpAny_newObj_type ?_ (by show 3≤sizeLine;decide)
 have I2:Inv X pins σ H1 { s1 with heap:=s1.heap.push { cls:=.type "tuple",data:=.seq [u1,u2,u3].toArray } }:=I1.kept (t':=s1.toks) fun b o e=>Heap.get?_push_of_some _ e
 rw[hw]
 refine wpAny_bind (wpAny_pure ?_)
 show wpAny (model X.prog X.w) X.A (do rule "assign.swapped-stores";let items <- unpackItems (.ref s1.heap.objs.size) 3 none;assignInOrder [fun v=>bindName X.env z v,fun v=>bindName X.env y v,fun v=>bindName X.env x v] items.reverse;pure Flow.next) _ _ _
 refine wpAny_bind (wpAny_rule (wpAny_bind (unpackItems_tuple (items:=#[u1,u2,u3]) (I.ok.hd hc) (IsTup.new s1.heap _) fun h' hx'=>?_)))
 have I3:=I2.kept (h':=h') (t':=s1.toks) fun b o e=>hx' b o (Nat.ne_of_lt (Heap.lt_size e)) e
 show wpAny _ _ (assignInOrder [fun v=>bindName X.env z v,fun v=>bindName X.env y v,fun v=>bindName X.env x v] [u3,u2,u1] >>= fun _=>pure Flow.next) _ _ _
 refine wpAny_bind (assignInOrder_cons (wpAny_bindName (bL I3 hN hk (.inl hz) ru (fun s2 I4=>?_) (.inr hz))))
 refine assignInOrder_cons (wpAny_bindName (bL I4 hN hj (.inl hy) rw' (fun s3 I5=>?_) (.inr hy)))
 refine assignInOrder_cons (wpAny_bindName (bL I5 hN hi (.inl hx) rv (fun s4 I6=>assignInOrder_nil (wpAny_pure ?_)) (.inr hx)))
 have e:((σ.set k (some u)).set j (some w)).set i (some v)=((σ.set i (some v)).set j (some w)).set k (some u):=by
  rw[List.set_comm _ _ (Ne.symm hij),List.set_comm _ _ (Ne.symm hik),List.set_comm _ _ (Ne.symm hjk)]
 rw[e]at I6
 exact⟨_,H1,I6,q1⟩
end
def Keep(S:List Addr)(H H':Hp):Prop:=∀b o,H b=some o->b ∉ S->H' b=some o
theorem Keep.same{H H':Hp}(a:Keep [] H H'):Same H H':=fun b o h=>a b o h (by simp)
end
section
theorem lJ:bootBuiltins "len"=some (.builtin "len"):=by decide +kernel
theorem xX:bootBuiltins "abs"=some (.builtin "abs"):=by decide +kernel
theorem qI:bootBuiltins "max"=some (.builtin "max"):=by decide +kernel
theorem xY:bootBuiltins "min"=some (.builtin "min"):=by decide +kernel
theorem xZ:bootBuiltins "all"=some (.builtin "all"):=by decide +kernel
theorem en:bootBuiltins "isinstance"=some (.builtin "isinstance"):=by decide +kernel
theorem qJ:bootBuiltins "int"=some (.type "int"):=by decide +kernel
theorem uA:bootBuiltins "bool"=some (.type "bool"):=by decide +kernel
theorem x9:bootBuiltins "str"=some (.type "str"):=by decide +kernel
theorem jt:bootBuiltins "list"=some (.type "list"):=by decide +kernel
theorem gW:bootBuiltins "tuple"=some (.type "tuple"):=by decide +kernel
section
variable{H:Hp}{Q:VK}{K:PySem.W.Frag}{x y v:V}{i j:Int}{p l:Addr}{xs:List V}
theorem lK{n:Nat}(h:n≤1000000):n≤sizeLine:=Nat.le_trans h (by decide)
end
end
section
section
variable{κ:Type}[DecidableEq κ]
def valV(kvs:List (κ × V))(k:κ):Option V:=(kvs.find? fun kv=>decide (kv.1=k)).map (·.2)
def putK(kvs:List (κ × V))(k:κ)(v:V):List (κ × V) :=
 if (kvs.any fun kv=>decide (kv.1=k))=true then kvs.map (fun kv=>if kv.1=k then (kv.1,v) else kv) else kvs++[(k,v)]
theorem eP{p:κ × V}{r:List (κ × V)}{k:κ}(e:p.1=k):valV (p::r) k=some p.2:=by simp[valV,List.find?_cons,e]
theorem gX{p:κ × V}{r:List (κ × V)}{k:κ}(e:¬ p.1=k):valV (p::r) k=valV r k:=by simp[valV,List.find?_cons,e]
theorem ko(k:κ):∀kvs:List (κ × V),(kvs.any fun kv=>decide (kv.1=k))=(valV kvs k).isSome
 | []=>rfl
 | p::r=>by
  rw[List.any_cons]
  by_cases e:p.1=k
  ·simp only[eP e,decide_eq_true e,Bool.true_or,Option.isSome_some]
  ·rw[gX e,decide_eq_false e,Bool.false_or];exact ko k r
theorem gi(kvs:List (κ × V))(k:κ)(v:V):(putK kvs k v).length≤kvs.length + 1:=by
 unfold putK
 split
 ·rw[List.length_map];omega
 ·rw[List.length_append,List.length_cons,List.length_nil];omega
theorem RelO.isSome_eq{o:Option V}{u:Option Value}(r:RelO o u):o.isSome=u.isSome:=by
 cases o with
 | none=>cases u with
  | none=>rfl
  | some _=>exact (show False from r).elim
 | some _=>cases u with
  | none=>exact (show False from r).elim
  | some _=>rfl
theorem KV.val{kvs:List (κ × V)}{vs:List (κ × Value)}(r:KV kvs vs)(k:κ):RelO (valV kvs k) (valueAt vs k):=by
 unfold KV at r
 induction r with
 | nil=>exact True.intro
 | @cons p q ps qs h t ih =>
  obtain⟨h1,h2⟩:=h
  by_cases e:p.1=k
  ·have e':q.1=k:=h1.symm.trans e
   have b:valueAt (q::qs) k=some q.2:=by simp[valueAt,List.find?_cons,e']
   rw[eP e,b];exact h2
  ·have e':¬ q.1=k:=fun z=>e (h1.trans z)
   have b:valueAt (q::qs) k=valueAt qs k:=by simp[valueAt,List.find?_cons,e']
   rw[gX e,b];exact ih
theorem KV.any{kvs:List (κ × V)}{vs:List (κ × Value)}(r:KV kvs vs)(k:κ):(kvs.any fun kv=>decide (kv.1=k))=vs.any fun kv=>decide (kv.1=k):=by
 unfold KV at r
 induction r with
 | nil=>rfl
 | cons h t ih=>rw[List.any_cons,List.any_cons,ih,h.1]
theorem KV.repl{kvs:List (κ × V)}{vs:List (κ × Value)}(r:KV kvs vs)(k:κ){y:V}{u:Value}(ry:RelV y u) :
  KV (kvs.map fun kv=>if kv.1=k then (kv.1,y) else kv) (vs.map fun kv=>if kv.1=k then (kv.1,u) else kv):=by
 unfold KV at r ⊢
 induction r with
 | nil=>exact .nil
 | @cons p q ps qs h t ih =>
  rw[List.map_cons,List.map_cons]
  refine .cons ?_ ih
  obtain⟨h1,h2⟩:=h
  by_cases e:p.1=k
  ·rw[if_pos e,if_pos (h1.symm.trans e)];exact⟨h1,ry⟩
  ·rw[if_neg e,if_neg (fun z=>e (h1.trans z))];exact⟨h1,h2⟩
theorem KV.put{kvs:List (κ × V)}{vs:List (κ × Value)}(r:KV kvs vs)(k:κ){y:V}{u:Value}(ry:RelV y u):KV (putK kvs k y) (stored vs k u):=by
 unfold putK stored
 rw[r.any k]
 by_cases e:(vs.any fun kv=>decide (kv.1=k))=true
 ·rw[if_pos e,if_pos e];exact r.repl k ry
 ·rw[if_neg e,if_neg e];exact Paired.snoc r ⟨rfl,ry⟩
theorem KV.length{kvs:List (κ × V)}{vs:List (κ × Value)}(r:KV kvs vs):kvs.length=vs.length:=Paired.length r
end
theorem qK{P:Program}{w:World}{k:Key}{u:Value}(r:RelV (kV k) u):(aT P w).is k u=true:=by
 cases k with
 | inl i=>obtain⟨t,e⟩:=(show ∃t,u=Value.int i t from r);subst e;exact j6 P w i t
 | inr x=>obtain⟨t,e⟩:=(show ∃t,u=Value.str x t from r);subst e;exact j7 P w x t
theorem iR{P:Program}{w:World}:∀{ks:List Key} {us:List Value},Vals (ks.map kV) us->ItemsAre (aT P w) ks us
 | [],_,r=>by rw[List.map_nil]at r;cases r;exact .nil
 | k::ks,_,r=>by
  rw[List.map_cons]at r
  cases r with
  | cons h t=>exact .cons (qK h) (iR t)
abbrev KT(H:Hp):List (List Key × V)->List (List Key × Addr × Value)->Prop:=Paired fun p q=>p.1=q.1/\H q.2.1=some (.tup (p.1.map kV))/\RelV p.2 q.2.2
theorem KT.val{H:Hp}{kvs:List (List Key × V)}{xs:List (List Key × Addr × Value)}(r:KT H kvs xs)(k:List Key):RelO (valV kvs k) ((atKey xs k).map (·.2)):=by
 induction r with
 | nil=>exact True.intro
 | @cons p q ps qs h t ih =>
  obtain⟨h1,_,h2⟩:=h
  by_cases e:p.1=k
  ·have e':q.1=k:=h1.symm.trans e
   have b:atKey (q::qs) k=some q.2:=by simp[atKey,List.find?_cons,e']
   rw[eP e,b];exact h2
  ·have e':¬ q.1=k:=fun z=>e (h1.trans z)
   have b:atKey (q::qs) k=atKey qs k:=by simp[atKey,List.find?_cons,e']
   rw[gX e,b];exact ih
theorem KT.repl{H:Hp}{kvs:List (List Key × V)}{xs:List (List Key × Addr × Value)}(r:KT H kvs xs)(k:List Key){y:V}{u:Value}(ry:RelV y u) :
  KT H (kvs.map fun kv=>if kv.1=k then (kv.1,y) else kv) (xs.map (putAt k u)):=by
 induction r with
 | nil=>exact .nil
 | @cons p q ps qs h t ih =>
  rw[List.map_cons,List.map_cons]
  refine .cons ?_ ih
  obtain⟨h1,h2,h3⟩:=h
  unfold putAt
  by_cases e:p.1=k
  ·rw[if_pos e,if_pos (h1.symm.trans e)];exact⟨h1,h2,ry⟩
  ·rw[if_neg e,if_neg (fun z=>e (h1.trans z))];exact⟨h1,h2,h3⟩
theorem KT.put{H:Hp}{kvs:List (List Key × V)}{xs:List (List Key × Addr × Value)}(r:KT H kvs xs)(k:List Key){b:Addr}{y:V}{u:Value}(hb:H b=some (.tup (k.map kV)))(ry:RelV y u) :
  KT H (putK kvs k y) (storedH xs k b u):=by
 have e:(kvs.any fun kv=>decide (kv.1=k))=(atKey xs k).isSome:=by
  rw[ko,(r.val k).isSome_eq,Option.isSome_map]
 unfold putK storedH
 rw[e]
 by_cases q:(atKey xs k).isSome=true
 ·rw[if_pos q,if_pos q];exact r.repl k ry
 ·rw[if_neg q,if_neg q];exact Paired.snoc r ⟨rfl,hb,ry⟩
theorem KT.keeps{H H':Hp}{kvs:List (List Key × V)}{xs:List (List Key × Addr × Value)}(r:KT H kvs xs)(ht:∀b ys,H b=some (.tup ys)->H' b=some (.tup ys)):KT H' kvs xs :=
 Paired.mapP r fun _ _ z=>⟨z.1,ht _ _ z.2.1,z.2.2⟩
section
variable{P:Program}{w:World}{H:Hp}{h:Heap}{a:Addr}
theorem wq{u:HO}(ok:HOk P w H h)(e:Rd H a u):ObjOk P w H h a u:=e.ok ok
theorem qL{kvs:List (Key × V)}(ok:HOk P w H h)(e:Rd H a (.dK kvs)):kvs.length≤sizeLine/\(a == sysModules)=false/\∃vs,KV kvs vs/\h.DictOf (aT P w) a vs :=
 show ObjOk P w H h a (.dK kvs) from wq ok e
theorem Aq{kvs:List (Key × V)}(ok:HOk P w H h)(e:H a=some (.dK kvs)):kvs.length≤sizeLine/\(a == sysModules)=false/\∃vs,KV kvs vs/\h.DictOf (aT P w) a vs:=qL ok (.inl e)
theorem lL{ks:List Key}(ok:HOk P w H h)(e:H a=some (.tup (ks.map kV))):(tupleKind (aT P w)).is h ks a:=by
 obtain⟨_,its,r,o,h1,h2,n,h3⟩:=(show ObjOk P w H h a (.tup (ks.map kV)) from ok a _ e)
 exact⟨o,its.toArray,n,h1,h2,h3,by simpa using iR r⟩
theorem qM{kvs:List (List Key × V)}(ok:HOk P w H h)(e:Rd H a (.dT kvs)):kvs.length≤sizeLine/\(a == sysModules)=false /\
  ∃xs,KT H kvs xs/\h.DictOfH (tupleKind (aT P w)) a xs:=by
 obtain⟨z,y,xs,r,o,es,ep,h1,h2,h3,h4,h5⟩:=(show ObjOk P w H h a (.dT kvs) from wq ok e)
 refine⟨z,y,xs,r,o,es,ep,h1,h2,h3,h4,fun x hx=>?_,h5⟩
 have all:∀{l:List (List Key × V)} {m:List (List Key × Addr × Value)},KT H l m->∀x∈m,(tupleKind (aT P w)).is h x.1 x.2.1:=by
  intro l m q
  induction q with
  | nil=>intro x hx;exact nomatch hx
  | @cons p q ps qs hq t ih =>
   intro x hx
   rcases List.mem_cons.mp hx with e | hx
   ·subst e
    exact lL ok (by rw[<- hq.1];exact hq.2.1)
   ·exact ih x hx
 exact all r x hx
theorem Ar{kvs:List (List Key × V)}(ok:HOk P w H h)(e:H a=some (.dT kvs)):kvs.length≤sizeLine/\(a == sysModules)=false /\
  ∃xs,KT H kvs xs/\h.DictOfH (tupleKind (aT P w)) a xs:=qM ok (.inl e)
end
def DGet(H:Hp)(a:Addr)(y:V)(r:Option V):Prop :=
 (∃kvs k,Rd H a (.dK kvs)/\y=kV k/\r=valV kvs k)\/∃kvs k b,Rd H a (.dT kvs)/\y=.ref b/\H b=some (.tup (k.map kV))/\r=valV kvs k
def DPut(H:Hp)(a:Addr)(y v:V)(H':Hp):Prop :=
 (∃kvs k,H a=some (.dK kvs)/\y=kV k/\kvs.length < sizeLine/\H'=upd H a (.dK (putK kvs k v))) \/
 ∃kvs k b,H a=some (.dT kvs)/\y=.ref b/\H b=some (.tup (k.map kV))/\kvs.length < sizeLine/\H'=upd H a (.dT (putK kvs k v))
theorem DGet.k{H:Hp}{a:Addr}{kvs:List (Key × V)}{k:Key}(e:H a=some (.dK kvs)):DGet H a (kV k) (valV kvs k):=.inl ⟨kvs,k,.inl e,rfl,rfl⟩
theorem DPut.k{H:Hp}{a:Addr}{kvs:List (Key × V)}{k:Key}{v:V}(e:H a=some (.dK kvs))(hl:kvs.length < sizeLine):DPut H a (kV k) v (upd H a (.dK (putK kvs k v))):=.inl ⟨kvs,k,e,rfl,hl,rfl⟩
section
variable{X:Cx}{pins:List (Addr × Obj)}{σ:St}{H:Hp}{s:Shared}{a:Addr}{y v:V}{u r:Value}{o:Option V}{A:Around}{E:Value->Shared->Prop}
theorem Inv.big(I:Inv X pins σ H s):sysModules < s.heap.objs.size:=by
 have h:mainGlobals < s.heap.objs.size:=(I.mod.glob.keeps I.bk).lt
 exact Nat.lt_trans (by decide) h
theorem pF{Q:Value->Shared->Prop}(hu:A.units + 1 < cLine)(I:Inv X pins σ H s)(g:DGet H a y (some v))(ry:RelV y u)(h:∀w' s',Inv X pins σ H s'->RelV v w'->Q w' s') :
  wpAny (model X.prog X.w) A (getItem (.ref a) u) Q E s:=by
 rcases g with ⟨kvs,k,e,ey,l⟩ | ⟨kvs,k,b,e,ey,eb,l⟩
 ·subst ey
  obtain⟨z,hd,vs,rel,dd⟩:=qL I.hok e
  obtain⟨w',hw,rw'⟩:=RelO.some_of (v:=v) (o:=valueAt vs k) (by rw[l];exact rel.val k)
  exact wpAny_getItem_of (qK ry) dd.mapOf hw (h w' _ (I.tok _) rw')
 ·subst ey
  cases (show u=Value.ref b from ry)
  obtain⟨z,hd,xs,rel,dd⟩:=qM I.hok e
  obtain⟨w',hw,rw'⟩:=RelO.some_of (v:=v) (o:=(atKey xs k).map (·.2)) (by rw[l];exact rel.val k)
  obtain⟨p,hp,hp2⟩:=Option.map_eq_some_iff.mp hw
  refine wpAny_getItem_heap (tupleKind_room_in1 hu) (lL I.hok eb) dd hp ?_
  rw[hp2]
  exact h w' _ (I.tok _) rw'
theorem mU{h':Heap}{t':Nat}{ob:HO}(I:Inv X pins σ H s)(mu:zR (H a))(hs:Heap.SameBut a s.heap h')(he:∃q,h'.get? a=some q)(new:ObjOk X.prog X.w (upd H a ob) h' a ob) :
  Inv X pins σ (upd H a ob) { s with heap:=h',toks:=t' } :=
 I.write (x:=a) (e:=a) mu (.inl rfl) (fun b q hb z=>(hs.2 b hb).trans z) he new
theorem ya{P:Program}{w:World}{H':Hp}{h':Heap}{kvs:List (Key × V)}{vs:List (Key × Value)}(z:kvs.length≤sizeLine)(hd:(a == sysModules)=false)(rel:KV kvs vs)(dd:h'.DictOf (aT P w) a vs) :
  ObjOk P w H' h' a (.dK kvs):=⟨z,hd,vs,rel,dd⟩
theorem pG{H':Hp}{Q:Unit->Shared->Prop}(hu:A.units + 1 < cLine)(I:Inv X pins σ H s)(g:DPut H a y v H')(ry:RelV y u)(rv:RelV v r)(h:∀s',Inv X pins σ H' s'->Q () s') :
  wpAny (model X.prog X.w) A (setItem (.ref a) u r) Q E s:=by
 rcases g with ⟨kvs,k,e,ey,l,eH⟩ | ⟨kvs,k,b,e,ey,eb,l,eH⟩
 ·subst ey eH
  obtain⟨z,hd,vs,rel,dd⟩:=Aq I.hok e
  have hz:vs.length≤sizeLine:=by rw[<- rel.length];exact z
  have hl:(putK kvs k v).length≤sizeLine:=by have:=gi kvs k v;omega
  refine wpAny_setItem_pairs (hsz:=hz) (qK ry) dd fun h' dd' hs=>h _ ?_
  have he:∃q,h'.get? a=some q:=let ⟨q,_,_,hq,_⟩:=dd';⟨q,hq⟩
  exact mU I (by rw[e];exact True.intro) hs he (ya hl hd (rel.put k rv) dd')
 ·subst ey eH
  cases (show u=Value.ref b from ry)
  obtain⟨z,hd,xs,rel,dd⟩:=Ar I.hok e
  have hz:xs.length≤sizeLine:=by rw[<- Paired.length rel];exact z
  have hl:(putK kvs k v).length≤sizeLine:=by have:=gi kvs k v;omega
  refine wpAny_setItem_heap (hsz:=hz) (tupleKind_room_in1 hu) (lL I.hok eb) dd fun h' dd' hs=>h _ ?_
  obtain⟨q,es,ep,hq,h2,h3,h4,_,h5⟩:=dd'
  refine mU I (by rw[e];exact True.intro) hs ⟨q,hq⟩ ⟨hl,hd,_,(rel.put k eb rv).keeps fun c ys ec=>?_,q,es,ep,hq,h2,h3,h4,h5⟩
  rw[upd_ne (zQ ec e (fun z=>nomatch z))]
  exact ec
end
def NoSl(i:Expr):Prop:=∀ov iv,subscripted i false ov iv=operate [ov,iv] (getItem ov iv)
theorem subD_of{prog:Program}{w:World}{A:Around}{E:Value->Shared->Prop}{s:Shared}{env:Env}{value slice:Expr}{pos:Pos}{T id:String}{Q:Value->Shared->Prop}
  (hl:typeLookup (.type T) "__getitem__"=pure (some (.builtin id))) (hs:NoSl slice)
  (h:wpAny (model prog w) A (eval value env) (fun o s₁=>wpAny (model prog w) A (eval slice env) (fun i s₂=>s₂.TypeIs o T/\wpAny (model prog w) A (getItem o i) Q E s₂) E s₁) E s) :
  wpAny (model prog w) A (eval (.Subscript value slice pos) env) Q E s:=by
 refine Subscript_ (wpAny_mono h (fun o s₁ h₁=>wpAny_mono h₁ (fun i s₂ h₂=>?_) fun _ _ x=>x) fun _ _ x=>x)
 obtain⟨hT,h₂⟩:=h₂
 unfold subscriptTail
 refine wpAny_bind ?_
 rw[getitemInPython_of_ne hT.not_modules]
 refine wpAny_bind (wpAny_specialOf hT hl ?_)
 have fin:wpAny (model prog w) A (subscripted slice false o i) (fun r s₃=>wpAny (model prog w) A (letTemporaryGo value o r >>= fun _=>pure r) Q E s₃) E s₂:=by
  rw[hs o i]
  exact wpAny_operating (wpAny_mono h₂ (fun r s₃ h₃=>wpAny_bind (wpAny_letTemporaryGo (wpAny_pure h₃))) fun _ _ x=>x)
 first
  | exact wpAny_pure (wpAny_bind fin)
  | exact wpAny_bind (wpAny_pure (wpAny_bind fin))
  | exact wpAny_bind fin
theorem kr{X:Cx}{pins:List (Addr × Obj)}{σ:St}{H:Hp}{s:Shared}{a:Addr}{y:V}{o:Option V}(I:Inv X pins σ H s)(g:DGet H a y o):s.TypeIs (.ref a) "dict":=by
 rcases g with ⟨kvs,k,e,_,_⟩ | ⟨kvs,k,b,e,_,_,_⟩
 ·obtain⟨_,_,vs,_,dd⟩:=qL I.hok e
  exact dd.typeIs
 ·obtain⟨_,_,xs,_,dd⟩:=qM I.hok e
  exact dd.typeIs
def As(td ty:TE):TE:=fun σ H Q=>td σ H fun x H1=>ty σ H1 fun y H2=>∃a v,x=.ref a/\DGet H2 a y (some v)/\Q v H2
def Au(td ty tv:TE):TS:=fun D σ H=>tv σ H fun v H1=>td σ H1 fun x H2=>ty σ H2 fun y H3=>∃a H4,x=.ref a/\DPut H3 a y v H4/\D.nx σ H4
section
variable{X:Cx}{o i e value:Expr}{pos pos' tpos:Pos}{td ty tv:TE}
theorem uB(hu:X.A.units + 1 < cLine)(ho:PE X o td)(hi:PE X i ty)(hs:NoSl i):PE X (.Subscript o i pos) (As td ty):=by
 intro pins s σ H Q I h
 refine subD_of PySem.F.slot_dict_getitem.lookup hs (thn (ho pins s σ H _ I h) fun u s1 ⟨x,H1,I1,rx,q1⟩=>thn (hi pins s1 σ H1 _ I1 q1) fun iv s2 hZ=>?_)
 obtain⟨y,H2,I2,ry,a,v,ex,g,q2⟩:=hZ
 subst ex
 obtain rfl:u=Value.ref a:=rx
 exact⟨kr I2 g,pF hu I2 g ry fun w' s3 I3 rw'=>⟨v,H2,I3,rw',q2⟩⟩
theorem mV(hu:X.A.units + 1 < cLine)(ho:PE X o td)(hi:PE X i ty)(hv:PE X value tv)(hs:swapsWith value (some (.Subscript o i pos')) pos.line X.env=pure false) :
  PS X (.Assign [.Subscript o i pos'] value pos) (Au td ty tv):=by
 intro pins s σ H D I h
 refine wpAny_Assign_Subscript (thn (hv pins s σ H _ I h) fun r s1 ⟨v,H1,I1,rv,q1⟩=>thn (ho pins s1 σ H1 _ I1 q1) fun u s2 ⟨x,H2,I2,rx,q2⟩=>thn (hi pins s2 σ H2 _ I2 q2) fun iv s3 hZ=>?_) hs
 obtain⟨y,H3,I3,ry,a,H4,ex,g,q3⟩:=hZ
 subst ex
 obtain rfl:u=Value.ref a:=rx
 exact pG hu I3 g ry rv fun s4 I4=>⟨σ,H4,I4,q3⟩
end
theorem qN{P:Program}{w:World}{H:Hp}(h:Heap)(hb:sysModules < h.objs.size):ObjOk P w H (h.push { cls:=.type "dict",data:=.dict #[] }) h.objs.size (.dK []) :=
 ⟨Nat.zero_le _,beq_eq_false_iff_ne.mpr (Ne.symm (Nat.ne_of_lt hb)),[],.nil,Heap.DictOf.new h⟩
def tDNewK:TE:=fun _ H Q=>∀p,H p=none->Q (.ref p) (upd H p (.dK []))
section
variable{X:Cx}{pos:Pos}
theorem qO:PE X (.Dict [] [] pos) tDNewK:=fun pins s σ H Q I h =>
 wpAny_Dict_empty ⟨.ref s.heap.objs.size,_,I.laid (a:=s.heap.objs.size) (o:=.dK []) (t':=s.toks) (fun _ _ q=>Heap.get?_push_of_some _ q) (Nat.le_refl _) (qN s.heap I.big),rfl,h _ (I.hok.fresh (Nat.le_refl _))⟩
end
end
end L2
namespace L2
open PySem PySem.Spec PyProof.Rows
section
def Dl(K:PySem.W.Frag)(l:Addr):It :=
 ⟨fun i H=>∃xs x,SqL K H l xs/\xs[i]?=some x,
  fun i H v H'=>∃T x,(∀xs,SqL K H l xs->xs[i]?=some x)/\H T=none/\v=.ref T/\H'=upd H T (.tup [.int i,x]),
  fun i H=>∃xs,SqL K H l xs/\xs.length≤i⟩
theorem pH{P:Program}{w:World}{K:PySem.W.Frag}{es:List Expr}{x1}{pos:Pos}(l e it:Addr)(hne:e≠it) :
  Turn P w K (.Tuple es x1 pos) (Dl K l) [e,it] e (fun i h=>(∃old,IsEnum h e it (i:Int) old)/\h.IsListIter it l i) where
 mem:=by simp
 obj:=fun i h ⟨⟨old,h1⟩,h2⟩ c hc=>by
  simp only[List.mem_cons,List.not_mem_nil,or_false]at hc
  rcases hc with rfl | rfl
  ·exact⟨_,h1,fun v z=>by cases z⟩
  ·obtain⟨o,e,c,d⟩:=h2;exact⟨o,e,fun v z=>by rw[d]at z;cases z⟩
 keep:=fun i h h' ⟨⟨old,h1⟩,h2⟩ k=>⟨⟨old,k e (by simp) _ h1⟩,h2.at fun o e=>k it (by simp) o e⟩
 item:=by
  intro X hP hw hK hc i pins s σ H E I hf ⟨⟨old,h1⟩,h2⟩ hg
  subst hP hw hK
  obtain⟨xs,x,hq,hx⟩:=hg
  obtain⟨its,rv,p,hz⟩:=I.list hq
  obtain⟨u,hu,ru⟩:=rv.get hx
  have le:e < s.heap.objs.size:=Heap.lt_size h1
  have li:it < s.heap.objs.size:=by obtain⟨o,e',_⟩:=id h2;exact Heap.lt_size e'
  refine wpAny_pyNext_enum_item h1 h2 p.isList (x:=u) (by simpa using hu) hne fun h' he' hit' hT hsz hk=>?_
  refine⟨.ref s.heap.objs.size,rfl,?_⟩
  refine wpAny_letOwnedTupleGo_enum he' fun h'' he'' hs''=>?_
  have hs'':Heap.SameBut e h' h'':=hs''
  have k1:∀c o,c ∉ ([e,it]:List Addr)->s.heap.get? c=some o->h''.get? c=some o:=fun c o hc q=>by
   simp only[List.mem_cons,List.not_mem_nil,or_false,not_or]at hc
   exact hs''.extBut _ _ hc.1 (hk c o hc.1 hc.2 q)
  have hn:H s.heap.objs.size=none:=I.hok.fresh (Nat.le_refl _)
  have I1:Inv X pins σ H { s with heap:=h'',toks:=s.toks + 1 }:=I.turnedL k1 hf
  have hT'':IsPair h'' s.heap.objs.size (.int i s.toks) u:=hs''.extBut _ _ (Nat.ne_of_gt le) hT
  have I2:Inv X pins σ (upd H s.heap.objs.size (.tup [.int i,x])) { s with heap:=h'',toks:=s.toks + 1 }:=by
   refine I.step (g':=s.gens) (d':=s.drawn) (ch:=[e,it]) (fun b hb=>?_) (fun b o _ _ hc e _=>k1 b o hc e) (fun b o _ _ hc e _=>⟨o.slots,k1 b o hc e⟩) (fun b o hc e n=>?_)
    (fun b o hc e=>⟨o,k1 b o hc e⟩) (fun b ys e=>?_) (fun b o u e=>?_) (fun b ps e=>⟨#[],?_⟩) (fun m hm=>?_) (fun b o e=>?_) I.bare
   ·obtain⟨f0,f1,f2,f3,f4,f5⟩:=hf b hb
    exact⟨f3,f1,f4,f5⟩
   ·rw[upd_ne (Nat.ne_of_lt (Heap.lt_size e))];exact n
   ·rw[upd_ne (ak e hn)];exact e
   ·rw[upd_ne (ak e hn)];exact e
   ·rw[upd_ne (ak e hn),e];simp
   ·obtain⟨o,es',ep,ho,r⟩:=hm
    exact⟨o,es',ep,k1 _ o (fun z=>(hf _ z).2.1 rfl) ho,r⟩
   ·by_cases hb:b=s.heap.objs.size
    ·subst hb
     rw[aj]at e
     cases e
     exact⟨(by show 2≤sizeLine;decide),[.int i s.toks,u],.cons ⟨_,rfl⟩ (.cons ru .nil),⟨_,hT'',rfl,_,rfl⟩⟩
    ·rw[upd_ne hb]at e
     refine (I1.hok b o e).stay (fun c v hc q=>q) (fun c q=>by rw[upd_ne (ak q hn)];exact q) fun c ys q=>by rw[upd_ne (ak q hn)];exact q
  refine⟨.ref s.heap.objs.size,_,I2,rfl,⟨_,x,fun ys hy=>by rw[I.list_inj hy hq];exact hx,hn,rfl,rfl⟩,⟨⟨u,by simpa using he''⟩,hit'.at fun o q=>hs''.extBut _ _ (Ne.symm hne) q⟩,fun c hc=>?_⟩
  simp only[List.mem_cons,List.not_mem_nil,or_false]at hc
  rcases hc with rfl | rfl
  ·rw[upd_ne (Nat.ne_of_lt le)];exact (hf _ (by simp)).1
  ·rw[upd_ne (Nat.ne_of_lt li)];exact (hf _ (by simp)).1
 done:=by
  intro X hP hw hK hc i pins s σ H E I hf ⟨⟨old,h1⟩,h2⟩ hg
  subst hP hw hK
  obtain⟨xs,hq,hx⟩:=hg
  obtain⟨its,rv,p,hz⟩:=I.list hq
  have hl:=rv.length
  refine wpAny_pyNext_enum_end (I.ok.hd hc) h1 h2 p.isList (by simp;omega) fun h' eb=>⟨rfl,I.turnedL (t':=s.toks) (fun c o hc q=>?_) hf⟩
  simp only[List.mem_cons,List.not_mem_nil,or_false,not_or]at hc
  exact eb c o hc.2 q
 self:=fun _ _ _ _ _ ⟨⟨old,h1⟩,_⟩ h=>wpAny_pyIter_enum h1 h
theorem pI:bootBuiltins "enumerate"=some (.type "enumerate"):=by decide +kernel
section
variable{X:Cx}
def Av(K:PySem.W.Frag)(ta:TA):TI:=fun σ H R=>ta σ H fun vs H1=>∃l xs,vs=[.ref l]/\SqL K H1 l xs/\R (Dl K l) H1
theorem uC {es:List Expr} {x1} {tpos:Pos} {a:Expr} {ta:TA} {p pos:Pos} (hg:Gl X "enumerate") (hm:X.mg "enumerate"=none) (ha:PA X [a] ta) (hs:starEach [a] X.env=[(false,eval a X.env)]:=by rfl) :
  PI X (.Tuple es x1 tpos) (.Call (.Name "enumerate" p) [a] [] pos) (Av X.K ta):=by
 intro pins s σ H R I h
 refine Call_ (fG I hg hm pI (PyProof.Rows.callWith_type1 (thn (ha pos pins s σ H _ I h) fun us s1 hZ=>?_) hs rfl))
 obtain⟨vs,H1,I1,r1,q1⟩:=hZ
 obtain⟨l,xs,e,ok,q⟩:=q1
 subst e
 cases r1 with
 | cons r rr =>
  cases rr
  cases r
  obtain⟨its,rv,pl,hz⟩:=I1.list ok
  refine call_enumerate_list pl.isList fun h' he hit hsz kp=>?_
  refine wpAny_pyIter_enum he ?_
  have I5:Inv X pins σ H1 { s1 with heap:=h' }:=I1.kept (t':=s1.toks) kp
  refine⟨s1.heap.objs.size + 1,[s1.heap.objs.size + 1,s1.heap.objs.size],_,_,H1,rfl,I5,pH l _ _ (by show (_:Nat)≠_;omega),⟨⟨_,he⟩,hit⟩,fun b hb=>?_,q⟩
  have hb':s1.heap.objs.size≤b:=by
   simp only[List.mem_cons,List.not_mem_nil,or_false]at hb
   rcases hb with rfl | rfl
   ·show s1.heap.objs.size≤s1.heap.objs.size + 1;omega
   ·exact Nat.le_refl _
  exact I1.fpOk hb' (I1.hok.fresh hb')
end
end
section
section
variable{X:Cx}{o i e:Expr}{pos:Pos}{ti:TE}{c:Addr}{kvs:List (Str × Str)}
def Dm(K:PySem.W.Frag)(n:Nat)(t:TGs):TG:=fun v σ H Q=>∃a xs,v=.ref a/\SqL K H a xs/\xs.length=n/\t xs σ H Q
theorem yb{es:List Expr}{k:Nat}{t:TGs}{n:Nat}(hc:X.calm=true)(h:zH X es t)
  (hn:(assignEach es X.env).length=n:=by rfl) (hst:(assignEach es X.env).findIdx? (·.1)=none:=by rfl):PG X (.Tuple es k pos) (Dm X.K n t):=by
 intro pins s σ H v u Q I r hw
 obtain⟨a,xs,e1,hq,hl,hw⟩:=hw
 subst e1
 cases r
 obtain⟨its,rv,⟨ob,nn,h1,h2,_,h3⟩,hz⟩:=I.list hq
 have il:s.heap.IsList a its.toArray:=⟨ob,h1,h2,nn,h3⟩
 rw[assign_Tuple]
 refine wpAny_bind (wpAny_standAt ?_)
 unfold unpack
 rw[show (assignEach es X.env).length=its.toArray.size by simp[hn,<- hl,rv.length],hst]
 refine wpAny_bind (wpAny_holding (PySem.W.kun_itemsOf (I.ok.hd hc) il fun h' hx=>?_))
 have I1:Inv X pins σ H { s with heap:=h' }:=I.kept (t':=s.toks) fun b o e=>hx b o (Nat.ne_of_lt (Heap.lt_size e)) e
 exact h pins _ σ H xs _ Q I1 (by simpa using rv) hw
end
end
end L2
set_option genInjectivity false
namespace L2
open PySem PySem.Spec PyProof.Rows
section
structure Kp (S:Addr->Prop)(H H':Hp):Prop where
 k:∀b o,H b=some o->¬ S b->H' b=some o
 n:∀b,H' b=none->H b=none
section
variable{S T S':Addr->Prop}{H H1 H' H2:Hp}{p:Addr}{o:HO}
theorem Kp.refl(S:Addr->Prop)(H:Hp):Kp S H H:=⟨fun _ _ h _=>h,fun _ h=>h⟩
theorem Kp.trans(a:Kp S H H1)(b:Kp S H1 H2):Kp S H H2:=⟨fun c o h n=>b.k c o (a.k c o h n) n,fun c h=>a.n c (b.n c h)⟩
theorem Kp.weak(a:Kp S H H')(h:∀b,S b->T b\/H b=none):Kp T H H':=⟨fun b o e n=>a.k b o e fun z=>(h b z).elim n fun q=>(by rw[q]at e;cases e),a.n⟩
theorem Kp.put(hp:S p\/H p=none):Kp S H (upd H p o):=by
 refine⟨fun b u h n=>?_,fun b h=>?_⟩
 ·have ne:b≠p:=fun e=>by
   subst e
   rcases hp with hp | hp
   ·exact n hp
   ·rw[hp]at h;cases h
  rw[upd_ne ne];exact h
 ·by_cases e:b=p
  ·subst e;rw[aj]at h;cases h
  ·rw[upd_ne e]at h;exact h
theorem Kp.keep(a:Kp (fun _=>False) H H'):Keep [] H H':=fun b o h _=>a.k b o h (fun z=>z)
def Bx(S:Addr->Prop)(F:Hp->Prop)(H:Hp):Prop:=∀H',Kp S H H'->F H'
theorem Bx.now{F:Hp->Prop}(h:Bx S F H):F H:=h H (Kp.refl _ _)
theorem Bx.step{F:Hp->Prop}(h:Bx S F H)(k:Kp S H H')(n:∀b,S' b->S b\/H b=none):Bx S' F H':=fun H2 k' =>
 h H2 ⟨fun b o e ns=>k'.k b o (k.k b o e ns) fun z=>(n b z).elim ns fun q=>(by rw[q]at e;cases e),fun b e=>k.n b (k'.n b e)⟩
end
mutual
inductive Fz (K:PySem.W.Frag)(S:Addr->Prop)(H:Hp):V->PyData->Prop
 | non:Fz K S H .non .none
 | bl (b:Bool):Fz K S H (.bl b) (.bool b)
 | int (i:Int):Fz K S H (.int i) (.int i)
 | str (x:Str):Fz K S H (.str x) (.str x)
 | lst {a xs ds}:Bx S (fun H=>SqL K H a xs) H->FzA K S H xs ds->Fz K S H (.ref a) (.list ds)
 | tup {a xs ds}:Bx S (fun H=>SqT K H a xs) H->FzA K S H xs ds->Fz K S H (.ref a) (.tuple ds)
inductive FzA (K:PySem.W.Frag)(S:Addr->Prop)(H:Hp):List V->List PyData->Prop
 | nil:FzA K S H [] []
 | cons {x d xs ds}:Fz K S H x d->FzA K S H xs ds->FzA K S H (x::xs) (d::ds)
end
section
variable{K:PySem.W.Frag}{S T S':Addr->Prop}{H H1 H' H2:Hp}
theorem Fz.ind{P:V->PyData->Prop}{Q:List V->List PyData->Prop}(non:P .non .none)(bl:∀b,P (.bl b) (.bool b))(int:∀i,P (.int i) (.int i))(str:∀x,P (.str x) (.str x))
  (lst:∀{a xs ds},Bx S (fun H=>SqL K H a xs) H->Q xs ds->P (.ref a) (.list ds)) (tup:∀{a xs ds},Bx S (fun H=>SqT K H a xs) H->Q xs ds->P (.ref a) (.tuple ds)) (nil:Q [] []) (cons:∀{x d xs ds},P x d->Q xs ds->Q (x::xs) (d::ds)) :
  (∀{v d},Fz K S H v d->P v d)/\∀{vs ds},FzA K S H vs ds->Q vs ds :=
 ⟨fun h=>Fz.rec (motive_1:=fun v d _=>P v d) (motive_2:=fun vs ds _=>Q vs ds) non bl int str (fun h _ i=>lst h i) (fun h _ i=>tup h i) nil (fun _ _ i j=>cons i j) h,
  fun h=>FzA.rec (motive_1:=fun v d _=>P v d) (motive_2:=fun vs ds _=>Q vs ds) non bl int str (fun h _ i=>lst h i) (fun h _ i=>tup h i) nil (fun _ _ i j=>cons i j) h⟩
theorem Fz.step_(k:Kp S H H')(n:∀b,S' b->S b\/H b=none):(∀{v:V} {d:PyData},Fz K S H v d->Fz K S' H' v d)/\∀{vs:List V} {ds:List PyData},FzA K S H vs ds->FzA K S' H' vs ds :=
 Fz.ind .non .bl .int .str (fun h t=>.lst (h.step k n) t) (fun h t=>.tup (h.step k n) t) .nil (fun r t=>.cons r t)
theorem Fz.step(k:Kp S H H')(n:∀b,S' b->S b\/H b=none){v:V}{d:PyData}(h:Fz K S H v d):Fz K S' H' v d:=(Fz.step_ k n).1 h
theorem FzA.step(k:Kp S H H')(n:∀b,S' b->S b\/H b=none){vs:List V}{ds:List PyData}(h:FzA K S H vs ds):FzA K S' H' vs ds:=(Fz.step_ k n).2 h
theorem Fz.dt_:(∀{v:V} {d:PyData},Fz K S H v d->Dt K H v d)/\∀{vs:List V} {ds:List PyData},FzA K S H vs ds->DtAll K H vs ds :=
 Fz.ind .non .bl .int .str (fun h t=>.lst h.now t) (fun h t=>.tup h.now t) .nil (fun r t=>.cons r t)
theorem Fz.dt{v:V}{d:PyData}(h:Fz K S H v d):Dt K H v d:=Fz.dt_.1 h
theorem Fz.of0{v:V}{d:PyData}(h:Dt K H v d):Fz K (fun _=>False) H v d :=
 Dt.rec (motive_1:=fun v d _=>Fz K (fun _=>False) H v d) (motive_2:=fun vs ds _=>FzA K (fun _=>False) H vs ds) .non .bl .int .str (fun h _ t=>.lst (fun H' k=>k.keep.same.seq h) t) (fun h _ t=>.tup (fun H' k=>k.keep.same.tupS h) t) .nil (fun _ _ r t=>.cons r t) h
theorem FzA.of0:∀{vs:List V} {ds:List PyData},DtAll K H vs ds->FzA K (fun _=>False) H vs ds:=by
 intro vs
 induction vs with
 | nil=>intro ds h;cases h;exact .nil
 | cons v vs ih=>intro ds h;cases h with | cons r t=>exact .cons (Fz.of0 r) (ih t)
theorem Fz.sub(h:∀b,S' b->S b){v:V}{d:PyData}(f:Fz K S H v d):Fz K S' H v d:=f.step (Kp.refl _ _) fun b z=>.inl (h b z)
theorem FzA.sub(h:∀b,S' b->S b){v:List V}{d:List PyData}(f:FzA K S H v d):FzA K S' H v d:=f.step (Kp.refl _ _) fun b z=>.inl (h b z)
theorem FzA.length{vs:List V}{ds:List PyData}(h:FzA K S H vs ds):vs.length=ds.length:=by
 induction vs generalizing ds with
 | nil=>cases h;rfl
 | cons v vs ih=>cases h with | cons _ t=>rw[List.length_cons,List.length_cons,ih t]
theorem FzA.ints:∀(ns:List Int),FzA K S H (ns.map V.int) (ns.map PyData.int)
 | []=>.nil
 | n::ns=>.cons (.int n) (FzA.ints ns)
theorem Fz.list_inv{v:V}{ds:List PyData}(h:Fz K S H v (.list ds)):∃a xs,v=.ref a/\Bx S (fun H=>SqL K H a xs) H/\FzA K S H xs ds:=by
 cases h with | lst h t=>exact⟨_,_,rfl,h,t⟩
theorem Fz.tup_inv{v:V}{ds:List PyData}(h:Fz K S H v (.tuple ds)):∃a xs,v=.ref a/\Bx S (fun H=>SqT K H a xs) H/\FzA K S H xs ds:=by
 cases h with | tup h t=>exact⟨_,_,rfl,h,t⟩
theorem yc{a:Addr}{xs:List V}(h:H a=some (.lst xs))(n:¬ S a):Bx S (fun H=>SqL K H a xs) H:=fun _ k=>SqL.of (k.k _ _ h n)
theorem qP{a:Addr}{xs:List V}(h:H a=some (.tup xs))(n:¬ S a):Bx S (fun H=>SqT K H a xs) H:=fun _ k=>SqT.of (k.k _ _ h n)
end
inductive OD where
 | fz (d:PyData) | lst (xs:List OD) | tup (xs:List OD) | dic (ks:List Key) (xs:List OD) | obj (c:Str) (ns:List Str) (xs:List OD) | pin (l:Bool) (xs:List V) (ds:List PyData) | hole (v:V)
mutual
def OD.dat:OD->Option PyData
 | .fz d=>some d
 | .lst xs=>match OD.dats xs with | some ds=>some (.list ds) | none=>none
 | .tup xs=>match OD.dats xs with | some ds=>some (.tuple ds) | none=>none
 | .dic _ _=>none
 | .obj _ _ _=>none
 | .pin l _ ds=>some (if l then .list ds else .tuple ds)
 | .hole _=>none
def OD.dats:List OD->Option (List PyData)
 | []=>some []
 | x::xs=>match x.dat with
  | some d=>match OD.dats xs with | some ds=>some (d::ds) | none=>none
  | none=>none
end
def aq(K:PySem.W.Frag)(c:Str):Addr:=match PySem.W.nsIn K mainGlobals c with | some (some (.ref C))=>C | _=>0
structure Bs where
 K:PySem.W.Frag
 H0:Hp
 S0:Addr->Prop
 C:Addr->Prop
mutual
inductive Ow (b:Bs)(S:Addr->Prop)(H:Hp):V->OD->List Addr->Prop
 | fz {v d}:Fz b.K S H v d->Ow b S H v (.fz d) []
 | lst {a vs xs A}:H a=some (.lst vs)->Ows b S H vs xs A->Ow b S H (.ref a) (.lst xs) (a::A)
 | tup {a vs xs A}:H a=some (.tup vs)->Ows b S H vs xs A->Ow b S H (.ref a) (.tup xs) A
 | dic {a ws ks vs xs A}:H a=some (.dK ws)->ws.map (·.1)=ks->ws.map (·.2)=vs->Ows b S H vs xs A->Ow b S H (.ref a) (.dic ks xs) (a::A)
 | obj {a dx c fs ns vs xs A}:H a=some (.ins (aq b.K c) dx fs)->H dx=some (.own a)->fs.map (·.1)=ns->fs.map (·.2)=vs->Ows b S H vs xs A->Ow b S H (.ref a) (.obj c ns xs) (a::dx::A)
 | pinL {a xs ds}:Bx S (fun H=>SqL b.K H a xs) H->FzA b.K S H xs ds->Ow b S H (.ref a) (.pin true xs ds) []
 | pinT {a xs ds}:Bx S (fun H=>SqT b.K H a xs) H->FzA b.K S H xs ds->Ow b S H (.ref a) (.pin false xs ds) []
 | hole {v u}:v=u->Ow b S H v (.hole u) []
inductive Ows (b:Bs)(S:Addr->Prop)(H:Hp):List V->List OD->List Addr->Prop
 | nil:Ows b S H [] [] []
 | cons {v x A vs xs B}:Ow b S H v x A->Ows b S H vs xs B->Ows b S H (v::vs) (x::xs) (A++B)
end
abbrev OwL(b:Bs)(S:Addr->Prop)(H:Hp)(L:List (V × OD))(A:List Addr):Prop:=Ows b S H (L.map (·.1)) (L.map (·.2)) A
def MutO:HO->Prop
 | .lst _=>True | .dK _=>True | .ins _ _ _=>True | .own _=>True
 | _=>False
section
variable{b:Bs}{S T S':Addr->Prop}{H H1 H' H2:Hp}
theorem Ows.len{vs:List V}{xs:List OD}{A:List Addr}(h:Ows b S H vs xs A):vs.length=xs.length:=by
 induction vs generalizing xs A with
 | nil=>cases h;rfl
 | cons v vs ih=>cases h with | cons _ t=>rw[List.length_cons,List.length_cons,ih t]
theorem Ow.ind{P:V->OD->List Addr->Prop}{Q:List V->List OD->List Addr->Prop}(fz:∀{v d},Fz b.K S H v d->P v (.fz d) [])(lst:∀{a vs xs A},H a=some (.lst vs)->Q vs xs A->P (.ref a) (.lst xs) (a::A))(tup:∀{a vs xs A},H a=some (.tup vs)->Q vs xs A->P (.ref a) (.tup xs) A)
  (dic:∀{a ws ks vs xs A},H a=some (.dK ws)->ws.map (·.1)=ks->ws.map (·.2)=vs->Q vs xs A->P (.ref a) (.dic ks xs) (a::A)) (obj:∀{a dx c fs ns vs xs A},H a=some (.ins (aq b.K c) dx fs)->H dx=some (.own a)->fs.map (·.1)=ns->fs.map (·.2)=vs->Q vs xs A->P (.ref a) (.obj c ns xs) (a::dx::A))
  (pinL:∀{a xs ds},Bx S (fun H=>SqL b.K H a xs) H->FzA b.K S H xs ds->P (.ref a) (.pin true xs ds) []) (pinT:∀{a xs ds},Bx S (fun H=>SqT b.K H a xs) H->FzA b.K S H xs ds->P (.ref a) (.pin false xs ds) []) (hole:∀{v u},v=u->P v (.hole u) [])
  (nil:Q [] [] []) (cons:∀{v x A vs xs B},P v x A->Q vs xs B->Q (v::vs) (x::xs) (A++B)):(∀{v x A},Ow b S H v x A->P v x A)/\∀{vs xs A},Ows b S H vs xs A->Q vs xs A :=
 ⟨fun h=>Ow.rec (motive_1:=fun v x A _=>P v x A) (motive_2:=fun vs xs A _=>Q vs xs A) fz (fun e _ i=>lst e i) (fun e _ i=>tup e i) (fun e h1 h2 _ i=>dic e h1 h2 i) (fun e e2 h1 h2 _ i=>obj e e2 h1 h2 i) pinL pinT hole nil (fun _ _ i j=>cons i j) h,
  fun h=>Ows.rec (motive_1:=fun v x A _=>P v x A) (motive_2:=fun vs xs A _=>Q vs xs A) fz (fun e _ i=>lst e i) (fun e _ i=>tup e i) (fun e h1 h2 _ i=>dic e h1 h2 i) (fun e e2 h1 h2 _ i=>obj e e2 h1 h2 i) pinL pinT hole nil (fun _ _ i j=>cons i j) h⟩
theorem mW{P:Addr->Prop}{a:Addr}{A:List Addr}(h:P a)(t:∀c∈A,P c):∀c∈a::A,P c:=fun c hc=>(List.mem_cons.mp hc).elim (fun e=>e ▸ h) (t c)
theorem Ow.mu_:(∀{v:V} {x:OD} {A:List Addr},Ow b S H v x A->∀a∈A,∃o,H a=some o/\MutO o)/\∀{vs:List V} {xs:List OD} {A:List Addr},Ows b S H vs xs A->∀a∈A,∃o,H a=some o/\MutO o :=
 Ow.ind (P:=fun _ _ A=>∀a∈A,∃o,H a=some o/\MutO o) (Q:=fun _ _ A=>∀a∈A,∃o,H a=some o/\MutO o) (fun _ _ h=>absurd h List.not_mem_nil) (fun e i=>mW ⟨_,e,trivial⟩ i) (fun _ i=>i) (fun e _ _ i=>mW ⟨_,e,trivial⟩ i) (fun e e2 _ _ i=>mW ⟨_,e,trivial⟩ (mW ⟨_,e2,trivial⟩ i)) (fun _ _ _ h=>absurd h List.not_mem_nil) (fun _ _ _ h=>absurd h List.not_mem_nil) (fun _ _ h=>absurd h List.not_mem_nil) (fun _ h=>absurd h List.not_mem_nil) (fun i j a h=>(List.mem_append.mp h).elim (i a) (j a))
theorem Ow.mu{v:V}{x:OD}{A:List Addr}(h:Ow b S H v x A):∀a∈A,∃o,H a=some o/\MutO o:=Ow.mu_.1 h
theorem Ows.mu{vs:List V}{xs:List OD}{A:List Addr}(h:Ows b S H vs xs A):∀a∈A,∃o,H a=some o/\MutO o:=Ow.mu_.2 h
theorem Ows.ne{vs:List V}{xs:List OD}{A:List Addr}(h:Ows b S H vs xs A):∀a∈A,H a≠none:=fun a ha e=>by
 obtain⟨o,q,_⟩:=h.mu a ha
 rw[q]at e;cases e
theorem Ows.tl{vs:List V}{xs:List OD}{A:List Addr}(h:Ows b S H vs xs A):∀a∈A,∀ys,H a≠some (.tup ys):=fun a ha ys e=>by
 obtain⟨o,q,m⟩:=h.mu a ha
 rw[q]at e;cases e;exact m
theorem Ow.step_{b2:Bs}(hK:b2.K=b.K)(k:Kp S H H')(n:∀b,S' b->S b\/H b=none)(hs:∀a xs,H a=some (.tup xs)->¬ S a):(∀{v:V} {x:OD} {A:List Addr},Ow b S H v x A->(∀a∈A,H' a=H a)->Ow b2 S' H' v x A)/\∀{vs:List V} {xs:List OD} {A:List Addr},Ows b S H vs xs A->(∀a∈A,H' a=H a)->Ows b2 S' H' vs xs A :=
 Ow.ind (P:=fun v x A=>(∀a∈A,H' a=H a)->Ow b2 S' H' v x A) (Q:=fun vs xs A=>(∀a∈A,H' a=H a)->Ows b2 S' H' vs xs A) (fun f _=>.fz (hK ▸ f.step k n)) (fun e i s=>.lst ((s _ List.mem_cons_self).trans e) (i fun a h=>s a (List.mem_cons_of_mem _ h))) (fun e i s=>.tup (k.k _ _ e (hs _ _ e)) (i s)) (fun e h1 h2 i s=>.dic ((s _ List.mem_cons_self).trans e) h1 h2 (i fun a h=>s a (List.mem_cons_of_mem _ h)))
  (fun e e2 h1 h2 i s=>.obj (hK ▸ (s _ List.mem_cons_self).trans e) ((s _ (List.mem_cons_of_mem _ List.mem_cons_self)).trans e2) h1 h2 (i fun a h=>s a (List.mem_cons_of_mem _ (List.mem_cons_of_mem _ h)))) (fun h t _=>.pinL (hK ▸ h.step k n) (hK ▸ t.step k n)) (fun h t _=>.pinT (hK ▸ h.step k n) (hK ▸ t.step k n)) (fun e _=>.hole e) (fun _=>.nil) (fun i j s=>.cons (i fun a h=>s a (List.mem_append_left _ h)) (j fun a h=>s a (List.mem_append_right _ h)))
theorem Ow.step(k:Kp S H H')(n:∀b,S' b->S b\/H b=none)(hs:∀a xs,H a=some (.tup xs)->¬ S a){v:V}{x:OD}{A:List Addr}(s:∀a∈A,H' a=H a)(h:Ow b S H v x A):Ow b S' H' v x A:=(Ow.step_ rfl k n hs).1 h s
theorem Ows.step(k:Kp S H H')(n:∀b,S' b->S b\/H b=none)(hs:∀a xs,H a=some (.tup xs)->¬ S a){vs:List V}{xs:List OD}{A:List Addr}(s:∀a∈A,H' a=H a)(h:Ows b S H vs xs A):Ows b S' H' vs xs A:=(Ow.step_ rfl k n hs).2 h s
theorem Ow.sub(hs:∀a xs,H a=some (.tup xs)->¬ S a)(n:∀c,S' c->S c){v:V}{x:OD}{A:List Addr}(h:Ow b S H v x A):Ow b S' H v x A:=h.step (Kp.refl _ _) (fun c z=>.inl (n c z)) hs (fun _ _=>rfl)
theorem Ows.sub(hs:∀a xs,H a=some (.tup xs)->¬ S a)(n:∀c,S' c->S c){v:List V}{x:List OD}{A:List Addr}(h:Ows b S H v x A):Ows b S' H v x A:=h.step (Kp.refl _ _) (fun c z=>.inl (n c z)) hs (fun _ _=>rfl)
theorem Ows.subB{b2:Bs}(hK:b2.K=b.K)(hs:∀a xs,H a=some (.tup xs)->¬ S a)(n:∀c,S' c->S c){v:List V}{x:List OD}{A:List Addr}(h:Ows b S H v x A):Ows b2 S' H v x A:=(Ow.step_ hK (Kp.refl _ _) (fun c z=>.inl (n c z)) hs).2 h fun _ _=>rfl
theorem uD{xs:List OD}{d:PyData}(h:(OD.lst xs).dat=some d):∃ds,OD.dats xs=some ds/\d=.list ds:=by
 rw[OD.dat]at h
 cases z:OD.dats xs with
 | none=>rw[z]at h;cases h
 | some ds=>rw[z]at h;cases h;exact⟨ds,rfl,rfl⟩
theorem uE{xs:List OD}{d:PyData}(h:(OD.tup xs).dat=some d):∃ds,OD.dats xs=some ds/\d=.tuple ds:=by
 rw[OD.dat]at h
 cases z:OD.dats xs with
 | none=>rw[z]at h;cases h
 | some ds=>rw[z]at h;cases h;exact⟨ds,rfl,rfl⟩
theorem pJ{x:OD}{xs:List OD}{es:List PyData}(h:OD.dats (x::xs)=some es):∃d ds,x.dat=some d/\OD.dats xs=some ds/\es=d::ds:=by
 rw[OD.dats]at h
 cases z:x.dat with
 | none=>rw[z]at h;cases h
 | some d =>
  cases z2:OD.dats xs with
  | none=>rw[z,z2]at h;cases h
  | some ds=>rw[z,z2]at h;cases h;exact⟨d,ds,rfl,rfl,rfl⟩
theorem Ow.frz_(hS:∀a,S' a->S a)(nt:∀a xs,H a=some (.tup xs)->¬ S a):(∀{v:V} {x:OD} {A:List Addr},Ow b S H v x A->∀d:PyData,(∀a∈A,¬ S' a)->x.dat=some d->Fz b.K S' H v d)/\∀{vs:List V} {xs:List OD} {A:List Addr},Ows b S H vs xs A->∀ds:List PyData,(∀a∈A,¬ S' a)->OD.dats xs=some ds->FzA b.K S' H vs ds:=by
 refine Ow.ind (P:=fun v x A=>∀d:PyData,(∀a∈A,¬ S' a)->x.dat=some d->Fz b.K S' H v d) (Q:=fun vs xs A=>∀ds:List PyData,(∀a∈A,¬ S' a)->OD.dats xs=some ds->FzA b.K S' H vs ds) ?_ ?_ ?_ (fun _ _ _ _ _ _ q=>?_) (fun _ _ _ _ _ _ _ q=>?_) ?_ ?_ (fun _ _ _ q=>?_) ?_ ?_
 ·intro v d f d' _ q;cases q;exact f.sub hS
 ·intro a vs xs A e i d hA q
  obtain⟨ds,z,rfl⟩:=uD q
  exact .lst (yc e (hA _ List.mem_cons_self)) (i ds (fun a h=>hA a (List.mem_cons_of_mem _ h)) z)
 ·intro a vs xs A e i d hA q
  obtain⟨ds,z,rfl⟩:=uE q
  exact .tup (qP e fun y=>nt _ _ e (hS _ y)) (i ds hA z)
 ·cases q
 ·cases q
 ·intro a xs ds h t d _ q;cases q;exact .lst (h.step (Kp.refl _ _) fun c z=>.inl (hS c z)) (t.sub hS)
 ·intro a xs ds h t d _ q;cases q;exact .tup (h.step (Kp.refl _ _) fun c z=>.inl (hS c z)) (t.sub hS)
 ·cases q
 ·intro ds _ q;cases q;exact .nil
 ·intro v x A vs xs B i j es hA q
  obtain⟨d,ds,z1,z2,rfl⟩:=pJ q
  exact .cons (i d (fun a h=>hA a (List.mem_append_left _ h)) z1) (j ds (fun a h=>hA a (List.mem_append_right _ h)) z2)
theorem Ow.frz(hS:∀a,S' a->S a)(nt:∀a xs,H a=some (.tup xs)->¬ S a){v:V}{x:OD}{A:List Addr}{d:PyData}(hA:∀a∈A,¬ S' a)(h:Ow b S H v x A)(q:x.dat=some d):Fz b.K S' H v d:=(Ow.frz_ hS nt).1 h d hA q
theorem Ows.append{vs us:List V}{xs ys:List OD}{A B:List Addr}(h:Ows b S H vs xs A)(h':Ows b S H us ys B):Ows b S H (vs++us) (xs++ys) (A++B):=by
 induction vs generalizing xs A with
 | nil=>cases h;exact h'
 | cons v vs ih=>cases h with | cons r t=>rw[List.append_assoc];exact .cons r (ih t)
theorem Ows.split{vs us:List V}{xs ys:List OD}{A:List Addr}(e:vs.length=xs.length)(h:Ows b S H (vs++us) (xs++ys) A):∃A1 A2,A=A1++A2/\Ows b S H vs xs A1/\Ows b S H us ys A2:=by
 induction vs generalizing xs A with
 | nil =>
  cases xs with
  | nil=>exact⟨[],A,rfl,.nil,h⟩
  | cons _ _=>cases e
 | cons v vs ih =>
  cases xs with
  | nil=>cases e
  | cons x xs =>
   cases h with
   | cons r t =>
    obtain⟨A1,A2,rfl,h1,h2⟩:=ih (Nat.succ.inj e) t
    exact⟨_,A2,(List.append_assoc ..).symm,.cons r h1,h2⟩
theorem OwL.split'{L1 L2:List (V × OD)}{A:List Addr}(h:OwL b S H (L1++L2) A):∃A1 A2,A=A1++A2/\OwL b S H L1 A1/\OwL b S H L2 A2:=by
 unfold OwL at h
 rw[List.map_append,List.map_append]at h
 exact Ows.split (by simp) h
theorem OwL.join'{L1 L2:List (V × OD)}{A1 A2:List Addr}(h1:OwL b S H L1 A1)(h2:OwL b S H L2 A2):OwL b S H (L1++L2) (A1++A2):=by
 unfold OwL
 rw[List.map_append,List.map_append]
 exact Ows.append h1 h2
theorem OwL.perm{L L':List (V × OD)}(p:L.Perm L'):∀{A:List Addr},OwL b S H L A->∃A',OwL b S H L' A'/\A.Perm A':=by
 induction p with
 | nil=>intro A h;exact⟨A,h,.refl _⟩
 | cons x _ ih =>
  intro A h
  cases h with
  | cons r t=>obtain⟨B,h2,q⟩:=ih t;exact⟨_,.cons r h2,q.append_left _⟩
 | swap x y l =>
  intro A h
  cases h with
  | cons r t =>
   cases t with
   | cons r' t' =>
    refine⟨_,.cons r' (.cons r t'),?_⟩
    rw[<- List.append_assoc,<- List.append_assoc]
    exact List.perm_append_comm.append_right _
 | trans _ _ ih1 ih2 =>
  intro A h
  obtain⟨B,h1,p1⟩:=ih1 h
  obtain⟨C,h2,p2⟩:=ih2 h1
  exact⟨C,h2,p1.trans p2⟩
theorem OwL.mem{L:List (V × OD)}:∀{A:List Addr},OwL b S H L A->∀{x:V × OD},x∈L->∃B,Ow b S H x.1 x.2 B:=by
 induction L with
 | nil=>intro A h x hx;cases hx
 | cons y L ih =>
  intro A h x hx
  cases h with
  | cons r t =>
   rcases List.mem_cons.mp hx with rfl | hx
   ·exact⟨_,r⟩
   ·exact ih t hx
theorem Ows.zip{vs:List V}{xs:List OD}{A:List Addr}{k:Nat}{x:OD}(h:Ows b S H vs xs A)(e:xs[k]?=some x):∃v A1 B A2,vs[k]?=some v/\A=A1++(B++A2)/\Ow b S H v x B /\
  ∀{S':Addr->Prop} {H':Hp} {u:V} {y:OD} {B':List Addr},Ow b S' H' u y B'->(∀{v:V} {x:OD} {C:List Addr},(∀a∈C,a∈A1\/a∈A2)->Ow b S H v x C->Ow b S' H' v x C)->Ows b S' H' (vs.set k u) (xs.set k y) (A1++(B'++A2)):=by
 induction vs generalizing xs A k with
 | nil=>cases h;cases k<;>cases e
 | cons v vs ih =>
  cases h with
  | @cons _ x0 A _ xs B r t =>
   cases k with
   | zero =>
    cases e
    refine⟨v,[],A,B,rfl,rfl,r,fun {S' H' u y B'} h g=>Ows.cons (A:=B') (B:=B) h ?_⟩
    have go:∀{vs:List V} {xs:List OD} {D:List Addr},(∀a∈D,a∈B)->Ows b S H vs xs D->Ows b S' H' vs xs D:=fun {vs xs D} s h=>by
     induction xs generalizing vs D with
     | nil=>cases h;exact .nil
     | cons x xs ih=>cases h with | cons r t=>exact .cons (g (fun a h=>.inr (s a (List.mem_append_left _ h))) r) (ih (fun a h=>s a (List.mem_append_right _ h)) t)
    exact go (fun a h=>h) t
   | succ k =>
    obtain⟨v',A1,B1,A2,h1,h2,h3,h4⟩:=ih (k:=k) t e
    subst h2
    refine⟨v',A++A1,B1,A2,h1,(List.append_assoc ..).symm,h3,fun h g=>?_⟩
    rw[List.set_cons_succ,List.set_cons_succ,List.append_assoc]
    exact .cons (g (fun a h=>.inl (List.mem_append_left _ h)) r) (h4 h fun s h=>g (fun a z=>(s a z).imp (List.mem_append_right _) id) h)
end
end
section
structure Wd (b:Bs)(H:Hp)(L:List (V × OD)):Prop where
 out:∃A,OwL b (fun a=>a∈A\/b.S0 a) H L A/\A.Nodup/\∀a∈A,b.H0 a=none\/b.C a
 fr:Kp b.C b.H0 H
 s0:∀a,b.S0 a->b.H0 a≠none/\¬ b.C a
 nt:∀a xs,H a=some (.tup xs)->¬ b.S0 a
section
variable{b:Bs}{H H1 H':Hp}{L L':List (V × OD)}{v u:V}{x y:OD}{d:PyData}{ds:List PyData}{p a:Addr}
theorem Wd.nt'(w:Wd b H L){A:List Addr}(h:OwL b (fun a=>a∈A\/b.S0 a) H L A):∀a xs,H a=some (.tup xs)->¬ (a∈A\/b.S0 a):=fun a xs e z=>z.elim (fun z=>Ows.tl h a z xs e) (w.nt a xs e)
theorem Wd.al(w:Wd b H L){A:List Addr}(h:OwL b (fun a=>a∈A\/b.S0 a) H L A){a:Addr}(e:H a=none):¬ (a∈A\/b.S0 a):=fun z=>z.elim (fun z=>Ows.ne h a z e) fun z=>(w.s0 a z).1 (w.fr.n a e)
theorem Wd.dj(w:Wd b H L){A:List Addr}(new:∀a∈A,b.H0 a=none\/b.C a):∀a∈A,¬ b.S0 a:=fun a ha z=>(new a ha).elim (w.s0 a z).1 (w.s0 a z).2
theorem Wd.perm(w:Wd b H L)(q:L.Perm L'):Wd b H L':=by
 obtain⟨A,h,nd,new⟩:=w.out
 obtain⟨A',h',pA⟩:=OwL.perm q h
 refine⟨⟨A',Ows.step (Kp.refl _ _) (fun c z=>.inl (z.imp (pA.mem_iff.mpr) id)) (w.nt' h) (fun _ _=>rfl) h',pA.nodup_iff.mp nd,fun a ha=>new a (pA.mem_iff.mpr ha)⟩,w.fr,w.s0,w.nt⟩
theorem Wd.drop(w:Wd b H ((v,x)::L)):Wd b H L:=by
 obtain⟨A,h,nd,new⟩:=w.out
 have nt:=w.nt' h
 cases h with
 | @cons _ _ A _ _ B r t =>
  exact⟨⟨B,Ows.step (Kp.refl _ _) (fun c z=>.inl (z.imp (List.mem_append_right _) id)) nt (fun _ _=>rfl) t,(List.nodup_append.mp nd).2.1,fun a ha=>new a (List.mem_append_right _ ha)⟩,w.fr,w.s0,w.nt⟩
theorem Wd.drops{L1 L2:List (V × OD)}(w:Wd b H (L1++L2)):Wd b H L2:=by
 induction L1 with
 | nil=>exact w
 | cons z L1 ih=>exact ih (Wd.drop (v:=z.1) (x:=z.2) w)
theorem Wd.puts{L1 L2:List (V × OD)}(w:Wd b H (L1++L))(h:∀(S:Addr->Prop) (A:List Addr),OwL b S H L1 A->A.Nodup->(∀a∈A,S a)->(∀a,H a=none->¬ S a)->(∀a xs,H a=some (.tup xs)->¬ S a) ->
  ∃A',OwL b (fun a=>(S a/\a ∉ A)\/a∈A') H L2 A'/\A'.Nodup/\∀a∈A',a∈A):Wd b H (L2++L):=by
 obtain⟨A0,h0,nd,new⟩:=w.out
 have nt:=w.nt' h0
 have al:=fun {a}=>w.al h0 (a:=a)
 have ds:=w.dj new
 obtain⟨A,B,rfl,r,t⟩:=OwL.split' h0
 obtain⟨nA,nB,dj⟩:=List.nodup_append.mp nd
 obtain⟨A',h1,n',s'⟩:=h _ A r nA (fun a z=>.inl (List.mem_append_left _ z)) (fun a e=>al e) nt
 have sub:∀c,(c∈A'++B\/b.S0 c)->(c∈A++B\/b.S0 c):=fun c z=>z.imp (fun z=>(List.mem_append.mp z).elim (fun z=>List.mem_append_left _ (s' c z)) (List.mem_append_right _)) id
 refine⟨⟨A'++B,OwL.join' (Ows.step (Kp.refl _ _) (fun c z=>.inl ?_) (fun a xs e z=>?_) (fun _ _=>rfl) h1) (Ows.step (Kp.refl _ _) (fun c z=>.inl (sub c z)) nt (fun _ _=>rfl) t),List.nodup_append.mpr ⟨n',nB,fun a ha c hc=>dj a (s' a ha) c hc⟩,fun a ha=>?_⟩,w.fr,w.s0,w.nt⟩
 ·by_cases hc:c∈A'
  ·exact .inr hc
  ·refine .inl ⟨sub c z,fun hA=>?_⟩
   rcases z with z | z
   ·rcases List.mem_append.mp z with z | z
    ·exact hc z
    ·exact dj c hA c z rfl
   ·exact ds c (List.mem_append_left _ hA) z
 ·rcases z with z | z
  ·exact nt a xs e z.1
  ·exact nt a xs e (.inl (List.mem_append_left _ (s' a z)))
 ·rcases List.mem_append.mp ha with z | z
  ·exact new a (List.mem_append_left _ (s' a z))
  ·exact new a (List.mem_append_right _ z)
theorem OwL.one{S:Addr->Prop}{A:List Addr}(h:OwL b S H [(v,x)] A):Ow b S H v x A:=by
 cases h with
 | cons r t=>cases t;rw[List.append_nil];exact r
theorem OwL.of1{S:Addr->Prop}{A:List Addr}(h:Ow b S H v x A):OwL b S H [(v,x)] A:=by
 have:=Ows.cons h (Ows.nil (b:=b) (S:=S) (H:=H))
 rw[List.append_nil]at this
 exact this
theorem Wd.frz(w:Wd b H ((v,x)::L))(e:x.dat=some d):Wd b H ((v,.fz d)::L):=by
 refine Wd.puts (L1:=[(v,x)]) (L2:=[(v,.fz d)]) w fun S A h nd hA al nt=>⟨[],OwL.of1 (.fz ?_),List.nodup_nil,fun a z=>by cases z⟩
 exact Ow.frz (fun a z=>z.elim (·.1) (fun z=>by cases z)) nt (fun a ha z=>z.elim (fun z=>z.2 ha) (fun z=>by cases z)) h.one e
theorem Wd.dt(w:Wd b H ((v,x)::L))(e:x.dat=some d):Dt b.K H v d:=by
 obtain⟨A,h0,nd,new⟩:=w.out
 obtain⟨B,h⟩:=OwL.mem h0 (x:=(v,x)) (by simp)
 exact (Ow.frz (S':=fun _=>False) (fun a z=>z.elim) (w.nt' h0) (fun a _ z=>z) h e).dt
theorem Wd.memDt(w:Wd b H L)(m:(v,x)∈L)(e:x.dat=some d):Dt b.K H v d:=by
 obtain⟨A,h0,nd,new⟩:=w.out
 obtain⟨B,h⟩:=OwL.mem h0 m
 exact (Ow.frz (S':=fun _=>False) (fun a z=>z.elim) (w.nt' h0) (fun a _ z=>z) h e).dt
def FrzIn(b:Bs)(S:Addr->Prop)(H:Hp)(L:List (V × OD)):Prop:=∀u e,(u,OD.fz e)∈L->Fz b.K S H u e
theorem OwL.frzIn{S:Addr->Prop}{A:List Addr}(h:OwL b S H L A):FrzIn b S H L:=fun u e m=>by
 obtain⟨B,q⟩:=OwL.mem h m
 cases q with | fz f=>exact f
theorem FrzIn.all{S:Addr->Prop}(h:FrzIn b S H L):∀{vs:List V} {ds:List PyData},vs.length=ds.length->(∀z∈vs.zip (ds.map OD.fz),z∈L)->FzA b.K S H vs ds
 | [],[],_,_=>.nil
 | v::vs,d::ds,e,m=>.cons (h v d (m _ (by simp))) (FrzIn.all h (by simpa using e) fun z hz=>m z (by simp[hz]))
theorem Wd.add(w:Wd b H L)(h:∀S:Addr->Prop,(∀(x:V × OD),x∈L->∃A,Ow b S H x.1 x.2 A)->(∀a,H a=none->¬ S a)->(∀a xs,H a=some (.tup xs)->¬ S a)->Fz b.K S H v d):Wd b H ((v,.fz d)::L):=by
 obtain⟨A,h0,nd,new⟩:=w.out
 exact⟨⟨A,Ows.cons (A:=[]) (.fz (h _ (fun x hx=>OwL.mem h0 hx) (fun a e=>w.al h0 e) (w.nt' h0))) h0,nd,new⟩,w.fr,w.s0,w.nt⟩
theorem Wd.adds{vs:List V}(w:Wd b H L)(h:∀S:Addr->Prop,(∀(x:V × OD),x∈L->∃A,Ow b S H x.1 x.2 A)->FzA b.K S H vs ds):Wd b H (vs.zip (ds.map OD.fz)++L):=by
 obtain⟨A,h0,nd,new⟩:=w.out
 have q:∀{vs:List V} {ds:List PyData},FzA b.K (fun a=>a∈A\/b.S0 a) H vs ds->OwL b (fun a=>a∈A\/b.S0 a) H (vs.zip (ds.map OD.fz)) []:=by
  intro vs
  induction vs with
  | nil=>intro ds h;cases h;exact .nil
  | cons v vs ih=>intro ds h;cases h with | cons r t=>exact Ows.cons (A:=[]) (.fz r) (ih t)
 exact⟨⟨A,OwL.join' (q (h _ fun x hx=>OwL.mem h0 hx)) h0,nd,new⟩,w.fr,w.s0,w.nt⟩
theorem Wd.dup(w:Wd b H ((v,.fz d)::L)):Wd b H ((v,.fz d)::(v,.fz d)::L):=w.add fun S h _ _=>by
 obtain⟨A,q⟩:=h (v,.fz d) (by simp)
 cases q with | fz f=>exact f
inductive Sc:V->PyData->Prop
 | non:Sc .non .none
 | bl (b:Bool):Sc (.bl b) (.bool b)
 | int (i:Int):Sc (.int i) (.int i)
 | str (x:Str):Sc (.str x) (.str x)
theorem Sc.fz{K:PySem.W.Frag}{S:Addr->Prop}(h:Sc v d):Fz K S H v d:=by cases h<;>constructor
theorem Wd.sc(w:Wd b H L)(h:Sc v d):Wd b H ((v,.fz d)::L):=w.add fun S _ _ _=>h.fz
theorem Wd.new(w:Wd b H L)(hp:H p=none){o:HO}:Wd b (upd H p o) L:=by
 obtain⟨A,h,nd,new⟩:=w.out
 have np:=w.al h hp
 refine⟨⟨A,Ows.step (Kp.put (.inr hp)) (fun c z=>.inl z) (w.nt' h) (fun a ha=>upd_ne fun e=>np (.inl (e ▸ ha))) h,nd,new⟩,w.fr.trans (Kp.put (.inr hp)),w.s0,fun a xs e z=>?_⟩
 by_cases q:a=p
 ·subst q;exact np (.inr z)
 ·rw[upd_ne q]at e;exact w.nt a xs e z
theorem Wd.newC(w:Wd b H L)(hp:H p=none):b.H0 p=none:=w.fr.n p hp
theorem ju:∀{vs:List V} {xs:List OD},vs.length=xs.length->(vs.zip xs).map (·.1)=vs
 | [],[],_=>rfl
 | _::_,_::_,e=>by rw[List.zip_cons_cons,List.map_cons,ju (by simpa using e)]
 | [],_::_,e=>by simp at e
 | _::_,[],e=>by simp at e
theorem jv:∀{vs:List V} {xs:List OD},vs.length=xs.length->(vs.zip xs).map (·.2)=xs
 | [],[],_=>rfl
 | _::_,_::_,e=>by rw[List.zip_cons_cons,List.map_cons,jv (by simpa using e)]
 | [],_::_,e=>by simp at e
 | _::_,[],e=>by simp at e
theorem OwL.zips{S:Addr->Prop}{vs:List V}{xs:List OD}{A:List Addr}(e:vs.length=xs.length)(h:OwL b S H (vs.zip xs) A):Ows b S H vs xs A:=by
 unfold OwL at h
 rw[ju e,jv e]at h
 exact h
theorem OwL.unzips{S:Addr->Prop}{vs:List V}{xs:List OD}{A:List Addr}(h:Ows b S H vs xs A):OwL b S H (vs.zip xs) A:=by
 unfold OwL
 rw[ju h.len,jv h.len]
 exact h
theorem Wd.newTup{vs:List V}(w:Wd b H L)(h:∀S,FrzIn b S H L->FzA b.K S H vs ds)(hp:H p=none):Wd b (upd H p (.tup vs)) ((.ref p,.fz (.tuple ds))::L):=by
 obtain⟨A,h0,nd,new⟩:=w.out
 have np:=w.al h0 hp
 have hf:=h _ (OwL.frzIn h0)
 have w':=w.new hp (o:=.tup vs)
 refine⟨⟨A,Ows.cons (A:=[]) (.fz (.tup (qP aj np) (hf.step (Kp.put (.inr hp)) fun c z=>.inl z))) (Ows.step (Kp.put (.inr hp)) (fun c z=>.inl z) (w.nt' h0) (fun a ha=>upd_ne fun e=>np (.inl (e ▸ ha))) h0),nd,new⟩,w'.fr,w'.s0,w'.nt⟩
theorem Wd.newTupC{vs:List V}{xs:List OD}(w:Wd b H (vs.zip xs++L))(e:vs.length=xs.length)(hp:H p=none):Wd b (upd H p (.tup vs)) ((.ref p,.tup xs)::L):=by
 obtain⟨A,h0,nd,new⟩:=w.out
 have np:=w.al h0 hp
 have nt:=w.nt' h0
 have w':=w.new hp (o:=.tup vs)
 have up:∀a∈A,upd H p (.tup vs) a=H a:=fun a ha=>upd_ne fun e=>np (.inl (e ▸ ha))
 obtain⟨A1,A2,rfl,h1,h2⟩:=OwL.split' h0
 refine⟨⟨A1++A2,Ows.cons (.tup aj (Ows.step (Kp.put (.inr hp)) (fun c z=>.inl z) nt (fun a ha=>up a (List.mem_append_left _ ha)) (OwL.zips e h1))) (Ows.step (Kp.put (.inr hp)) (fun c z=>.inl z) nt (fun a ha=>up a (List.mem_append_right _ ha)) h2),nd,new⟩,w'.fr,w'.s0,w'.nt⟩
theorem Wd.newLst{vs:List V}{xs:List OD}(w:Wd b H (vs.zip xs++L))(e:vs.length=xs.length)(hp:H p=none):Wd b (upd H p (.lst vs)) ((.ref p,.lst xs)::L):=by
 obtain⟨A,h0,nd,new⟩:=w.out
 have np:=w.al h0 hp
 have nt:=w.nt' h0
 have w':=w.new hp (o:=.lst vs)
 have up:∀a∈A,upd H p (.lst vs) a=H a:=fun a ha=>upd_ne fun e=>np (.inl (e ▸ ha))
 obtain⟨A1,A2,rfl,h1,h2⟩:=OwL.split' h0
 have n:∀c,(c∈p::(A1++A2)\/b.S0 c)->(c∈A1++A2\/b.S0 c)\/H c=none:=fun c z=>by
  rcases z with z | z
  ·rcases List.mem_cons.mp z with rfl | z
   ·exact .inr hp
   ·exact .inl (.inl z)
  ·exact .inl (.inr z)
 refine⟨⟨p::(A1++A2),Ows.cons (A:=p::A1) (.lst aj (Ows.step (Kp.put (.inr hp)) n nt (fun a ha=>up a (List.mem_append_left _ ha)) (OwL.zips e h1))) (Ows.step (Kp.put (.inr hp)) n nt (fun a ha=>up a (List.mem_append_right _ ha)) h2),List.nodup_cons.mpr ⟨fun z=>np (.inl z),nd⟩,fun a ha=>?_⟩,w'.fr,w'.s0,w'.nt⟩
 rcases List.mem_cons.mp ha with rfl | ha
 ·exact .inl (w.newC hp)
 ·exact new a ha
theorem Wd.newDic(w:Wd b H L)(hp:H p=none):Wd b (upd H p (.dK [])) ((.ref p,.dic [] [])::L):=by
 obtain⟨A,h0,nd,new⟩:=w.out
 have np:=w.al h0 hp
 have nt:=w.nt' h0
 have w':=w.new hp (o:=.dK [])
 have n:∀c,(c∈p::A\/b.S0 c)->(c∈A\/b.S0 c)\/H c=none:=fun c z=>by
  rcases z with z | z
  ·rcases List.mem_cons.mp z with rfl | z
   ·exact .inr hp
   ·exact .inl (.inl z)
  ·exact .inl (.inr z)
 refine⟨⟨p::A,Ows.cons (A:=[p]) (.dic aj rfl rfl .nil) (Ows.step (Kp.put (.inr hp)) n nt (fun a ha=>upd_ne fun e=>np (.inl (e ▸ ha))) h0),List.nodup_cons.mpr ⟨fun z=>np (.inl z),nd⟩,fun a ha=>?_⟩,w'.fr,w'.s0,w'.nt⟩
 rcases List.mem_cons.mp ha with rfl | ha
 ·exact .inl (w.newC hp)
 ·exact new a ha
end
def OD.kids:OD->List OD
 | .lst xs=>xs | .tup xs=>xs | .dic _ xs=>xs | .obj _ _ xs=>xs
 | _=>[]
def OD.setKid(k:Nat)(y:OD):OD->OD
 | .lst xs=>.lst (xs.set k y) | .tup xs=>.tup (xs.set k y) | .dic ks xs=>.dic ks (xs.set k y) | .obj c ns xs=>.obj c ns (xs.set k y)
 | x=>x
def OD.at:List Nat->OD->Option OD
 | [],x=>some x
 | k::ks,x=>match x.kids[k]? with | some z=>OD.at ks z | none=>none
def OD.put(y:OD):List Nat->OD->OD
 | [],_=>y
 | k::ks,x=>match x.kids[k]? with | some z=>OD.setKid k (OD.put y ks z) x | none=>x
inductive Chd (b:Bs)(H:Hp):V->OD->Nat->V->OD->Prop
 | lst {a vs xs k w z}:H a=some (.lst vs)->vs.length=xs.length->vs[k]?=some w->xs[k]?=some z->Chd b H (.ref a) (.lst xs) k w z
 | tup {a vs xs k w z}:H a=some (.tup vs)->vs.length=xs.length->vs[k]?=some w->xs[k]?=some z->Chd b H (.ref a) (.tup xs) k w z
 | dic {a ws ks xs k w z}:H a=some (.dK ws)->ws.map (·.1)=ks->ws.length=xs.length->(ws[k]?).map (·.2)=some w->xs[k]?=some z->Chd b H (.ref a) (.dic ks xs) k w z
 | obj {a dx c fs ns xs k w z}:H a=some (.ins (aq b.K c) dx fs)->fs.map (·.1)=ns->fs.length=xs.length->(fs[k]?).map (·.2)=some w->xs[k]?=some z->Chd b H (.ref a) (.obj c ns xs) k w z
inductive Chn (b:Bs)(H:Hp):V->OD->List Nat->V->OD->Prop
 | nil {v x}:Chn b H v x [] v x
 | cons {v x k w z ks u y}:Chd b H v x k w z->Chn b H w z ks u y->Chn b H v x (k::ks) u y
section
variable{b:Bs}{S S':Addr->Prop}{H H1 H':Hp}{L L':List (V × OD)}{v u:V}{x y:OD}{d:PyData}{ds:List PyData}{p a:Addr}
theorem bM{α:Type}(A1 B A2:List α):(A1++(B++A2)).Perm (B++(A1++A2)):=by
 rw[<- List.append_assoc,<- List.append_assoc]
 exact List.perm_append_comm.append_right _
theorem bt{α:Type}:∀{l:List α} {i:Nat} {x:α},l[i]?=some x->l.set i x=l
 | [],_,_,e=>by simp at e
 | _::_,0,_,e=>by simp at e;subst e;rfl
 | y::l,i + 1,x,e=>by rw[List.set_cons_succ,bt (by simpa using e)]
theorem Ow.kid{A:List Addr}{k:Nat}{z:OD}(h:Ow b S H v x A)(e:x.kids[k]?=some z):∃w B A',Chd b H v x k w z/\Ow b S H w z B/\A.Perm (B++A') /\
  ∀{S':Addr->Prop} {H':Hp} {z':OD} {B':List Addr},Kp S H H'->(∀c,S' c->S c\/H c=none)->(∀a xs,H a=some (.tup xs)->¬ S a)->(∀a∈A',H' a=H a)->Ow b S' H' w z' B'->∃A'',Ow b S' H' v (OD.setKid k z' x) A''/\A''.Perm (B'++A'):=by
 cases h with
 | fz _=>cases k<;>cases e
 | pinL _ _=>cases k<;>cases e
 | pinT _ _=>cases k<;>cases e
 | hole _=>cases k<;>cases e
 | @lst a vs xs A e1 t =>
  obtain⟨w,A1,B,A2,h1,rfl,h3,h4⟩:=t.zip e
  refine⟨w,B,a::(A1++A2),.lst e1 t.len h1 e,h3,((bM A1 B A2).cons a).trans List.perm_middle.symm,fun {S' H' z' B'} k n hs s h=>?_⟩
  have:=h4 h fun sb h=>Ow.step k n hs (fun a ha=>s a (List.mem_cons_of_mem _ (List.mem_append.mpr (sb a ha)))) h
  rw[bt h1]at this
  exact⟨_,.lst ((s a List.mem_cons_self).trans e1) this,((bM A1 B' A2).cons a).trans List.perm_middle.symm⟩
 | @tup a vs xs A e1 t =>
  obtain⟨w,A1,B,A2,h1,rfl,h3,h4⟩:=t.zip e
  refine⟨w,B,A1++A2,.tup e1 t.len h1 e,h3,bM A1 B A2,fun {S' H' z' B'} k n hs s h=>?_⟩
  have:=h4 h fun sb h=>Ow.step k n hs (fun a ha=>s a (List.mem_append.mpr (sb a ha))) h
  rw[bt h1]at this
  exact⟨_,.tup (k.k _ _ e1 (hs _ _ e1)) this,bM A1 B' A2⟩
 | @dic a ws ks vs xs A e1 h5 h6 t =>
  obtain⟨w,A1,B,A2,h1,rfl,h3,h4⟩:=t.zip e
  refine⟨w,B,a::(A1++A2),.dic e1 h5 (by rw[<- t.len,<- h6,List.length_map]) (by rw[<- h6]at h1;simpa using h1) e,h3,((bM A1 B A2).cons a).trans List.perm_middle.symm,fun {S' H' z' B'} k n hs s h=>?_⟩
  have:=h4 h fun sb h=>Ow.step k n hs (fun a ha=>s a (List.mem_cons_of_mem _ (List.mem_append.mpr (sb a ha)))) h
  rw[bt h1]at this
  exact⟨_,.dic ((s a List.mem_cons_self).trans e1) h5 h6 this,((bM A1 B' A2).cons a).trans List.perm_middle.symm⟩
 | @obj a dx c fs ns vs xs A e1 e2 h5 h6 t =>
  obtain⟨w,A1,B,A2,h1,rfl,h3,h4⟩:=t.zip e
  have pm:∀B:List Addr,(a::dx::(A1++(B++A2))).Perm (B++(a::dx::(A1++A2))):=fun B=>by
   refine (((bM A1 B A2).cons dx).cons a).trans ?_
   exact ((List.perm_middle (a:=dx) (l₁:=B) (l₂:=A1++A2)).symm.cons a).trans List.perm_middle.symm
  refine⟨w,B,a::dx::(A1++A2),.obj e1 h5 (by rw[<- t.len,<- h6,List.length_map]) (by rw[<- h6]at h1;simpa using h1) e,h3,pm B,fun {S' H' z' B'} k n hs s h=>?_⟩
  have:=h4 h fun sb h=>Ow.step k n hs (fun a ha=>s a (List.mem_cons_of_mem _ (List.mem_cons_of_mem _ (List.mem_append.mpr (sb a ha))))) h
  rw[bt h1]at this
  exact⟨_,.obj ((s a List.mem_cons_self).trans e1) ((s dx (List.mem_cons_of_mem _ List.mem_cons_self)).trans e2) h5 h6 this,pm B'⟩
theorem Ow.path:∀{ks:List Nat} {v:V} {x:OD} {A:List Addr} {y:OD},Ow b S H v x A->x.at ks=some y->∃u B A',Chn b H v x ks u y/\Ow b S H u y B/\A.Perm (B++A') /\
  ∀{S':Addr->Prop} {H':Hp} {y':OD} {B':List Addr},Kp S H H'->(∀c,S' c->S c\/H c=none)->(∀a xs,H a=some (.tup xs)->¬ S a)->(∀a∈A',H' a=H a)->Ow b S' H' u y' B'->∃A'',Ow b S' H' v (OD.put y' ks x) A''/\A''.Perm (B'++A')
 | [],v,x,A,y,h,e=>by
  simp only[OD.at]at e
  cases e
  exact⟨v,A,[],.nil,h,by simp,fun {S' H' y' B'} _ _ _ _ h=>⟨B',h,by simp⟩⟩
 | k::ks,v,x,A,y,h,e=>by
  simp only[OD.at]at e
  cases ez:x.kids[k]? with
  | none=>rw[ez]at e;cases e
  | some z =>
   rw[ez]at e
   simp only at e
   obtain⟨w,B,A',c1,h1,p1,f1⟩:=h.kid ez
   obtain⟨u,B2,A2,c2,h2,p2,f2⟩:=Ow.path h1 e
   refine⟨u,B2,A2++A',.cons c1 c2,h2,p1.trans (by rw[<- List.append_assoc];exact p2.append_right _),fun {S' H' y' B'} k' n hs s h=>?_⟩
   obtain⟨A3,h3,p3⟩:=f2 k' n hs (fun a ha=>s a (List.mem_append_left _ ha)) h
   obtain⟨A4,h4,p4⟩:=f1 k' n hs (fun a ha=>s a (List.mem_append_right _ ha)) h3
   refine⟨A4,?_,p4.trans (by rw[<- List.append_assoc];exact p3.append_right _)⟩
   simp only[OD.put,ez]
   exact h4
end
end
section
section
variable{b:Bs}{S S':Addr->Prop}{H H1 H':Hp}{L L':List (V × OD)}{v u:V}{x y:OD}{d:PyData}{ds:List PyData}{p a:Addr}{us:List V}{zs:List OD}{ks:List Nat}
theorem Wd.mutC(w:Wd b H (us.zip zs++((v,x)::L)))(el:us.length=zs.length)(e:x.at ks=some y):∃(S:Addr->Prop) (u:V) (B C:List Addr),Chn b H v x ks u y/\Ow b S H u y B/\Ows b S H us zs C/\(B++C).Nodup/\(∀c∈B,S c)/\(∀c,H c=none->¬ S c)/\(∀c xs,H c=some (.tup xs)->¬ S c)/\FrzIn b S H L /\
  ∀{H':Hp} {y':OD} {D:List Addr},(∀c,c ∉ B->H' c=H c)->(∀c∈B,∃o,H' c=some o/\MutO o)->D.Nodup->(∀c∈D,c∈B\/c∈C)->(∀S':Addr->Prop,(∀c,S' c->S c)->(∀c∈B,S' c->c∈D)->Ow b S' H' u y' D)->Wd b H' ((v,OD.put y' ks x)::L):=by
 obtain⟨A0,h0,nd,new⟩:=w.out
 have nt:=w.nt' h0
 have al:=fun {a}=>w.al h0 (a:=a)
 obtain⟨C,A1,rfl,hz,h1⟩:=OwL.split' h0
 cases h1 with
 | @cons _ _ A _ _ E r t =>
  obtain⟨u,B,A',ch,hy,pB,go⟩:=Ow.path r e
  obtain⟨nC,nAE,dCA⟩:=List.nodup_append.mp nd
  obtain⟨nA,nE,dAE⟩:=List.nodup_append.mp nAE
  have nBA:=pB.nodup_iff.mp nA
  obtain⟨nB,nA',dBA⟩:=List.nodup_append.mp nBA
  have inA:∀c,c∈A ↔ c∈B\/c∈A':=fun c=>by rw[pB.mem_iff,List.mem_append]
  refine⟨_,u,B,C,ch,hy,OwL.zips el hz,List.nodup_append.mpr ⟨nB,nC,fun c hc c' hc' e=>dCA c' hc' c (List.mem_append_left _ ((inA c).mpr (.inl hc))) e.symm⟩,fun c hc=>.inl (List.mem_append_right _ (List.mem_append_left _ ((inA c).mpr (.inl hc)))),fun c e=>al e,nt,OwL.frzIn t,fun {H' y' D} hk hm nD sD hO=>?_⟩
  have kp:Kp (fun c=>c∈C++(A++E)\/b.S0 c) H H':=⟨fun c o e n=>by
    rw[hk c fun z=>n (.inl (List.mem_append_right _ (List.mem_append_left _ ((inA c).mpr (.inl z)))))];exact e,fun c e=>by
    by_cases z:c∈B
    ·obtain⟨o,q,_⟩:=hm c z
     rw[q]at e;cases e
    ·rw[hk c z]at e;exact e⟩
  have sub:∀c,(c∈(D++A')++E\/b.S0 c)->(c∈C++(A++E)\/b.S0 c):=fun c z=>z.imp (fun z=>by
   rcases List.mem_append.mp z with z | z
   ·rcases List.mem_append.mp z with z | z
    ·rcases sD c z with z | z
     ·exact List.mem_append_right _ (List.mem_append_left _ ((inA c).mpr (.inl z)))
     ·exact List.mem_append_left _ z
    ·exact List.mem_append_right _ (List.mem_append_left _ ((inA c).mpr (.inr z)))
   ·exact List.mem_append_right _ (List.mem_append_right _ z)) id
  obtain⟨A'',hx,pA⟩:=go (S':=fun c=>c∈(D++A')++E\/b.S0 c) (H':=H') (y':=y') (B':=D) kp (fun c z=>.inl (sub c z)) nt (fun c hc=>hk c fun z=>dBA c z c hc rfl) (hO _ sub fun c hc z=>by
   rcases z with z | z
   ·rcases List.mem_append.mp z with z | z
    ·rcases List.mem_append.mp z with z | z
     ·exact z
     ·exact absurd rfl (dBA c hc c z)
    ·exact absurd rfl (dAE c ((inA c).mpr (.inl hc)) c z)
   ·exact absurd z (w.dj new c (List.mem_append_right _ (List.mem_append_left _ ((inA c).mpr (.inl hc))))))
  have inA'':∀c,c∈A'' ↔ c∈D++A':=fun c=>pA.mem_iff
  have ntA:∀c xs,H' c=some (.tup xs)->¬ (c∈(D++A')++E\/b.S0 c):=fun c xs e z=>by
   by_cases q:c∈B
   ·obtain⟨o,q1,q2⟩:=hm c q
    rw[q1]at e;cases e;exact q2
   ·rw[hk c q]at e;exact nt c xs e (sub c z)
  have dDA:∀c∈D,∀c'∈A',c≠c':=fun c hc c' hc' e=>by
   subst e
   rcases sD c hc with z | z
   ·exact dBA c z c hc' rfl
   ·exact dCA c z c (List.mem_append_left _ ((inA c).mpr (.inr hc'))) rfl
  refine⟨⟨A''++E,Ows.cons (Ow.sub ntA (fun c z=>z.imp (fun z=>(List.mem_append.mp z).elim (fun z=>List.mem_append_left _ ((inA'' c).mp z)) (List.mem_append_right _)) id) hx) (Ows.step kp (fun c z=>.inl (sub c (z.imp (fun z=>(List.mem_append.mp z).elim (fun z=>List.mem_append_left _ ((inA'' c).mp z)) (List.mem_append_right _)) id))) nt (fun c hc=>hk c fun z=>dAE c ((inA c).mpr (.inl z)) c hc rfl) t),?_,fun c hc=>?_⟩,?_,w.s0,fun c xs e z=>?_⟩
  ·refine List.nodup_append.mpr ⟨pA.nodup_iff.mpr (List.nodup_append.mpr ⟨nD,nA',dDA⟩),nE,fun c hc c' hc' e=>?_⟩
   subst e
   rcases List.mem_append.mp ((inA'' c).mp hc) with z | z
   ·rcases sD c z with z | z
    ·exact dAE c ((inA c).mpr (.inl z)) c hc' rfl
    ·exact dCA c z c (List.mem_append_right _ hc') rfl
   ·exact dAE c ((inA c).mpr (.inr z)) c hc' rfl
  ·have:c∈C++(A++E)\/b.S0 c:=sub c (.inl ((List.mem_append.mp hc).elim (fun z=>List.mem_append_left _ ((inA'' c).mp z)) (List.mem_append_right _)))
   have hc2:c∈C++(A++E):=by
    rcases List.mem_append.mp hc with z | z
    ·rcases List.mem_append.mp ((inA'' c).mp z) with z | z
     ·rcases sD c z with z | z
      ·exact List.mem_append_right _ (List.mem_append_left _ ((inA c).mpr (.inl z)))
      ·exact List.mem_append_left _ z
     ·exact List.mem_append_right _ (List.mem_append_left _ ((inA c).mpr (.inr z)))
    ·exact List.mem_append_right _ (List.mem_append_right _ z)
   exact new c hc2
  ·refine⟨fun c o e n=>?_,fun c e=>w.fr.n c (kp.n c e)⟩
   rw[hk c fun z=>?_]
   ·exact w.fr.k c o e n
   ·rcases new c (List.mem_append_right _ (List.mem_append_left _ ((inA c).mpr (.inl z)))) with q | q
    ·rw[q]at e;cases e
    ·exact n q
  ·exact ntA c xs e (.inr z)
theorem Wd.mutL{xs:List OD}(w:Wd b H (us.zip zs++((v,x)::L)))(el:us.length=zs.length)(e:x.at ks=some (.lst xs)):∃a vs,Chn b H v x ks (.ref a) (.lst xs)/\H a=some (.lst vs)/\vs.length=xs.length /\
  ∀vs' xs',(∀(S:Addr->Prop) (H:Hp) (A C:List Addr),(∀c xs,H c=some (.tup xs)->¬ S c)->Ows b S H vs xs A->Ows b S H us zs C->(A++C).Nodup->∃D,Ows b S H vs' xs' D/\D.Nodup/\∀c∈D,c∈A\/c∈C)->Wd b (upd H a (.lst vs')) ((v,OD.put (.lst xs') ks x)::L):=by
 obtain⟨S,u,B,C,ch,hy,hz,nd,hS,al,nt,fi,go⟩:=w.mutC el e
 cases hy with
 | @lst a vs _ A e1 t =>
  refine⟨a,vs,ch,e1,t.len,fun vs' xs' hf=>?_⟩
  obtain⟨nA,nAC⟩:=List.nodup_cons.mp (show (a::(A++C)).Nodup from nd)
  have hk:∀c,c≠a->upd H a (.lst vs') c=H c:=fun c n=>upd_ne n
  have kp:Kp S H (upd H a (.lst vs')):=Kp.put (.inl (hS a (by simp)))
  have key:∀S':Addr->Prop,(∀c,S' c->S c)->∃D,Ows b S' (upd H a (.lst vs')) vs' xs' D/\D.Nodup/\∀c∈D,c∈A\/c∈C:=fun S' hS'=>by
   refine hf S' _ A C (fun c xs e z=>?_) (Ows.step kp (fun c z=>.inl (hS' c z)) nt (fun c hc=>hk c fun e=>nA (e ▸ List.mem_append_left _ hc)) t) (Ows.step kp (fun c z=>.inl (hS' c z)) nt (fun c hc=>hk c fun e=>nA (e ▸ List.mem_append_right _ hc)) hz) nAC
   by_cases q:c=a
   ·subst q;rw[aj]at e;cases e
   ·rw[upd_ne q]at e;exact nt c xs e (hS' c z)
  obtain⟨D,hD,nD,sD⟩:=key S fun _ z=>z
  have ntn:∀c xs,upd H a (.lst vs') c=some (.tup xs)->¬ S c:=fun c xs e z=>by
   by_cases q:c=a
   ·subst q;rw[aj]at e;cases e
   ·rw[upd_ne q]at e;exact nt c xs e z
  refine go (y':=.lst xs') (D:=a::D) (fun c n=>hk c fun e=>n (by simp[e])) (fun c hc=>?_) (List.nodup_cons.mpr ⟨fun z=>nA (by rcases sD a z with z | z<;>simp[z]),nD⟩) (fun c hc=>?_) fun S' hS' _=>.lst aj (Ows.sub ntn hS' hD)
  ·rcases List.mem_cons.mp hc with rfl | hc
   ·exact⟨_,aj,trivial⟩
   ·obtain⟨o,q,m⟩:=t.mu c hc
    exact⟨o,by rw[hk c fun e=>nA (e ▸ List.mem_append_left _ hc)];exact q,m⟩
  ·rcases List.mem_cons.mp hc with rfl | hc
   ·exact .inl (by simp)
   ·exact (sD c hc).imp (List.mem_cons_of_mem _) id
theorem Wd.mutD{kk:List Key}{xs:List OD}(w:Wd b H (us.zip zs++((v,x)::L)))(el:us.length=zs.length)(e:x.at ks=some (.dic kk xs)):∃a ws,Chn b H v x ks (.ref a) (.dic kk xs)/\H a=some (.dK ws)/\ws.map (·.1)=kk/\ws.length=xs.length /\
  ∀ws' kk' xs',ws'.map (·.1)=kk'->(∀(S:Addr->Prop) (H:Hp) (A C:List Addr),(∀c xs,H c=some (.tup xs)->¬ S c)->Ows b S H (ws.map (·.2)) xs A->Ows b S H us zs C->(A++C).Nodup->∃D,Ows b S H (ws'.map (·.2)) xs' D/\D.Nodup/\∀c∈D,c∈A\/c∈C)->Wd b (upd H a (.dK ws')) ((v,OD.put (.dic kk' xs') ks x)::L):=by
 obtain⟨S,u,B,C,ch,hy,hz,nd,hS,al,nt,fi,go⟩:=w.mutC el e
 cases hy with
 | @dic a ws _ vs _ A e1 h5 h6 t =>
  subst h6
  refine⟨a,ws,ch,e1,h5,by have:=t.len;rwa [List.length_map]at this,fun ws' kk' xs' hkk hf=>?_⟩
  obtain⟨nA,nAC⟩:=List.nodup_cons.mp (show (a::(A++C)).Nodup from nd)
  have hk:∀c,c≠a->upd H a (.dK ws') c=H c:=fun c n=>upd_ne n
  have kp:Kp S H (upd H a (.dK ws')):=Kp.put (.inl (hS a (by simp)))
  have ntn:∀c xs,upd H a (.dK ws') c=some (.tup xs)->¬ S c:=fun c xs e z=>by
   by_cases q:c=a
   ·subst q;rw[aj]at e;cases e
   ·rw[upd_ne q]at e;exact nt c xs e z
  obtain⟨D,hD,nD,sD⟩:=hf S _ A C ntn (Ows.step kp (fun c z=>.inl z) nt (fun c hc=>hk c fun e=>nA (e ▸ List.mem_append_left _ hc)) t) (Ows.step kp (fun c z=>.inl z) nt (fun c hc=>hk c fun e=>nA (e ▸ List.mem_append_right _ hc)) hz) nAC
  refine go (y':=.dic kk' xs') (D:=a::D) (fun c n=>hk c fun e=>n (by simp[e])) (fun c hc=>?_) (List.nodup_cons.mpr ⟨fun z=>nA (by rcases sD a z with z | z<;>simp[z]),nD⟩) (fun c hc=>?_) fun S' hS' _=>.dic aj hkk rfl (Ows.sub ntn hS' hD)
  ·rcases List.mem_cons.mp hc with rfl | hc
   ·exact⟨_,aj,trivial⟩
   ·obtain⟨o,q,m⟩:=t.mu c hc
    exact⟨o,by rw[hk c fun e=>nA (e ▸ List.mem_append_left _ hc)];exact q,m⟩
  ·rcases List.mem_cons.mp hc with rfl | hc
   ·exact .inl (by simp)
   ·exact (sD c hc).imp (List.mem_cons_of_mem _) id
theorem Wd.mutO{c:Str}{ns:List Str}{xs:List OD}(w:Wd b H (us.zip zs++((v,x)::L)))(el:us.length=zs.length)(e:x.at ks=some (.obj c ns xs)):∃a dx fs,Chn b H v x ks (.ref a) (.obj c ns xs)/\H a=some (.ins (aq b.K c) dx fs)/\fs.map (·.1)=ns/\fs.length=xs.length /\
  ∀fs' ns' xs',fs'.map (·.1)=ns'->(∀(S:Addr->Prop) (H:Hp) (A C:List Addr),(∀c xs,H c=some (.tup xs)->¬ S c)->Ows b S H (fs.map (·.2)) xs A->Ows b S H us zs C->(A++C).Nodup->∃D,Ows b S H (fs'.map (·.2)) xs' D/\D.Nodup/\∀c∈D,c∈A\/c∈C)->Wd b (upd H a (.ins (aq b.K c) dx fs')) ((v,OD.put (.obj c ns' xs') ks x)::L):=by
 obtain⟨S,u,B,C,ch,hy,hz,nd,hS,al,nt,fi,go⟩:=w.mutC el e
 cases hy with
 | @obj a dx _ fs _ vs _ A e1 e2 h5 h6 t =>
  subst h6
  refine⟨a,dx,fs,ch,e1,h5,by have:=t.len;rwa [List.length_map]at this,fun fs' ns' xs' hkk hf=>?_⟩
  obtain⟨nA,nAC⟩:=List.nodup_cons.mp (show (a::(dx::(A++C))).Nodup from nd)
  obtain⟨nX,nAC⟩:=List.nodup_cons.mp nAC
  have hk:∀z,z≠a->upd H a (.ins (aq b.K c) dx fs') z=H z:=fun z n=>upd_ne n
  have kp:Kp S H (upd H a (.ins (aq b.K c) dx fs')):=Kp.put (.inl (hS a (by simp)))
  have ntn:∀z xs,upd H a (.ins (aq b.K c) dx fs') z=some (.tup xs)->¬ S z:=fun z xs e s=>by
   by_cases q:z=a
   ·subst q;rw[aj]at e;cases e
   ·rw[upd_ne q]at e;exact nt z xs e s
  obtain⟨D,hD,nD,sD⟩:=hf S _ A C ntn (Ows.step kp (fun c z=>.inl z) nt (fun c hc=>hk c fun e=>nA (e ▸ List.mem_cons_of_mem _ (List.mem_append_left _ hc))) t) (Ows.step kp (fun c z=>.inl z) nt (fun c hc=>hk c fun e=>nA (e ▸ List.mem_cons_of_mem _ (List.mem_append_right _ hc))) hz) nAC
  have nax:dx≠a:=fun e=>nA (e ▸ List.mem_cons_self)
  refine go (y':=.obj c ns' xs') (D:=a::dx::D) (fun z n=>hk z fun e=>n (by simp[e])) (fun z hc=>?_) (List.nodup_cons.mpr ⟨fun z=>?_,List.nodup_cons.mpr ⟨fun z=>?_,nD⟩⟩) (fun z hc=>?_) fun S' hS' _=>.obj aj (by rw[hk dx nax];exact e2) hkk rfl (Ows.sub ntn hS' hD)
  ·rcases List.mem_cons.mp hc with rfl | hc
   ·exact⟨_,aj,trivial⟩
   ·rcases List.mem_cons.mp hc with rfl | hc
    ·exact⟨.own a,by rw[hk _ nax];exact e2,trivial⟩
    ·obtain⟨o,q,m⟩:=t.mu z hc
     exact⟨o,by rw[hk z fun e=>nA (e ▸ List.mem_cons_of_mem _ (List.mem_append_left _ hc))];exact q,m⟩
  ·rcases List.mem_cons.mp z with z | z
   ·exact nax z.symm
   ·exact nA (List.mem_cons_of_mem _ (List.mem_append.mpr (sD a z)))
  ·exact nX (List.mem_append.mpr (sD dx z))
  ·rcases List.mem_cons.mp hc with rfl | hc
   ·exact .inl (by simp)
   ·rcases List.mem_cons.mp hc with rfl | hc
    ·exact .inl (by simp)
    ·exact (sD z hc).imp (fun h=>List.mem_cons_of_mem _ (List.mem_cons_of_mem _ h)) id
theorem Chd.det{w w':V}{z z':OD}{k:Nat}(h:Chd b H v x k w z)(h':Chd b H v x k w' z'):w=w'/\z=z':=by
 cases h with
 | lst e1 e2 e3 e4=>cases h' with | lst f1 f2 f3 f4=>rw[e1]at f1;cases f1;rw[e3]at f3;cases f3;rw[e4]at f4;cases f4;exact⟨rfl,rfl⟩
 | tup e1 e2 e3 e4=>cases h' with | tup f1 f2 f3 f4=>rw[e1]at f1;cases f1;rw[e3]at f3;cases f3;rw[e4]at f4;cases f4;exact⟨rfl,rfl⟩
 | dic e1 e2 e5 e3 e4=>cases h' with | dic f1 f2 f5 f3 f4=>rw[e1]at f1;cases f1;rw[e3]at f3;cases f3;rw[e4]at f4;cases f4;exact⟨rfl,rfl⟩
 | obj e1 e2 e5 e3 e4=>cases h' with | obj f1 f2 f5 f3 f4=>rw[e1]at f1;cases f1;rw[e3]at f3;cases f3;rw[e4]at f4;cases f4;exact⟨rfl,rfl⟩
theorem Chd.same{w w':V}{y z y':OD}{k:Nat}(h:Chd b H v x k w z)(h':Chd b H v (OD.setKid k y x) k w' y'):w=w':=by
 cases h with
 | lst e1 e2 e3 e4=>cases h' with | lst f1 f2 f3 f4=>rw[e1]at f1;cases f1;rw[e3]at f3;cases f3;rfl
 | tup e1 e2 e3 e4=>cases h' with | tup f1 f2 f3 f4=>rw[e1]at f1;cases f1;rw[e3]at f3;cases f3;rfl
 | dic e1 e2 e5 e3 e4=>cases h' with | dic f1 f2 f5 f3 f4=>rw[e1]at f1;cases f1;rw[e3]at f3;cases f3;rfl
 | obj e1 e2 e5 e3 e4=>cases h' with | obj f1 f2 f5 f3 f4=>rw[e1]at f1;cases f1;rw[e3]at f3;cases f3;rfl
theorem Chd.kid{w:V}{z:OD}{k:Nat}(h:Chd b H v x k w z):x.kids[k]?=some z:=by
 cases h with
 | lst _ _ _ e=>exact e
 | tup _ _ _ e=>exact e
 | dic _ _ _ _ e=>exact e
 | obj _ _ _ _ e=>exact e
theorem Chd.set{w:V}{y z:OD}{k:Nat}(h:Chd b H v x k w z):(OD.setKid k y x).kids[k]?=some y:=by
 cases h with
 | lst _ _ _ e=>exact List.getElem?_set_self (List.getElem?_eq_some_iff.mp e).1
 | tup _ _ _ e=>exact List.getElem?_set_self (List.getElem?_eq_some_iff.mp e).1
 | dic _ _ _ _ e=>exact List.getElem?_set_self (List.getElem?_eq_some_iff.mp e).1
 | obj _ _ _ _ e=>exact List.getElem?_set_self (List.getElem?_eq_some_iff.mp e).1
theorem Wd.frzAt{ks:List Nat}(w:Wd b H ((v,x)::L))(e:x.at ks=some y)(ed:y.dat=some d):∃u,Chn b H v x ks u y/\Wd b H ((u,.fz d)::(v,OD.put (.fz d) ks x)::L):=by
 obtain⟨S,u,B,C,ch,hy,hz,nd,hS,al,nt,fi,go⟩:=Wd.mutC (us:=[]) (zs:=[]) w rfl e
 have w2:Wd b H ((v,OD.put (.fz d) ks x)::L):=go (H':=H) (y':=.fz d) (D:=[]) (fun _ _=>rfl) (fun c hc=>hy.mu c hc) List.nodup_nil (fun c hc=>by cases hc) fun S' hS' hB=>.fz (Ow.frz hS' nt (fun a ha z=>by cases hB a ha z) hy ed)
 refine⟨u,ch,w2.add fun S1 h1 al1 nt1=>?_⟩
 obtain⟨A1,o1⟩:=h1 (v,OD.put (.fz d) ks x) (by simp)
 have q:∀{ks:List Nat} {v u:V} {x:OD} {A:List Addr},Chn b H v x ks u y->Ow b S1 H v (OD.put (.fz d) ks x) A->Fz b.K S1 H u d:=fun {ks}=>by
  induction ks with
  | nil=>intro v u x A c o;cases c;simp only[OD.put]at o;cases o with | fz f=>exact f
  | cons k ks ih =>
   intro v u x A c o
   cases c with
   | cons c1 c2 =>
    have eo:=c1.kid
    simp only[OD.put,eo]at o
    obtain⟨u',B',A',c',o',_⟩:=o.kid c1.set
    have e6:=c1.same c'
    subst e6
    exact ih c2 o'
 exact q ch o1
end
end
section
abbrev DSp:=List OD->(OD->List OD->Prop)->Prop
def Ex(K:PySem.W.Frag)(S:Addr->Prop)(A:List Addr)(vs:List V)(H:Hp)(Q:VK)(x:OD)(ys:List OD):Prop:=∀v H' B,Kp (fun a=>a∈A) H H' ->
 Ows ⟨K,H,S,fun a=>a∈A⟩ (fun a=>a∈B\/S a) H' (v::vs) (x::ys) B->B.Nodup->(∀a∈B,H a=none\/a∈A)->Q v H'
def toSp(K:PySem.W.Frag)(sp:DSp):Sp:=fun vs H Q _=>∃(S:Addr->Prop) (xs:List OD) (A:List Addr),(∀a,S a->H a≠none/\a ∉ A)/\(∀a xs,H a=some (.tup xs)->¬ S a) /\
 Ows ⟨K,H,S,fun a=>a∈A⟩ (fun a=>a∈A\/S a) H vs xs A/\A.Nodup/\sp xs (Ex K S A vs H Q)
def qQ(sp:DSp):Prop:=∀xs (P R:OD->List OD->Prop),(∀x ys,P x ys->R x ys)->sp xs P->sp xs R
section
variable{b:Bs}{H H':Hp}{L:List (V × OD)}{v:V}{x:OD}
theorem Wd.call{sp:DSp}{us:List V}{xs:List OD}{Q:VK}{E:XK}(w:Wd b H (us.zip xs++L))(el:us.length=xs.length)(mono:qQ sp)
  (h:sp xs fun x ys=>us.length=ys.length->∀v H',Wd b H' ((v,x)::(us.zip ys++L))->Q v H'):toSp b.K sp us H Q E:=by
 obtain⟨A0,h0,nd,new⟩:=w.out
 have nt:=w.nt' h0
 have al:=fun {a}=>w.al h0 (a:=a)
 obtain⟨A,A2,rfl,h1,h2⟩:=OwL.split' h0
 obtain⟨nA,nA2,dj⟩:=List.nodup_append.mp nd
 have nS0:=w.dj new
 refine⟨fun a=>a∈A2\/b.S0 a,xs,A,fun a z=>⟨fun e=>al e (z.imp (List.mem_append_right _) id),fun hA=>?_⟩,fun a xs e z=>nt a xs e (z.imp (List.mem_append_right _) id),?_,nA,mono _ _ _ (fun x ys hQ v H' B kp hO nB hB=>?_) h⟩
 ·rcases z with z | z
  ·exact dj a hA a z rfl
  ·exact nS0 a (List.mem_append_left _ hA) z
 ·refine Ows.subB (b2:=⟨b.K,H,fun a=>a∈A2\/b.S0 a,fun a=>a∈A⟩) (b:=b) rfl nt (fun c z=>?_) (OwL.zips el h1)
  rcases z with z | z | z
  ·exact .inl (List.mem_append_left _ z)
  ·exact .inl (List.mem_append_right _ z)
  ·exact .inr z
 have eys:us.length=ys.length:=by have:=hO.len;simpa using this
 have same:∀a,a ∉ A->H a≠none->H' a=H a:=fun a hA ha=>by
  cases e:H a with
  | none=>exact absurd e ha
  | some o=>exact kp.k a o e hA
 have kp':Kp (fun a=>a∈A++A2\/b.S0 a) H H':=kp.weak fun c hc=>.inl (.inl (List.mem_append_left _ hc))
 have n':∀c,(c∈B++A2\/b.S0 c)->(c∈A++A2\/b.S0 c)\/H c=none:=fun c z=>by
  rcases z with z | z
  ·rcases List.mem_append.mp z with z | z
   ·exact (hB c z).elim .inr fun z=>.inl (.inl (List.mem_append_left _ z))
   ·exact .inl (.inl (List.mem_append_right _ z))
  ·exact .inl (.inr z)
 have ntB:∀a xs,H' a=some (.tup xs)->¬ (a∈B\/a∈A2\/b.S0 a):=fun a xs e z=>by
  rcases z with z | z
  ·exact hO.tl a z xs e
  ·have hA:a ∉ A:=fun hA=>by
    rcases z with z | z
    ·exact dj a hA a z rfl
    ·exact nS0 a (List.mem_append_left _ hA) z
   have hn:H a≠none:=fun e=>al e (z.imp (List.mem_append_right _) id)
   rw[same a hA hn]at e
   exact nt a xs e (z.imp (List.mem_append_right _) id)
 have e1:((v,x)::(us.zip ys++L))=((v::us).zip (x::ys))++L:=rfl
 refine hQ eys v H' ?_
 rw[e1]
 refine⟨⟨B++A2,OwL.join' (OwL.unzips (Ows.subB (b2:=b) (b:=⟨b.K,H,fun a=>a∈A2\/b.S0 a,fun a=>a∈A⟩) rfl ntB (fun c z=>?_) hO)) (Ows.step kp' n' nt (fun a ha=>same a (fun hA=>dj a hA a ha rfl) fun e=>al e (.inl (List.mem_append_right _ ha))) h2),List.nodup_append.mpr ⟨nB,nA2,fun a ha c hc e=>?_⟩,fun a ha=>?_⟩,?_,w.s0,fun a xs e z=>ntB a xs e (.inr (.inr z))⟩
 ·rcases z with z | z
  ·exact (List.mem_append.mp z).imp id .inl
  ·exact .inr (.inr z)
 ·subst e
  rcases hB a ha with z | z
  ·exact al z (.inl (List.mem_append_right _ hc))
  ·exact dj a z a hc rfl
 ·rcases List.mem_append.mp ha with z | z
  ·rcases hB a z with z | z
   ·exact .inl (w.newC z)
   ·exact new a (List.mem_append_left _ z)
  ·exact new a (List.mem_append_right _ z)
 ·refine⟨fun c o e nc=>kp.k c o (w.fr.k c o e nc) fun hA=>?_,fun c e=>w.fr.n c (kp.n c e)⟩
  rcases new c (List.mem_append_left _ hA) with z | z
  ·rw[z]at e;cases e
  ·exact nc z
theorem Wd.pin{d:PyData}{ds:List PyData}{l:Bool}(w:Wd b H ((v,.fz d)::L))(e:d=if l then .list ds else .tuple ds):∃xs,Wd b H ((v,.pin l xs ds)::L):=by
 obtain⟨A0,h0,nd,new⟩:=w.out
 cases h0 with
 | cons r t =>
  cases r with
  | fz r =>
   cases l with
   | true =>
    subst e
    obtain⟨a,xs,rfl,h1,h2⟩:=r.list_inv
    exact⟨xs,⟨⟨_,Ows.cons (A:=[]) (.pinL h1 h2) t,nd,new⟩,w.fr,w.s0,w.nt⟩⟩
   | false =>
    subst e
    obtain⟨a,xs,rfl,h1,h2⟩:=r.tup_inv
    exact⟨xs,⟨⟨_,Ows.cons (A:=[]) (.pinT h1 h2) t,nd,new⟩,w.fr,w.s0,w.nt⟩⟩
theorem Wd.pinned{xs:List V}{ds:List PyData}{l:Bool}(w:Wd b H L)(m:(v,OD.pin l xs ds)∈L):∃a,v=.ref a/\xs.length=ds.length/\(if l then SqL b.K H a xs else SqT b.K H a xs)/\Wd b H (xs.zip (ds.map OD.fz)++L):=by
 obtain⟨A,h0,nd,new⟩:=w.out
 obtain⟨B,h⟩:=OwL.mem h0 m
 have q:Wd b H (xs.zip (ds.map OD.fz)++L):=w.adds fun S hS=>by
  obtain⟨B,h⟩:=hS _ m
  cases h with
  | pinL _ t=>exact t
  | pinT _ t=>exact t
 cases h with
 | pinL h1 h2=>exact⟨_,rfl,h2.length,h1.now,q⟩
 | pinT h1 h2=>exact⟨_,rfl,h2.length,h1.now,q⟩
end
end
section
abbrev DEnv:=List (Option OD)
def flat:St->DEnv->List (V × OD)
 | some v::σ,some x::ρ=>(v,x)::flat σ ρ
 | _::σ,_::ρ=>flat σ ρ
 | _,_=>[]
def Wf:St->DEnv->Prop
 | [],[]=>True
 | _::σ,none::ρ=>Wf σ ρ
 | some _::σ,some _::ρ=>Wf σ ρ
 | _,_=>False
section
variable{σ:St}{ρ:DEnv}{i:Nat}{x y:OD}{v u:V}
theorem bb{o:Option V}:flat (o::σ) (none::ρ)=flat σ ρ:=by cases o<;>rfl
theorem Wf.get:∀{σ:St} {ρ:DEnv} {i:Nat},Wf σ ρ->ρ[i]?=some (some x)->∃v,σ[i]?=some (some v)
 | [],[],_,_,e=>by simp at e
 | [],_::_,_,h,_=>by simp[Wf]at h
 | _::_,[],_,_,e=>by simp at e
 | some v::_,some _::_,0,_,_=>⟨v,rfl⟩
 | none::_,some _::_,_,h,_=>by simp[Wf]at h
 | o::_,none::_,0,_,e=>by simp at e
 | o::σ,none::ρ,i + 1,h,e=>by
  obtain⟨v,q⟩:=Wf.get (σ:=σ) (ρ:=ρ) (i:=i) h (by simpa using e)
  exact⟨v,by simpa using q⟩
 | some _::σ,some _::ρ,i + 1,h,e=>by
  obtain⟨v,q⟩:=Wf.get (σ:=σ) (ρ:=ρ) (i:=i) h (by simpa using e)
  exact⟨v,by simpa using q⟩
theorem Wf.len:∀{σ:St} {ρ:DEnv},Wf σ ρ->σ.length=ρ.length
 | [],[],_=>rfl
 | [],_::_,h=>by simp[Wf]at h
 | _::_,[],h=>by simp[Wf]at h
 | o::σ,none::ρ,h=>by simp[Wf.len (σ:=σ) (ρ:=ρ) h]
 | some _::σ,some _::ρ,h=>by simp[Wf.len (σ:=σ) (ρ:=ρ) h]
 | none::_,some _::_,h=>by simp[Wf]at h
theorem Wf.off:∀{σ:St} {ρ:DEnv} {i:Nat},Wf σ ρ->Wf σ (ρ.set i none)
 | [],[],_,_=>trivial
 | [],_::_,_,h=>by simp[Wf]at h
 | _::_,[],_,h=>by simp[Wf]at h
 | o::σ,none::ρ,0,h=>h
 | some _::σ,some _::ρ,0,h=>h
 | none::_,some _::_,_,h=>by simp[Wf]at h
 | o::σ,none::ρ,i + 1,h=>Wf.off (σ:=σ) (ρ:=ρ) (i:=i) h
 | some _::σ,some _::ρ,i + 1,h=>Wf.off (σ:=σ) (ρ:=ρ) (i:=i) h
theorem Wf.put:∀{σ:St} {ρ:DEnv} {i:Nat},Wf σ ρ->Wf (σ.set i (some v)) (ρ.set i (some x))
 | [],[],_,_=>trivial
 | [],_::_,_,h=>by simp[Wf]at h
 | _::_,[],_,h=>by simp[Wf]at h
 | o::σ,none::ρ,0,h=>h
 | some _::σ,some _::ρ,0,h=>h
 | none::_,some _::_,_,h=>by simp[Wf]at h
 | o::σ,none::ρ,i + 1,h=>Wf.put (σ:=σ) (ρ:=ρ) (i:=i) h
 | some _::σ,some _::ρ,i + 1,h=>Wf.put (σ:=σ) (ρ:=ρ) (i:=i) h
theorem bq:∀{σ:St} {ρ:DEnv} {i:Nat},ρ[i]?=some (some x)->σ[i]?=some (some v)->(flat σ ρ).Perm ((v,x)::flat σ (ρ.set i none))
 | [],_,_,_,e=>by simp at e
 | _::_,[],_,e,_=>by simp at e
 | some u::σ,some y::ρ,0,e,e'=>by
  simp at e e'
  subst e e'
  exact .refl _
 | none::_,_::_,0,_,e=>by simp at e
 | some _::_,none::_,0,e,_=>by simp at e
 | o::σ,none::ρ,i + 1,e,e'=>by
  rw[List.set_cons_succ,bb,bb]
  exact bq (by simpa using e) (by simpa using e')
 | some u::σ,some y::ρ,i + 1,e,e'=>by
  rw[List.set_cons_succ]
  exact ((bq (σ:=σ) (ρ:=ρ) (i:=i) (by simpa using e) (by simpa using e')).cons _).trans (List.Perm.swap _ _ _)
 | none::σ,some y::ρ,i + 1,e,e'=>by
  rw[List.set_cons_succ]
  exact bq (σ:=σ) (ρ:=ρ) (i:=i) (by simpa using e) (by simpa using e')
theorem cB:∀{σ:St} {ρ:DEnv} {i:Nat},i < ρ.length->σ.length=ρ.length->(flat (σ.set i (some v)) (ρ.set i (some x))).Perm ((v,x)::flat σ (ρ.set i none))
 | _,[],_,h,_=>by simp at h
 | [],_::_,_,_,h=>by simp at h
 | o::σ,y::ρ,0,_,_=>by
  rw[List.set_cons_zero,List.set_cons_zero,List.set_cons_zero,bb]
  exact .refl _
 | o::σ,none::ρ,i + 1,h,h'=>by
  rw[List.set_cons_succ,List.set_cons_succ,List.set_cons_succ,bb,bb]
  exact cB (by simpa using h) (by simpa using h')
 | none::σ,some _::ρ,i + 1,h,h'=>by
  rw[List.set_cons_succ,List.set_cons_succ,List.set_cons_succ]
  exact cB (σ:=σ) (ρ:=ρ) (i:=i) (by simpa using h) (by simpa using h')
 | some u::σ,some y::ρ,i + 1,h,h'=>by
  rw[List.set_cons_succ,List.set_cons_succ,List.set_cons_succ]
  exact ((cB (σ:=σ) (ρ:=ρ) (i:=i) (by simpa using h) (by simpa using h')).cons _).trans (List.Perm.swap _ _ _)
theorem set_self{α:Type}:∀{l:List α} {i:Nat} {x:α},l[i]?=some x->l.set i x=l
 | [],_,_,e=>by simp at e
 | _::_,0,_,e=>by simp at e;subst e;rfl
 | y::l,i + 1,x,e=>by rw[List.set_cons_succ,set_self (by simpa using e)]
end
inductive OR where | val (x:OD) | rf (i:Nat)
def stk:List V->List OR->List (V × OD)
 | v::τ,.val x::θ=>(v,x)::stk τ θ
 | _::τ,.rf _::θ=>stk τ θ
 | _,_=>[]
def Al(σ:St):List V->List OR->Prop
 | [],[]=>True
 | _::τ,.val _::θ=>Al σ τ θ
 | v::τ,.rf i::θ=>σ[i]?=some (some v)/\Al σ τ θ
 | _,_=>False
structure Fr where
 σ:St
 ρ:DEnv
 τ:List V
 θ:List OR
def ff(F:List Fr):List (V × OD):=F.flatMap fun f=>stk f.τ f.θ++flat f.σ f.ρ
structure Rel (b:Bs)(F:List Fr)(σ:St)(H:Hp)(ρ:DEnv)(τ:List V)(θ:List OR):Prop where
 wf:Wf σ ρ
 al:Al σ τ θ
 wff:∀f∈F,Wf f.σ f.ρ/\Al f.σ f.τ f.θ
 wd:Wd b H (stk τ θ++(flat σ ρ++ff F))
def aN(ρ:DEnv):OR->Option PyData
 | .val x=>x.dat
 | .rf i=>(ρ[i]?.join).bind OD.dat
section
variable{b:Bs}{F:List Fr}{σ:St}{H H':Hp}{ρ ρ':DEnv}{τ vs:List V}{θ rs:List OR}{v u:V}{r:OR}{x y:OD}{d:PyData}{i:Nat}
theorem join_some{α:Type}{o:Option (Option α)}{x:α}(h:o.join=some x):o=some (some x):=by
 cases o with
 | none=>cases h
 | some o=>exact congrArg some h
theorem aA:∀{vs τ:List V} {rs θ:List OR},vs.length=rs.length->stk (vs++τ) (rs++θ)=stk vs rs++stk τ θ
 | [],_,[],_,_=>rfl
 | _::vs,τ,.val _::rs,θ,e=>by
  simp only[List.cons_append,stk]
  rw[aA (by simpa using e)]
 | _::vs,τ,.rf _::rs,θ,e=>by
  simp only[List.cons_append,stk]
  exact aA (by simpa using e)
 | [],_,_::_,_,e=>by simp at e
 | _::_,_,[],_,e=>by simp at e
theorem aO:∀{vs τ:List V} {rs θ:List OR},vs.length=rs.length->(Al σ (vs++τ) (rs++θ) ↔ Al σ vs rs/\Al σ τ θ)
 | [],_,[],_,_=>by simp[Al]
 | _::vs,τ,.val _::rs,θ,e=>by
  simp only[List.cons_append,Al]
  exact aO (by simpa using e)
 | _::vs,τ,.rf _::rs,θ,e=>by
  simp only[List.cons_append,Al]
  rw[aO (by simpa using e),and_assoc]
 | [],_,_::_,_,e=>by simp at e
 | _::_,_,[],_,e=>by simp at e
theorem Rel.rot(R:Rel b F σ H ρ (vs++v::τ) (rs++r::θ))(e:vs.length=rs.length):Rel b F σ H ρ (v::vs++τ) (r::rs++θ):=by
 obtain⟨a1,a2⟩:=(aO e).mp R.al
 have a3:Al σ [v] [r]/\Al σ τ θ:=(aO (vs:=[v]) (rs:=[r]) rfl).mp a2
 refine⟨R.wf,(aO (vs:=[v]) (rs:=[r]) rfl).mpr ⟨a3.1,(aO e).mpr ⟨a1,a3.2⟩⟩,R.wff,R.wd.perm ?_⟩
 refine List.Perm.append_right _ ?_
 have e1:stk (v::vs++τ) (r::rs++θ)=stk [v] [r]++(stk vs rs++stk τ θ):=by
  rw[<- aA e,<- aA (vs:=[v]) (rs:=[r]) rfl];rfl
 have e2:stk (vs++v::τ) (rs++r::θ)=stk vs rs++(stk [v] [r]++stk τ θ):=by
  rw[aA e,<- aA (vs:=[v]) (rs:=[r]) rfl];rfl
 rw[e1,e2,<- List.append_assoc,<- List.append_assoc]
 exact List.perm_append_comm.append_right _
theorem Rel.tor(R:Rel b F σ H ρ (v::vs++τ) (r::rs++θ))(e:vs.length=rs.length):Rel b F σ H ρ (vs++v::τ) (rs++r::θ):=by
 obtain⟨a1,a2⟩:=(aO (vs:=[v]) (rs:=[r]) (τ:=vs++τ) (θ:=rs++θ) rfl).mp R.al
 obtain⟨a3,a4⟩:=(aO e).mp a2
 refine⟨R.wf,(aO e).mpr ⟨a3,(aO (vs:=[v]) (rs:=[r]) rfl).mpr ⟨a1,a4⟩⟩,R.wff,R.wd.perm ?_⟩
 refine List.Perm.append_right _ ?_
 have e1:stk (v::vs++τ) (r::rs++θ)=stk [v] [r]++(stk vs rs++stk τ θ):=by
  rw[<- aA e,<- aA (vs:=[v]) (rs:=[r]) rfl];rfl
 have e2:stk (vs++v::τ) (rs++r::θ)=stk vs rs++(stk [v] [r]++stk τ θ):=by
  rw[aA e,<- aA (vs:=[v]) (rs:=[r]) rfl];rfl
 rw[e1,e2,<- List.append_assoc,<- List.append_assoc]
 exact List.perm_append_comm.append_right _
theorem Rel.drop(R:Rel b F σ H ρ (v::τ) (r::θ)):Rel b F σ H ρ τ θ:=by
 cases r with
 | val x=>exact⟨R.wf,R.al,R.wff,R.wd.drop⟩
 | rf i=>exact⟨R.wf,R.al.2,R.wff,R.wd⟩
theorem Rel.drops(R:Rel b F σ H ρ (vs++τ) (rs++θ))(e:vs.length=rs.length):Rel b F σ H ρ τ θ:=by
 induction vs generalizing rs with
 | nil=>cases rs with
  | nil=>exact R
  | cons _ _=>simp at e
 | cons v vs ih=>cases rs with
  | nil=>simp at e
  | cons r rs=>exact ih (Rel.drop R) (by simpa using e)
theorem Rel.sc(R:Rel b F σ H ρ τ θ)(h:Sc v d):Rel b F σ H ρ (v::τ) (.val (.fz d)::θ):=⟨R.wf,R.al,R.wff,R.wd.sc h⟩
theorem Rel.slot(R:Rel b F σ H ρ τ θ)(e:ρ[i]?=some (some x)):∃v,σ[i]?=some (some v)/\Wd b H ((v,x)::(stk τ θ++(flat σ (ρ.set i none)++ff F))):=by
 obtain⟨v,ev⟩:=R.wf.get e
 refine⟨v,ev,R.wd.perm ?_⟩
 refine ((bq e ev).append_right _ |>.append_left _).trans ?_
 exact List.perm_middle
theorem Rel.unslot(wf:Wf σ ρ)(al:Al (σ.set i (some v)) τ θ)(wff:∀f∈F,Wf f.σ f.ρ/\Al f.σ f.τ f.θ)(hi:i < ρ.length)(w:Wd b H ((v,x)::(stk τ θ++(flat σ (ρ.set i none)++ff F)))):Rel b F (σ.set i (some v)) H (ρ.set i (some x)) τ θ:=by
 refine⟨wf.put,al,wff,w.perm ?_⟩
 refine (List.perm_middle.symm).trans ?_
 exact ((cB hi wf.len).symm.append_right _).append_left _
theorem Rel.back(wf:Wf σ ρ)(al:Al σ τ θ)(wff:∀f∈F,Wf f.σ f.ρ/\Al f.σ f.τ f.θ)(ev:σ[i]?=some (some v))(w:Wd b H ((v,x)::(stk τ θ++(flat σ (ρ.set i none)++ff F)))):Rel b F σ H (ρ.set i (some x)) τ θ:=by
 have hi:i < ρ.length:=by rw[<- wf.len];exact (List.getElem?_eq_some_iff.mp ev).1
 have e:σ.set i (some v)=σ:=set_self ev
 have:=Rel.unslot (i:=i) (v:=v) (x:=x) (b:=b) (H:=H) wf (by rw[e];exact al) wff hi w
 rw[e]at this
 exact this
theorem Rel.dt(R:Rel b F σ H ρ (v::τ) (r::θ))(e:aN ρ r=some d):Dt b.K H v d:=by
 cases r with
 | val x=>exact R.wd.memDt (by simp[stk]) e
 | rf i =>
  simp only[aN,Option.bind_eq_some_iff]at e
  obtain⟨x,e1,e2⟩:=e
  obtain⟨u,eu,w⟩:=R.drop.slot (join_some e1)
  have:v=u:=by have:=R.al.1;rw[eu]at this;cases this;rfl
  subst this
  exact w.memDt (List.mem_cons_self) e2
theorem Rel.dt2(R:Rel b F σ H ρ (u::v::τ) (r'::r::θ))(e:aN ρ r=some d):Dt b.K H v d:=(R.drop).dt e
theorem Rel.frzS(R:Rel b F σ H ρ τ θ)(e:ρ[i]?=some (some x))(ed:x.dat=some d):Rel b F σ H (ρ.set i (some (.fz d))) τ θ:=by
 obtain⟨v,ev,w⟩:=R.slot e
 exact Rel.back R.wf R.al R.wff ev (w.frz ed)
theorem Rel.dupS(R:Rel b F σ H ρ τ θ)(e:ρ[i]?=some (some (.fz d)))(ev:σ[i]?=some (some v)):Rel b F σ H ρ (v::τ) (.val (.fz d)::θ):=by
 obtain⟨u,eu,w⟩:=R.slot e
 rw[ev]at eu
 cases eu
 have w2:=w.dup
 have e1:ρ.set i (some (.fz d))=ρ:=set_self e
 have:=Rel.back (i:=i) (x:=.fz d) (τ:=v::τ) (θ:=.val (.fz d)::θ) R.wf R.al R.wff ev (w2.perm (List.Perm.swap _ _ _))
 rw[e1]at this
 exact this
def frz1(ρ:DEnv):OR->Option (PyData × DEnv)
 | .val x=>x.dat.map (·,ρ)
 | .rf i=>(ρ[i]?.join).bind fun x=>x.dat.map fun d=>(d,ρ.set i (some (.fz d)))
theorem Rel.frz1(R:Rel b F σ H ρ (v::τ) (r::θ))(e:frz1 ρ r=some (d,ρ')):Rel b F σ H ρ' (v::τ) (.val (.fz d)::θ):=by
 cases r with
 | val x =>
  simp only[L2.frz1,Option.map_eq_some_iff]at e
  obtain⟨d',e1,e2⟩:=e
  cases e2
  exact⟨R.wf,R.al,R.wff,R.wd.frz e1⟩
 | rf i =>
  simp only[L2.frz1,Option.bind_eq_some_iff,Option.map_eq_some_iff]at e
  obtain⟨x,e1,d',e2,e3⟩:=e
  cases e3
  have hi:i < ρ.length:=(List.getElem?_eq_some_iff.mp (join_some e1)).1
  exact (R.drop.frzS (join_some e1) e2).dupS (by rw[List.getElem?_set_self hi]) R.al.1
def frzL(ρ:DEnv):List OR->Option (List PyData × DEnv)
 | []=>some ([],ρ)
 | r::rs=>(L2.frz1 ρ r).bind fun z=>(frzL z.2 rs).map fun y=>(z.1::y.1,y.2)
theorem jw:∀{vs:List V} {rs:List OR} {ρ ρ':DEnv} {ds:List PyData} {τ:List V} {θ:List OR},Rel b F σ H ρ (vs++τ) (rs++θ)->vs.length=rs.length->L2.frzL ρ rs=some (ds,ρ')->Rel b F σ H ρ' (vs++τ) (ds.map (fun d=>OR.val (.fz d))++θ)/\vs.length=ds.length
 | [],[],_,_,_,_,_,R,_,e=>by simp only[L2.frzL]at e;cases e;exact⟨R,rfl⟩
 | v::vs,r::rs,ρ,ρ',ds,τ,θ,R,e,h=>by
  simp only[L2.frzL,Option.bind_eq_some_iff,Option.map_eq_some_iff]at h
  obtain⟨⟨d,ρ1⟩,h1,⟨ds',ρ2⟩,h2,h3⟩:=h
  cases h3
  have R1:Rel b F σ H ρ1 (v::(vs++τ)) (.val (.fz d)::(rs++θ)):=Rel.frz1 R h1
  have e':vs.length=rs.length:=by simpa using e
  obtain⟨R2,e2⟩:=jw (Rel.tor (vs:=vs) (rs:=rs) R1 e') e' h2
  exact⟨Rel.rot R2 (by rw[e2,List.length_map]),by simp[e2]⟩
 | [],_::_,_,_,_,_,_,_,e,_=>by simp at e
 | _::_,[],_,_,_,_,_,_,e,_=>by simp at e
end
end
section
section
variable{X:Cx}
def Aw(K:PySem.W.Frag):R2:=fun x y H Q=>∃l b xs zs,x=.ref l/\y=.ref b/\SqL K H l xs/\SqL K H b zs/\xs.length + zs.length≤sizeLine/\∀p,H p=none->Q (.ref p) (upd H p (.lst (xs++zs)))
theorem uF:OpR X (binaryOp .Add) (Aw X.K):=by
 intro pins s σ H x y v u Q I rx ry h
 obtain⟨l,b,xs,zs,rfl,rfl,hH,hB,hz,q⟩:=h
 cases rx
 cases ry
 obtain⟨its,r,⟨⟨c,dd,dt,sl⟩,n,e,hc,_,hd⟩,_⟩:=I.list hH
 obtain⟨its2,r2,⟨⟨c2,dd2,dt2,sl2⟩,n2,e2,hc2,_,hd2⟩,_⟩:=I.list hB
 have l1:=r.length
 have l2:=r2.length
 simp only at hc hd hc2 hd2
 subst hc hd hc2 hd2
 refine concat_meets ⟨_,e,rfl⟩ ⟨_,e2,rfl⟩ noFill_list_add seq_list_add PySem.F.slot_list_add PySem.F.entry_list_add (PySem.F.args_list_add_2 _ _) (list_addW l b its.toArray its2.toArray n n2 dd dd2 sl sl2 (by rw[List.size_toArray,List.size_toArray];omega)) ⟨e,e2,?_⟩
 have ea:its.toArray++its2.toArray=(its++its2).toArray:=by simp
 rw[ea]
 exact⟨.ref _,_,I.lnew (t':=s.toks) (r.append r2) (by rw[List.length_append];omega),rfl,q _ I.fresh⟩
end
abbrev DK:=OR->DEnv->Prop
abbrev DE:=DEnv->DK->Prop
abbrev DT:=DEnv->(Bool->DEnv->Prop)->Prop
abbrev DA:=DEnv->(List OR->DEnv->Prop)->Prop
abbrev DR2:=PyData->PyData->(PyData->Prop)->Prop
abbrev DRn:=List PyData->(PyData->Prop)->Prop
def dA(K:PySem.W.Frag)(te:TE)(de:DE):Prop:=∀(b:Bs) (F:List Fr) (σ:St) (H:Hp) (ρ:DEnv) (τ:List V) (θ:List OR) (Qd:DK) (Q:VK),b.K=K->Rel b F σ H ρ τ θ->de ρ Qd->(∀v H' r ρ',Rel b F σ H' ρ' (v::τ) (r::θ)->Qd r ρ'->Q v H')->te σ H Q
def SndT(K:PySem.W.Frag)(te:TT)(de:DT):Prop:=∀(b:Bs) (F:List Fr) (σ:St) (H:Hp) (ρ:DEnv) (τ:List V) (θ:List OR) (Qd:Bool->DEnv->Prop) (Q:Bool->Hp->Prop),b.K=K->Rel b F σ H ρ τ θ->de ρ Qd->(∀k H' ρ',Rel b F σ H' ρ' τ θ->Qd k ρ'->Q k H')->te σ H Q
def qR(K:PySem.W.Frag)(te:TA)(de:DA):Prop:=∀(b:Bs) (F:List Fr) (σ:St) (H:Hp) (ρ:DEnv) (τ:List V) (θ:List OR) (Qd:List OR->DEnv->Prop) (Q:List V->Hp->Prop),b.K=K->Rel b F σ H ρ τ θ->de ρ Qd->(∀vs H' rs ρ',vs.length=rs.length->Rel b F σ H' ρ' (vs++τ) (rs++θ)->Qd rs ρ'->Q vs H')->te σ H Q
inductive PDe (X:Cx)(e:Expr)(de:DE):Prop | mk (te:TE) (h:PE X e te) (s:dA X.K te de)
inductive PDt (X:Cx)(e:Expr)(de:DT):Prop | mk (te:TT) (h:PT X e te) (s:SndT X.K te de)
inductive PDw (X:Cx)(e:Expr)(de:DT):Prop | mk (te:TT) (h:PW X e te) (s:SndT X.K te de)
inductive PDa (X:Cx)(es:List Expr)(de:DA):Prop | mk (te:TA) (h:PA X es te) (s:qR X.K te de)
section
variable{X:Cx}{K:PySem.W.Frag}{a b c e:Expr}{es:List Expr}{da db dc:DE}{pos:Pos}{x:Str}{i:Nat}
def dVar(i:Nat):DE:=fun ρ Q=>match ρ[i]?.join with
 | some (.fz d)=>Q (.val (.fz d)) ρ
 | some _=>Q (.rf i) ρ
 | none=>False
theorem uG:dA K (tVar i) (dVar i):=by
 intro b F σ H ρ τ θ Qd Q hK R h q
 unfold dVar at h
 cases e:ρ[i]?.join with
 | none=>rw[e]at h;exact h.elim
 | some x =>
  rw[e]at h
  have e':=join_some e
  obtain⟨v,ev⟩:=R.wf.get e'
  have base:Qd (.rf i) ρ->tVar i σ H Q:=fun h=>⟨v,ev,q v H (.rf i) ρ ⟨R.wf,show Al σ (v::τ) (.rf i::θ) from ⟨ev,R.al⟩,R.wff,R.wd⟩ h⟩
  cases x with
  | fz d=>exact⟨v,ev,q v H _ ρ (R.dupS e' ev) h⟩
  | _=>exact base h
theorem yd (hN:X.N[i]?=some x) (hv:Vis X.env.scope x) (hd:(x == ("__debug__":Str))=false:=by decide) (hcd:(x == ("__classdict__":Str))=false:=by decide):PDe X (.Name x pos) (dVar i):=⟨_,aX hN hv hd hcd,uG⟩
def dC(d:PyData):DE:=fun ρ Q=>Q (.val (.fz d)) ρ
theorem qS{v:V}{d:PyData}(h:Sc v d):dA K (tC v) (dC d):=fun b F σ H ρ τ θ Qd Q hK R hd q=>q v H _ ρ (R.sc h) hd
theorem pd_int{i j pos}:PDe X (.Constant (.int i) j pos) (dC (.int i)):=⟨_,gK,qS (.int i)⟩
theorem pd_bl{k j pos}:PDe X (.Constant (.bool k) j pos) (dC (.bool k)):=⟨_,zS,qS (.bl k)⟩
theorem pd_str{x j pos}:PDe X (.Constant (.str x) j pos) (dC (.str x)):=⟨_,xf,qS (.str x)⟩
theorem Rel.addK{b:Bs}{F:List Fr}{σ:St}{H:Hp}{ρ:DEnv}{τ:List V}{θ:List OR}{v:V}{d:PyData}(R:Rel b F σ H ρ τ θ)(h:∀S H,Fz b.K S H v d):Rel b F σ H ρ (v::τ) (.val (.fz d)::θ):=⟨R.wf,R.al,R.wff,R.wd.add fun S _ _ _=>h S H⟩
theorem qT {v:V} {d:PyData} {u:Value} (hg:Gl X x) (hm:X.mg x=some u) (r:RelV v u) (s:∀S H,Fz X.K S H v d) (hd:(x == ("__debug__":Str))=false:=by decide):PDe X (.Name x pos) (dC d) :=
 ⟨_,uf hg hm r hd,fun b F σ H ρ τ θ Qd Q hK R hd q=>q v H _ ρ (R.addK (by rw[hK];exact s)) hd⟩
def SndR2(K:PySem.W.Frag)(r2:R2)(r:DR2):Prop:=∀(H:Hp) (v u:V) (dx dy:PyData) (Qd:PyData->Prop) (Q:VK),Dt K H v dx->Dt K H u dy->r dx dy Qd->(∀w d,Sc w d->Qd d->Q w H)->r2 v u H Q
def uH(r:DR2)(a b:DE):DE:=fun ρ Q=>a ρ fun x ρ1=>b ρ1 fun y ρ2=>∃dx dy,aN ρ2 x=some dx/\aN ρ2 y=some dy/\r dx dy fun d=>Q (.val (.fz d)) ρ2
theorem lM{r2:R2}{r:DR2}{ta tb:TE}(hr:SndR2 K r2 r)(ha:dA K ta da)(hb:dA K tb db):dA K (wc r2 ta tb) (uH r da db):=by
 intro b F σ H ρ τ θ Qd Q hK R h q
 refine ha b F σ H ρ τ θ _ _ hK R h fun v H1 x ρ1 R1 h1=>hb b F σ H1 ρ1 _ _ _ _ hK R1 h1 fun u H2 y ρ2 R2 h2=>?_
 obtain⟨dx,dy,e1,e2,h3⟩:=h2
 exact hr H2 v u dx dy _ _ (hK ▸ R2.dt2 e1) (hK ▸ R2.dt e2) h3 fun w d sc hd=>q w H2 _ _ (R2.drop.drop.sc sc) hd
theorem Ax{op:Operator}{r2:R2}{r:DR2}(ho:OpR X (binaryOp op) r2)(hr:SndR2 X.K r2 r):PDe X a da->PDe X b db->PDe X (.BinOp a op b pos) (uH r da db)
 | ⟨_,h1,s1⟩,⟨_,h2,s2⟩=>⟨_,we ho h1 h2,lM hr s1 s2⟩
def dI(C:Int->Int->Prop)(g:Int->Int->PyData):DR2:=fun x y Q=>∃i j,x=.int i/\y=.int j/\C i j/\Q (g i j)
def Ey(g:Int->Int->PyData):DR2:=fun x y Q=>∃i j,x=.int i/\y=.int j/\Q (g i j)
theorem uI{C:Int->Int->Prop}{g:Int->Int->V}{g':Int->Int->PyData}(h:∀i j,Sc (g i j) (g' i j)):SndR2 K (rI C g) (dI C g'):=by
 rintro H v u dx dy Qd Q hv hu ⟨i,j,rfl,rfl,c,hq⟩ q
 cases hv
 cases hu
 exact⟨i,j,rfl,rfl,c,q _ _ (h i j) hq⟩
theorem qU{g:Int->Int->V}{g':Int->Int->PyData}(h:∀i j,Sc (g i j) (g' i j)):SndR2 K (t9 g) (Ey g'):=by
 rintro H v u dx dy Qd Q hv hu ⟨i,j,rfl,rfl,hq⟩ q
 cases hv
 cases hu
 exact⟨i,j,rfl,rfl,q _ _ (h i j) hq⟩
theorem ye{op:CmpOp}{r2:R2}{r:DR2}(ho:OpR X (compareOp op) r2)(hr:SndR2 X.K r2 r)(hm:behindInMarks op b=false):PDe X a da->PDe X b db->PDe X (.Compare a [op] [b] pos) (uH r da db)
 | ⟨_,h1,s1⟩,⟨_,h2,s2⟩=>⟨_,jh ho h1 h2 hm,lM hr s1 s2⟩
theorem uJ{g:Int->Int->Bool}:SndR2 K (t9 fun i j=>.bl (g i j)) (Ey fun i j=>.bool (g i j)):=qU fun _ _=>.bl _
def pK:PyData->PyData->Option Bool
 | .int i,.int j=>some (decide (i=j))
 | .bool i,.bool j=>some (decide (i=j))
 | .str i,.str j=>some (decide (i=j))
 | .none,.none=>some true
 | .none,.int _=>some false | .int _,.none=>some false | .none,.str _=>some false | .str _,.none=>some false
 | .int _,.str _=>some false | .str _,.int _=>some false
 | _,_=>none
theorem mX{H:Hp}{v u:V}{dx dy:PyData}{k:Bool}(hv:Dt K H v dx)(hu:Dt K H u dy)(e:pK dx dy=some k):xI v u=true/\decide (v=u)=k:=by
 cases hv<;>cases hu<;>cases e<;>refine⟨rfl,?_⟩<;>simp
def dEqS:DR2:=fun x y Q=>∃k,pK x y=some k/\Q (.bool k)
def dNeS:DR2:=fun x y Q=>∃k,pK x y=some k/\Q (.bool (!k))
theorem sr_eq:SndR2 K rEq dEqS:=by
 rintro H v u dx dy Qd Q hv hu ⟨k,e,hq⟩ q
 obtain⟨h1,h2⟩:=mX hv hu e
 exact⟨h1,by rw[h2];exact q _ _ (.bl k) hq⟩
theorem sr_ne:SndR2 K rNe dNeS:=by
 rintro H v u dx dy Qd Q hv hu ⟨k,e,hq⟩ q
 obtain⟨h1,h2⟩:=mX hv hu e
 exact⟨h1,by rw[h2];exact q _ _ (.bl _) hq⟩
def dEqD:DR2:=fun x y Q=>SeqAt.shaped x=true/\SeqAt.shaped y=true/\Q (.bool (PyData.eqv x y))
def dNeD:DR2:=fun x y Q=>SeqAt.shaped x=true/\SeqAt.shaped y=true/\Q (.bool (!PyData.eqv x y))
theorem yf:SndR2 K (An K) dEqD:=fun H v u dx dy Qd Q hv hu ⟨s1,s2,hq⟩ q=>⟨dx,dy,hv,hu,s1,s2,q _ _ (.bl _) hq⟩
theorem yg:SndR2 K (Ao K) dNeD:=fun H v u dx dy Qd Q hv hu ⟨s1,s2,hq⟩ q=>⟨dx,dy,hv,hu,s1,s2,q _ _ (.bl _) hq⟩
def Ay:PyData->PyData->Option Bool
 | .int i,.int j=>some (decide (i=j))
 | .str i,.str j=>some (decide (i=j))
 | .none,.none=>some true
 | .int _,.str _=>some false | .str _,.int _=>some false | .none,.int _=>some false | .int _,.none=>some false | .none,.str _=>some false | .str _,.none=>some false
 | _,_=>none
def memD(x:PyData):List PyData->Option Bool
 | []=>some false
 | y::ys=>(Ay y x).bind fun k=>(memD x ys).map (k || ·)
def zI:PyData->Bool
 | .int _=>true
 | .str _=>true
 | .none=>true
 | _=>false
def EM(neg:Bool):DR2:=fun x y Q=>∃ds k,(y=.list ds\/y=.tuple ds)/\zI x=true/\memD x ds=some k/\Q (.bool (if neg then !k else k))
theorem uK{H:Hp}{v w:V}{x y:PyData}{k:Bool}(hv:Dt K H v x)(hw:Dt K H w y)(e:Ay y x=some k):cm w=true/\eqV w v=k:=by
 cases hv<;>cases hw<;>cases e<;>exact⟨rfl,rfl⟩
theorem yh{H:Hp}{v:V}{x:PyData}(hv:Dt K H v x)(hx:zI x=true):cm v=true:=by cases hv<;>first | rfl | cases hx
theorem mY{H:Hp}{v:V}{x:PyData}(hv:Dt K H v x)(hx:zI x=true){vs:List V}{ds:List PyData}{k:Bool}(h:DtAll K H vs ds)(e:memD x ds=some k):cm v=true/\vs.all cm=true/\inV v vs=k:=by
 induction ds generalizing vs k with
 | nil=>cases h;cases e;exact⟨yh hv hx,rfl,rfl⟩
 | cons d ds ih =>
  cases h with
  | @cons w _ vs _ r t =>
   obtain⟨k1,e1,e⟩:=Option.bind_eq_some_iff.mp e
   obtain⟨k2,e2,rfl⟩:=Option.map_eq_some_iff.mp e
   obtain⟨h1,h2,h3⟩:=ih t e2
   obtain⟨a1,a2⟩:=uK hv r e1
   refine⟨h1,?_,?_⟩
   ·show (cm w && vs.all cm)=true
    rw[a1,h2];rfl
   ·show (eqV w v || inV v vs)=_
    rw[a2,h3]
theorem wu{neg:Bool}:SndR2 K (Di K neg) (EM neg):=by
 rintro H v u dx dy Qd Q hv hu ⟨ds,k,hy,hx,hm,hq⟩ q
 rcases hy with rfl | rfl
 ·cases hu with
  | lst h t =>
   obtain⟨h1,h2,h3⟩:=mY hv hx t hm
   exact⟨_,_,rfl,.inl h,h1,h2,by rw[h3];exact q _ _ (.bl _) hq⟩
 ·cases hu with
  | tup h t =>
   obtain⟨h1,h2,h3⟩:=mY hv hx t hm
   exact⟨_,_,rfl,.inr h,h1,h2,by rw[h3];exact q _ _ (.bl _) hq⟩
def isNn:PyData->Bool | .none=>true | _=>false
def pL(neg:Bool)(a:DE):DE:=fun ρ Q=>a ρ fun x ρ1=>∃d,aN ρ1 x=some d/\Q (.val (.fz (.bool (if neg then !isNn d else isNn d)))) ρ1
theorem gI{H:Hp}{v:V}{d:PyData}(h:Dt K H v d):decide (v=.non)=isNn d:=by cases h<;>simp[isNn]
theorem yi{j pos'}:PDe X a da->PDe X (.Compare a [.Is] [.Constant .none j pos'] pos) (pL false da)
 | ⟨_,h1,s1⟩=>⟨_,qi (qh h1),fun b F σ H ρ τ θ Qd Q hK R h q=>s1 b F σ H ρ τ θ _ _ hK R h fun v H1 x ρ1 R1 ⟨d,e,h1⟩=>by
  rw[gI (R1.dt e)]
  exact q _ H1 _ _ (R1.drop.sc (.bl _)) h1⟩
theorem uL{j pos'}:PDe X a da->PDe X (.Compare a [.IsNot] [.Constant .none j pos'] pos) (pL true da)
 | ⟨_,h1,s1⟩=>⟨_,qi (mI h1),fun b F σ H ρ τ θ Qd Q hK R h q=>s1 b F σ H ρ τ θ _ _ hK R h fun v H1 x ρ1 R1 ⟨d,e,h1⟩=>by
  rw[gI (R1.dt e)]
  exact q _ H1 _ _ (R1.drop.sc (.bl _)) h1⟩
def Az(a b:DE):DE:=fun ρ Q=>a ρ fun x ρ1=>∃k,aN ρ1 x=some (.bool k)/\if k=true then b ρ1 Q else Q (.val (.fz (.bool false))) ρ1
def Dn(a b:DE):DE:=fun ρ Q=>a ρ fun x ρ1=>∃k,aN ρ1 x=some (.bool k)/\if k=true then Q (.val (.fz (.bool true))) ρ1 else b ρ1 Q
def AA(a:DE):DE:=fun ρ Q=>a ρ fun x ρ1=>∃k,aN ρ1 x=some (.bool k)/\Q (.val (.fz (.bool (!k)))) ρ1
theorem qV{op}:PDe X a da->PDe X (.BoolOp op [a] pos) da
 | ⟨_,h1,s1⟩=>⟨_,xj h1,s1⟩
theorem yj:PDe X a da->PDe X (.BoolOp .And (b::es) pos) db->PDe X (.BoolOp .And (a::b::es) pos) (Az da db)
 | ⟨_,h1,s1⟩,⟨_,h2,s2⟩=>⟨_,xk h1 h2,fun b F σ H ρ τ θ Qd Q hK R h q=>s1 b F σ H ρ τ θ _ _ hK R h fun v H1 x ρ1 R1 ⟨k,e,h1⟩=>by
  cases R1.dt e
  refine⟨k,rfl,?_⟩
  cases k with
  | false=>rw[if_neg Bool.false_ne_true]at h1 ⊢;exact q _ H1 _ _ (R1.drop.sc (.bl _)) h1
  | true=>rw[if_pos rfl]at h1 ⊢;exact s2 b F σ H1 ρ1 τ θ _ _ hK R1.drop h1 q⟩
theorem AB:PDe X a da->PDe X (.BoolOp .Or (b::es) pos) db->PDe X (.BoolOp .Or (a::b::es) pos) (Dn da db)
 | ⟨_,h1,s1⟩,⟨_,h2,s2⟩=>⟨_,zX h1 h2,fun b F σ H ρ τ θ Qd Q hK R h q=>s1 b F σ H ρ τ θ _ _ hK R h fun v H1 x ρ1 R1 ⟨k,e,h1⟩=>by
  cases R1.dt e
  refine⟨k,rfl,?_⟩
  cases k with
  | true=>rw[if_pos rfl]at h1 ⊢;exact q _ H1 _ _ (R1.drop.sc (.bl _)) h1
  | false=>rw[if_neg Bool.false_ne_true]at h1 ⊢;exact s2 b F σ H1 ρ1 τ θ _ _ hK R1.drop h1 q⟩
theorem yk:PDe X a da->PDe X (.UnaryOp .Not a pos) (AA da)
 | ⟨_,h1,s1⟩=>⟨_,xl h1,fun b F σ H ρ τ θ Qd Q hK R h q=>s1 b F σ H ρ τ θ _ _ hK R h fun v H1 x ρ1 R1 ⟨k,e,h1⟩=>by
  cases R1.dt e
  exact⟨k,rfl,q _ H1 _ _ (R1.drop.sc (.bl _)) h1⟩⟩
def gj(a:DE):DT:=fun ρ Q=>a ρ fun x ρ1=>∃k,aN ρ1 x=some (.bool k)/\Q k ρ1
theorem gY{ta:TE}(s1:dA K ta da):SndT K (wg ta) (gj da):=fun b F σ H ρ τ θ Qd Q hK R h q=>s1 b F σ H ρ τ θ _ _ hK R h fun v H1 x ρ1 R1 ⟨k,e,h1⟩=>by
 cases R1.dt e
 exact⟨k,rfl,q _ H1 _ R1.drop h1⟩
theorem qW{ta:TE}(s1:dA K ta da):SndT K (tB ta) (gj da):=fun b F σ H ρ τ θ Qd Q hK R h q=>s1 b F σ H ρ τ θ _ _ hK R h fun v H1 x ρ1 R1 ⟨k,e,h1⟩=>by
 cases R1.dt e
 exact⟨k,rfl,q _ H1 _ R1.drop h1⟩
theorem uM{op:CmpOp}{r2:R2}{r:DR2}(ho:OpR X (compareOp op) r2)(hr:SndR2 X.K r2 r)(hm:behindInMarks op b=false):PDe X a da->PDe X b db->PDt X (.Compare a [op] [b] pos) (gj (uH r da db))
 | ⟨_,h1,s1⟩,⟨_,h2,s2⟩=>⟨_,ji ho h1 h2 hm,gY (lM hr s1 s2)⟩
theorem uN{j pos'}:PDe X a da->PDt X (.Compare a [.Is] [.Constant .none j pos'] pos) (gj (pL false da))
 | ⟨_,h1,s1⟩=>⟨_,qj (qh h1),qW (fun b F σ H ρ τ θ Qd Q hK R h q=>s1 b F σ H ρ τ θ _ _ hK R h fun v H1 x ρ1 R1 ⟨d,e,h1⟩=>by
  rw[gI (R1.dt e)]
  exact q _ H1 _ _ (R1.drop.sc (.bl _)) h1)⟩
theorem qX{j pos'}:PDe X a da->PDt X (.Compare a [.IsNot] [.Constant .none j pos'] pos) (gj (pL true da))
 | ⟨_,h1,s1⟩=>⟨_,qj (mI h1),qW (fun b F σ H ρ τ θ Qd Q hK R h q=>s1 b F σ H ρ τ θ _ _ hK R h fun v H1 x ρ1 R1 ⟨d,e,h1⟩=>by
  rw[gI (R1.dt e)]
  exact q _ H1 _ _ (R1.drop.sc (.bl _)) h1)⟩
def AC(t u:DT):DT:=fun ρ Q=>t ρ fun c ρ1=>if c=true then u ρ1 Q else Q false ρ1
def Do(t u:DT):DT:=fun ρ Q=>t ρ fun c ρ1=>if c=true then Q true ρ1 else u ρ1 Q
def AD(t:DT):DT:=fun ρ Q=>t ρ fun c ρ1=>Q (!c) ρ1
variable{dt du:DT}
theorem PDw.pt:PDw X e dt->PDt X e dt
 | ⟨_,h,s⟩=>⟨_,h.pt,s⟩
theorem qY:PDt X a dt->PDw X (.BoolOp .And [a] pos) dt
 | ⟨_,h,s⟩=>⟨_,ui h,s⟩
theorem uO:PDt X a dt->PDw X (.BoolOp .Or [a] pos) dt
 | ⟨_,h,s⟩=>⟨_,xg h,s⟩
theorem uP:PDt X a dt->PDw X (.BoolOp .And (b::es) pos) du->PDw X (.BoolOp .And (a::b::es) pos) (AC dt du)
 | ⟨_,h1,s1⟩,⟨_,h2,s2⟩=>⟨_,xh h1 h2,fun b F σ H ρ τ θ Qd Q hK R h q=>s1 b F σ H ρ τ θ _ _ hK R h fun k H1 ρ1 R1 h1=>by
  cases k with
  | false=>rw[if_neg Bool.false_ne_true]at h1 ⊢;exact q _ H1 _ R1 h1
  | true=>rw[if_pos rfl]at h1 ⊢;exact s2 b F σ H1 ρ1 τ θ _ _ hK R1 h1 q⟩
theorem yl:PDt X a dt->PDw X (.BoolOp .Or (b::es) pos) du->PDw X (.BoolOp .Or (a::b::es) pos) (Do dt du)
 | ⟨_,h1,s1⟩,⟨_,h2,s2⟩=>⟨_,zU h1 h2,fun b F σ H ρ τ θ Qd Q hK R h q=>s1 b F σ H ρ τ θ _ _ hK R h fun k H1 ρ1 R1 h1=>by
  cases k with
  | true=>rw[if_pos rfl]at h1 ⊢;exact q _ H1 _ R1 h1
  | false=>rw[if_neg Bool.false_ne_true]at h1 ⊢;exact s2 b F σ H1 ρ1 τ θ _ _ hK R1 h1 q⟩
theorem uQ:PDt X a dt->PDt X (.UnaryOp .Not a pos) (AD dt)
 | ⟨_,h,s⟩=>⟨_,xi h,fun b F σ H ρ τ θ Qd Q hK R h q=>s b F σ H ρ τ θ _ _ hK R h fun k H1 ρ1 R1 h1=>q _ H1 _ R1 h1⟩
def EN(t:DT)(a b:DE):DE:=fun ρ Q=>t ρ fun c ρ1=>if c=true then a ρ1 Q else b ρ1 Q
theorem AE:PDt X c dt->PDe X a da->PDe X b db->PDe X (.IfExp c a b pos) (EN dt da db)
 | ⟨_,h,s⟩,⟨_,h1,s1⟩,⟨_,h2,s2⟩=>⟨_,j9 h h1 h2,fun b F σ H ρ τ θ Qd Q hK R h q=>s b F σ H ρ τ θ _ _ hK R h fun k H1 ρ1 R1 h1=>by
  cases k with
  | true=>rw[if_pos rfl]at h1 ⊢;exact s1 b F σ H1 ρ1 τ θ _ _ hK R1 h1 q
  | false=>rw[if_neg Bool.false_ne_true]at h1 ⊢;exact s2 b F σ H1 ρ1 τ θ _ _ hK R1 h1 q⟩
theorem DtAll.emp{H:Hp}{xs:List V}{ds:List PyData}(h:DtAll K H xs ds):xs.isEmpty=ds.isEmpty:=by cases h<;>rfl
end
end
section
section
variable{X:Cx}{K:PySem.W.Frag}{a b c e:Expr}{es:List Expr}{da db dc:DE}{dt:DA}{pos:Pos}{x:Str}
def dNil:DA:=fun ρ Q=>Q [] ρ
def AF(a:DE)(t:DA):DA:=fun ρ Q=>a ρ fun x ρ1=>t ρ1 fun xs ρ2=>Q (x::xs) ρ2
theorem pda_nil:PDa X [] dNil:=⟨_,aZ,fun b F σ H ρ τ θ Qd Q hK R h q=>q [] H [] ρ rfl R h⟩
theorem qZ(hs:starEach (e::es) X.env=(false,eval e X.env)::starEach es X.env:=by rfl):PDe X e da->PDa X es dt->PDa X (e::es) (AF da dt)
 | ⟨_,h1,s1⟩,⟨_,h2,s2⟩=>⟨_,aK h1 h2 hs,fun b F σ H ρ τ θ Qd Q hK R h q=>s1 b F σ H ρ τ θ _ _ hK R h fun v H1 r ρ1 R1 h1=>s2 b F σ H1 ρ1 _ _ _ _ hK R1 h1 fun vs H2 rs ρ2 el R2 h2 =>
  q (v::vs) H2 (r::rs) ρ2 (by simp[el]) (Rel.rot R2 el) h2⟩
end
def own1(ρ:DEnv):OR->Option (OD × DEnv)
 | .val x=>some (x,ρ)
 | .rf i=>(frz1 ρ (.rf i)).map fun z=>(.fz z.1,z.2)
def mv1(ρ:DEnv):OR->Option (OD × DEnv)
 | .val x=>some (x,ρ)
 | .rf i=>(ρ[i]?.join).map fun x=>(x,ρ.set i none)
def mapR(f:DEnv->OR->Option (OD × DEnv))(ρ:DEnv):List OR->Option (List OD × DEnv)
 | []=>some ([],ρ)
 | r::rs=>(f ρ r).bind fun z=>(mapR f z.2 rs).map fun y=>(z.1::y.1,y.2)
def q0:List OD->Option (List PyData)
 | []=>some []
 | .fz d::xs=>match q0 xs with | some ds=>some (d::ds) | none=>none
 | _::_=>none
def mkTup(xs:List OD):OD:=match q0 xs with
 | some ds=>.fz (.tuple ds)
 | none=>.tup xs
section
variable{b:Bs}{F:List Fr}{σ:St}{H H':Hp}{ρ ρ':DEnv}{τ vs:List V}{θ rs:List OR}{v u:V}{r:OR}{x y:OD}{d:PyData}{ds:List PyData}{i:Nat}{L:List (V × OD)}{p:Addr}
theorem Rel.own1(R:Rel b F σ H ρ (v::τ) (r::θ))(e:own1 ρ r=some (x,ρ')):Rel b F σ H ρ' (v::τ) (.val x::θ):=by
 cases r with
 | val x=>simp only[L2.own1]at e;cases e;exact R
 | rf i =>
  simp only[L2.own1,Option.map_eq_some_iff]at e
  obtain⟨⟨d,ρ1⟩,e1,e2⟩:=e
  cases e2
  exact R.frz1 e1
theorem Rel.mv1(R:Rel b F σ H ρ (v::τ) (r::θ))(e:mv1 ρ r=some (x,ρ')):Rel b F σ H ρ' (v::τ) (.val x::θ):=by
 cases r with
 | val x=>simp only[L2.mv1]at e;cases e;exact R
 | rf i =>
  simp only[L2.mv1,Option.map_eq_some_iff]at e
  obtain⟨x,e1,e2⟩:=e
  cases e2
  obtain⟨u,eu,w⟩:=R.drop.slot (join_some e1)
  have:v=u:=by have:=R.al.1;rw[eu]at this;cases this;rfl
  subst this
  exact⟨R.wf.off,R.drop.al,R.wff,w⟩
theorem eQ{f:DEnv->OR->Option (OD × DEnv)}(hf:∀{ρ ρ':DEnv} {τ:List V} {θ:List OR} {v:V} {r:OR} {x:OD},Rel b F σ H ρ (v::τ) (r::θ)->f ρ r=some (x,ρ')->Rel b F σ H ρ' (v::τ) (.val x::θ)) :
  ∀{vs:List V} {rs:List OR} {ρ ρ':DEnv} {xs:List OD} {τ:List V} {θ:List OR},Rel b F σ H ρ (vs++τ) (rs++θ)->vs.length=rs.length->mapR f ρ rs=some (xs,ρ')->Rel b F σ H ρ' (vs++τ) (xs.map OR.val++θ)/\vs.length=xs.length
 | [],[],_,_,_,_,_,R,_,e=>by simp only[mapR]at e;cases e;exact⟨R,rfl⟩
 | v::vs,r::rs,ρ,ρ',ds,τ,θ,R,e,h=>by
  simp only[mapR,Option.bind_eq_some_iff,Option.map_eq_some_iff]at h
  obtain⟨⟨d,ρ1⟩,h1,⟨ds',ρ2⟩,h2,h3⟩:=h
  cases h3
  have R1:Rel b F σ H ρ1 (v::(vs++τ)) (.val d::(rs++θ)):=hf R h1
  have e':vs.length=rs.length:=by simpa using e
  obtain⟨R2,e2⟩:=eQ hf (Rel.tor (vs:=vs) (rs:=rs) R1 e') e' h2
  exact⟨Rel.rot R2 (by rw[e2,List.length_map]),by simp[e2]⟩
 | [],_::_,_,_,_,_,_,_,e,_=>by simp at e
 | _::_,[],_,_,_,_,_,_,e,_=>by simp at e
theorem cf:∀{vs:List V} {xs:List OD},vs.length=xs.length->stk vs (xs.map OR.val)=vs.zip xs
 | [],[],_=>rfl
 | _::_,_::_,e=>by simp only[List.map_cons,stk,List.zip_cons_cons];rw[cf (by simpa using e)]
 | [],_::_,e=>by simp at e
 | _::_,[],e=>by simp at e
theorem Rel.vals{xs:List OD}(R:Rel b F σ H ρ (vs++τ) (xs.map OR.val++θ))(e:vs.length=xs.length):Wd b H (vs.zip xs++(stk τ θ++(flat σ ρ++ff F))):=by
 have w:=R.wd
 rw[aA (by rw[List.length_map];exact e),cf e,List.append_assoc]at w
 exact w
theorem Rel.push(R:Rel b F σ H ρ τ θ)(w:Wd b H' ((v,x)::(stk τ θ++(flat σ ρ++ff F)))):Rel b F σ H' ρ (v::τ) (.val x::θ):=⟨R.wf,R.al,R.wff,w⟩
theorem Wd.below{z:V × OD}{L1 L2:List (V × OD)}(w:Wd b H (z::(L1++L2))):Wd b H (z::L2):=Wd.drops (L1:=L1) (w.perm (List.perm_middle.symm))
theorem fzL_map{xs:List OD}{ds:List PyData}(e:q0 xs=some ds):xs=ds.map OD.fz:=by
 induction xs generalizing ds with
 | nil=>cases e;rfl
 | cons x xs ih =>
  cases x with
  | fz d =>
   rw[q0]at e
   cases h:q0 xs with
   | none=>rw[h]at e;cases e
   | some ds=>rw[h]at e;cases e;rw[ih h];rfl
  | _=>cases e
theorem fL:∀(ds:List PyData),q0 (ds.map OD.fz)=some ds
 | []=>rfl
 | d::ds=>by simp only[List.map_cons,q0,fL ds]
theorem ku{xs:List OD}(w:Wd b H (vs.zip xs++L))(el:vs.length=xs.length)(hp:H p=none):Wd b (upd H p (.tup vs)) ((.ref p,mkTup xs)::L):=by
 unfold mkTup
 cases h:q0 xs with
 | some ds =>
  have hx:=fzL_map h
  subst hx
  refine Wd.below (L1:=vs.zip (ds.map OD.fz)) (w.newTup (fun S hS=>hS.all (by simpa using el) fun z hz=>List.mem_append_left _ hz) hp)
 | none=>exact w.newTupC el hp
end
section
variable{X:Cx}{K:PySem.W.Frag}{a b c e:Expr}{es:List Expr}{da db dc:DE}{dt:DA}{pos:Pos}{x:Str}
def Dp(f:DEnv->OR->Option (OD × DEnv))(t:DA):DE:=fun ρ Q=>t ρ fun rs ρ1=>∃xs ρ2,mapR f ρ1 rs=some (xs,ρ2)/\rs.length≤1000000/\Q (.val (mkTup xs)) ρ2
def Dq(f:DEnv->OR->Option (OD × DEnv))(t:DA):DE:=fun ρ Q=>t ρ fun rs ρ1=>∃xs ρ2,mapR f ρ1 rs=some (xs,ρ2)/\rs.length≤1000000/\Q (.val (.lst xs)) ρ2
structure Hand (f:DEnv->OR->Option (OD × DEnv)):Prop where
 ok:∀{b:Bs} {F:List Fr} {σ:St} {H:Hp} {ρ ρ':DEnv} {τ:List V} {θ:List OR} {v:V} {r:OR} {x:OD},Rel b F σ H ρ (v::τ) (r::θ)->f ρ r=some (x,ρ')->Rel b F σ H ρ' (v::τ) (.val x::θ)
theorem AG:Hand own1:=⟨Rel.own1⟩
variable{f:DEnv->OR->Option (OD × DEnv)}
theorem ym{x1}(hf:Hand f):PDa X es dt->PDe X (.Tuple es x1 pos) (Dp f dt)
 | ⟨_,h1,s1⟩=>⟨_,gT h1,fun b F σ H ρ τ θ Qd Q hK R h q=>s1 b F σ H ρ τ θ _ _ hK R h fun vs H1 rs ρ1 el R1 ⟨xs,ρ2,e1,e3,h1⟩=>⟨lK (by rw[el];exact e3),fun p hp=>by
  obtain⟨R2,e4⟩:=eQ hf.ok R1 el e1
  exact q _ _ _ _ ((R2.drops (by rw[List.length_map];exact e4)).push (ku (R2.vals e4) e4 hp)) h1⟩⟩
theorem yn(hf:Hand f):PDa X es dt->PDe X (.List es pos) (Dq f dt)
 | ⟨_,h1,s1⟩=>⟨_,jl h1,fun b F σ H ρ τ θ Qd Q hK R h q=>s1 b F σ H ρ τ θ _ _ hK R h fun vs H1 rs ρ1 el R1 ⟨xs,ρ2,e1,e3,h1⟩=>⟨lK (by rw[el];exact e3),fun p hp=>by
  obtain⟨R2,e4⟩:=eQ hf.ok R1 el e1
  exact q _ _ _ _ ((R2.drops (by rw[List.length_map];exact e4)).push ((R2.vals e4).newLst e4 hp)) h1⟩⟩
end
def dB(ρ:DEnv):OR->Option OD
 | .val x=>some x
 | .rf i=>ρ[i]?.join
def listOf:OD->Option (List PyData)
 | .fz (.list ds)=>some ds
 | .lst xs=>q0 xs
 | _=>none
def gk:OD->Option (List PyData)
 | .fz (.tuple ds)=>some ds
 | _=>none
def zJ(ρ:DEnv)(r:OR):Option (List PyData):=(dB ρ r).bind listOf
def itemO:OD->Int->Option OD
 | .fz (.list ds),i=>match atI ds i with | some d=>some (.fz d) | none=>none
 | .fz (.tuple ds),i=>match atI ds i with | some d=>some (.fz d) | none=>none
 | .lst xs,i=>atI xs i
 | .tup xs,i=>atI xs i
 | _,_=>none
def itemS:OD->Int->Option (PyData × OD)
 | .lst xs,i=>match ixN xs.length i with
  | some k=>match xs[k]? with
   | some c=>match c.dat with | some d=>some (d,.lst (xs.set k (.fz d))) | none=>none
   | none=>none
  | none=>none
 | .tup xs,i=>match ixN xs.length i with
  | some k=>match xs[k]? with
   | some c=>match c.dat with | some d=>some (d,.tup (xs.set k (.fz d))) | none=>none
   | none=>none
  | none=>none
 | _,_=>none
def bu(ρ:DEnv)(r:OR)(i:Int):Option (OD × DEnv):=match r with
 | .val x=>match itemO x i with | some y=>some (y,ρ) | none=>none
 | .rf j=>match ρ[j]?.join with
  | some x=>match itemS x i with | some (d,y)=>some (.fz d,ρ.set j (some y)) | none=>none
  | none=>none
section
variable{b:Bs}{F:List Fr}{σ:St}{H H':Hp}{ρ ρ':DEnv}{τ vs:List V}{θ rs:List OR}{v u:V}{r r':OR}{x y:OD}{d:PyData}{ds:List PyData}{i:Nat}{L:List (V × OD)}{p:Addr}
theorem gZ{α β:Type}{xs:List α}{ys:List β}{i:Int}{y:β}(el:xs.length=ys.length)(h:atI ys i=some y):∃k x,ixN xs.length i=some k/\ys[k]?=some y/\xs[k]?=some x/\atI xs i=some x:=by
 unfold atI at h ⊢
 rw[<- el]at h
 simp only[Option.bind_eq_some_iff]at h
 obtain⟨k,e1,e2⟩:=h
 have hk:k < ys.length:=(List.getElem?_eq_some_iff.mp e2).1
 refine⟨k,xs[k]'(by omega),e1,e2,List.getElem?_eq_getElem _,?_⟩
 rw[e1]
 exact List.getElem?_eq_getElem _
theorem cp{α β:Type}{xs:List α}{ys:List β}{k:Nat}{x:α}{y:β}(e1:xs[k]?=some x)(e2:ys[k]?=some y):(x,y)∈xs.zip ys:=by
 rw[List.mem_iff_getElem?]
 exact⟨k,by rw[List.getElem?_zip_eq_some];exact⟨e1,e2⟩⟩
theorem Wd.pick{z:V × OD}{Z:List (V × OD)}(w:Wd b H (Z++L))(m:z∈Z):Wd b H (z::L):=by
 obtain⟨Z1,Z2,rfl⟩:=List.append_of_mem m
 refine Wd.below (L1:=Z1++Z2) (w.perm ?_)
 rw[List.append_assoc,List.append_assoc]
 exact List.perm_middle
theorem yo{n k:Nat}{i:Int}(h:ixN n i=some k):k < n:=by
 unfold ixN at h
 split at h
 ·split at h
  ·cases h;omega
  ·cases h
 ·split at h
  ·cases h;omega
  ·cases h
theorem Wd.takeKid{k:Nat}{z:OD}(w:Wd b H ((v,x)::L))(e:x.kids[k]?=some z):∃u,Chd b H v x k u z/\Wd b H ((u,z)::L):=by
 obtain⟨A0,h0,_,_⟩:=w.out
 cases h0 with
 | cons r t =>
  obtain⟨u,B,A',c,_⟩:=r.kid e
  refine⟨u,c,Wd.puts (L1:=[(v,x)]) (L2:=[(u,z)]) w fun S A h nd hA al nt=>?_⟩
  obtain⟨u',B,A',c',hB,pB,_⟩:=(OwL.one h).kid e
  have eu:u'=u:=(Chd.det c' c).1
  subst eu
  have sb:∀c∈B,c∈A:=fun c hc=>pB.mem_iff.mpr (List.mem_append_left _ hc)
  exact⟨B,OwL.of1 (Ow.sub nt (fun c z=>z.elim (·.1) fun z=>hA c (sb c z)) hB),(List.nodup_append.mp (pB.nodup_iff.mp nd)).1,sb⟩
theorem Wd.itemF{i:Int}{l:Bool}(w:Wd b H ((v,.fz (if l then .list ds else .tuple ds))::L))(e:atI ds i=some d):∃p vs u,v=.ref p/\(SqL b.K H p vs\/SqT b.K H p vs)/\atI vs i=some u/\Wd b H ((u,.fz d)::L):=by
 obtain⟨xs,w2⟩:=Wd.pin w rfl
 obtain⟨a,rfl,el,h,w3⟩:=w2.pinned List.mem_cons_self
 obtain⟨k,u,_,e2,e3,e4⟩:=gZ el e
 refine⟨a,xs,u,rfl,?_,e4,Wd.below (L1:=[(V.ref a,OD.pin l xs ds)]) (w3.pick (cp e3 (by rw[List.getElem?_map,e2];rfl)))⟩
 cases l with
 | true=>exact .inl h
 | false=>exact .inr h
theorem Wd.itemO{i:Int}(w:Wd b H ((v,x)::L))(e:itemO x i=some y):∃p vs u,v=.ref p/\(SqL b.K H p vs\/SqT b.K H p vs)/\atI vs i=some u/\Wd b H ((u,y)::L):=by
 cases x with
 | fz d =>
  cases d with
  | list ds =>
   simp only[L2.itemO]at e
   cases h:atI ds i with
   | none=>rw[h]at e;cases e
   | some d=>rw[h]at e;cases e;exact Wd.itemF (l:=true) w h
  | tuple ds =>
   simp only[L2.itemO]at e
   cases h:atI ds i with
   | none=>rw[h]at e;cases e
   | some d=>rw[h]at e;cases e;exact Wd.itemF (l:=false) w h
  | _=>simp[L2.itemO]at e
 | lst xs =>
  simp only[L2.itemO]at e
  obtain⟨k,_,e1,e2,_⟩:=gZ (xs:=xs) rfl e
  obtain⟨u,c,w2⟩:=w.takeKid (k:=k) (z:=y) e2
  cases c with
  | lst f1 f2 f3 f4=>exact⟨_,_,u,rfl,.inl (SqL.of f1),by unfold atI;rw[f2,e1];exact f3,w2⟩
 | tup xs =>
  simp only[L2.itemO]at e
  obtain⟨k,_,e1,e2,_⟩:=gZ (xs:=xs) rfl e
  obtain⟨u,c,w2⟩:=w.takeKid (k:=k) (z:=y) e2
  cases c with
  | tup f1 f2 f3 f4=>exact⟨_,_,u,rfl,.inr (SqT.of f1),by unfold atI;rw[f2,e1];exact f3,w2⟩
 | dic _ _=>simp[L2.itemO]at e
 | obj _ _ _=>simp[L2.itemO]at e
 | pin _ _ _=>simp[L2.itemO]at e
 | hole _=>simp[L2.itemO]at e
theorem Wd.itemS{i:Int}(w:Wd b H ((v,x)::L))(e:itemS x i=some (d,y)):∃p vs u,v=.ref p/\(SqL b.K H p vs\/SqT b.K H p vs)/\atI vs i=some u/\Wd b H ((u,.fz d)::(v,y)::L):=by
 cases x with
 | fz d=>simp[L2.itemS]at e
 | lst xs =>
  simp only[L2.itemS]at e
  split at e
  ·rename_i k e1
   split at e
   ·rename_i c e2
    split at e
    ·rename_i d' e3
     cases e
     obtain⟨u,ch,w2⟩:=w.frzAt (ks:=[k]) (y:=c) (d:=d) (by simp[OD.at,OD.kids,e2]) e3
     cases ch with
     | cons c1 c2 =>
      cases c2
      cases c1 with
      | lst f1 f2 f3 f4 =>
       simp only[OD.put,OD.kids,e2,OD.setKid]at w2
       exact⟨_,_,u,rfl,.inl (SqL.of f1),by unfold atI;rw[f2,e1];exact f3,w2⟩
    ·cases e
   ·cases e
  ·cases e
 | tup xs =>
  simp only[L2.itemS]at e
  split at e
  ·rename_i k e1
   split at e
   ·rename_i c e2
    split at e
    ·rename_i d' e3
     cases e
     obtain⟨u,ch,w2⟩:=w.frzAt (ks:=[k]) (y:=c) (d:=d) (by simp[OD.at,OD.kids,e2]) e3
     cases ch with
     | cons c1 c2 =>
      cases c2
      cases c1 with
      | tup f1 f2 f3 f4 =>
       simp only[OD.put,OD.kids,e2,OD.setKid]at w2
       exact⟨_,_,u,rfl,.inr (SqT.of f1),by unfold atI;rw[f2,e1];exact f3,w2⟩
    ·cases e
   ·cases e
  ·cases e
 | dic _ _=>simp[L2.itemS]at e
 | obj _ _ _=>simp[L2.itemS]at e
 | pin _ _ _=>simp[L2.itemS]at e
 | hole _=>simp[L2.itemS]at e
end
section
variable{X:Cx}{K:PySem.W.Frag}{a b c e:Expr}{es:List Expr}{da db dc:DE}{dt:DA}{pos:Pos}{x:Str}
def EO(a b:DE):DE:=fun ρ Q=>a ρ fun x ρ1=>b ρ1 fun y ρ2=>∃i z ρ3,aN ρ2 y=some (.int i)/\bu ρ2 x i=some (z,ρ3)/\Q (.val z) ρ3
theorem AH(hs:PlainIx b):PDe X a da->PDe X b db->PDe X (.Subscript a b pos) (EO da db)
 | ⟨_,h1,s1⟩,⟨_,h2,s2⟩=>⟨_,qy lA h1 h2 hs,fun b F σ H ρ τ θ Qd Q hK R h q=>s1 b F σ H ρ τ θ _ _ hK R h fun v H1 x ρ1 R1 h1=>s2 b F σ H1 ρ1 _ _ _ _ hK R1 h1 fun u H2 y ρ2 R2 ⟨i,z,ρ3,e1,e2,h2⟩=>by
  have hu:=R2.dt e1
  cases hu
  have R3:=R2.drop
  cases x with
  | val x =>
   simp only[bu]at e2
   cases e3:itemO x i with
   | none=>rw[e3]at e2;cases e2
   | some z' =>
    rw[e3]at e2
    cases e2
    obtain⟨p,vs,u,rfl,hs,hi,w⟩:=Wd.itemO R3.wd e3
    have q':=q u H2 _ _ (R3.drop.push w) h2
    rw[hK]at hs
    exact hs.elim (fun hs=>.inl ⟨p,vs,i,u,rfl,rfl,hs,hi,q'⟩) fun hs=>.inr (.inl ⟨p,vs,i,u,rfl,rfl,hs,hi,q'⟩)
  | rf j =>
   simp only[bu]at e2
   cases e3:ρ2[j]?.join with
   | none=>rw[e3]at e2;cases e2
   | some x =>
    rw[e3]at e2
    simp only at e2
    cases e4:itemS x i with
    | none=>rw[e4]at e2;cases e2
    | some z' =>
     obtain⟨d,x'⟩:=z'
     rw[e4]at e2
     cases e2
     obtain⟨v',ev,w⟩:=R3.drop.slot (join_some e3)
     have:v=v':=by have:=R3.al.1;rw[ev]at this;cases this;rfl
     subst this
     obtain⟨p,vs,u,rfl,hs,hi,w2⟩:=Wd.itemS w e4
     have R4:Rel b F σ H2 (ρ2.set j (some x')) (u::τ) (.val (.fz d)::θ):=Rel.back (τ:=u::τ) (θ:=.val (.fz d)::θ) R3.wf R3.drop.al R3.wff ev (w2.perm (List.Perm.swap _ _ _))
     have q':=q u H2 _ _ R4 h2
     rw[hK]at hs
     exact hs.elim (fun hs=>.inl ⟨p,vs,i,u,rfl,rfl,hs,hi,q'⟩) fun hs=>.inr (.inl ⟨p,vs,i,u,rfl,rfl,hs,hi,q'⟩)⟩
variable{k:Nat}{f:Addr}{fd:FuncData}{ps:List Str}{sp:DSp}{p:Pos}
def eh(ρ:DEnv):List OR->Option (List PyData)
 | []=>some []
 | r::rs=>(aN ρ r).bind fun d=>(eh ρ rs).map (d::·)
theorem Rel.dtL{b:Bs}{F:List Fr}{σ:St}{H:Hp}{ρ:DEnv}:∀{vs:List V} {rs:List OR} {τ:List V} {θ:List OR} {ds:List PyData},Rel b F σ H ρ (vs++τ) (rs++θ)->vs.length=rs.length->eh ρ rs=some ds->DtAll b.K H vs ds
 | [],[],_,_,_,_,_,e=>by simp only[eh]at e;cases e;exact .nil
 | v::vs,r::rs,τ,θ,ds,R,el,e=>by
  simp only[eh,Option.bind_eq_some_iff,Option.map_eq_some_iff]at e
  obtain⟨d,e1,ds',e2,rfl⟩:=e
  exact .cons (Rel.dt R e1) (Rel.dtL (Rel.drop R) (by simpa using el) e2)
 | [],_::_,_,_,_,_,e,_=>by simp at e
 | _::_,[],_,_,_,_,e,_=>by simp at e
def SndCB(K:PySem.W.Frag)(r2:List V->Hp->VK->Prop)(r:DRn):Prop:=∀(H:Hp) (vs:List V) (ds:List PyData) (Qd:PyData->Prop) (Q:VK),DtAll K H vs ds->r ds Qd->(∀w d,Sc w d->Qd d->Q w H)->r2 vs H Q
def CG(r:DRn)(t:DA):DE:=fun ρ Q=>t ρ fun rs ρ1=>∃ds,eh ρ1 rs=some ds/\r ds fun d=>Q (.val (.fz d)) ρ1
theorem rg{r2:List V->Hp->VK->Prop}{r:DRn}{ta:TA}(hr:SndCB K r2 r)(s1:qR K ta dt):dA K (Dh r2 ta) (CG r dt):=fun b F σ H ρ τ θ Qd Q hK R h q=>s1 b F σ H ρ τ θ _ _ hK R h fun vs H1 rs ρ1 el R1 ⟨ds,e1,h1⟩ =>
 hr H1 vs ds _ _ (hK ▸ R1.dtL el e1) h1 fun w d sc hd=>q w H1 _ _ ((R1.drops el).sc sc) hd
theorem bw {r2:List V->Hp->VK->Prop} {r:DRn} {id:String} (hc:bo X (.builtin id) r2) (hr:SndCB X.K r2 r) (hg:Gl X x) (hm:X.mg x=none) (hv:bootBuiltins x=some (.builtin id)) (hn:x≠"__name__":=by decide) (hdb:(x == ("__debug__":Str))=false:=by decide)
  (he:starEach (e::es) X.env=(false,eval e X.env)::starEach es X.env:=by rfl) (hpl:(backTo pos (starEach es X.env)).any (·.1)=false:=by rfl):PDa X (e::es) dt->PDe X (.Call (.Name x p) (e::es) [] pos) (CG r dt)
 | ⟨_,h1,s1⟩=>⟨_,b9 hc hg hm hv h1 hn hdb he hpl,rg hr s1⟩
theorem rh {r2:List V->Hp->VK->Prop} {r:DRn} {id:String} (hc:bo X (.type id) r2) (hr:SndCB X.K r2 r) (hg:Gl X x) (hm:X.mg x=none) (hv:bootBuiltins x=some (.type id)) (hn:x≠"__name__":=by decide) (hdb:(x == ("__debug__":Str))=false:=by decide)
  (he:starEach (e::es) X.env=(false,eval e X.env)::starEach es X.env:=by rfl) (hpl:(backTo pos (starEach es X.env)).any (·.1)=false:=by rfl):PDa X (e::es) dt->PDe X (.Call (.Name x p) (e::es) [] pos) (CG r dt)
 | ⟨_,h1,s1⟩=>⟨_,fI hc hg hm hv h1 hn hdb he hpl,rg hr s1⟩
def g6:PyData->Option Nat
 | .list ds=>some ds.length
 | .tuple ds=>some ds.length
 | _=>none
def dLen:DRn:=fun ds Q=>∃d n,ds=[d]/\g6 d=some n/\Q (.int n)
theorem sc_len:SndCB K (fun xs H Q=>∃x n,xs=[x]/\Af K x H n/\Q (.int n) H) dLen:=by
 rintro H vs ds Qd Q hv ⟨d,n,rfl,e,hq⟩ q
 cases hv with
 | cons h t =>
  cases t
  refine⟨_,n,rfl,?_,q _ _ (.int _) hq⟩
  cases h with
  | lst s t=>simp only[g6]at e;cases e;exact .inl ⟨_,s,t.length.symm⟩
  | tup s t=>simp only[g6]at e;cases e;exact .inr ⟨_,s,t.length.symm⟩
  | _=>simp[g6]at e
def dAbs:DRn:=fun ds Q=>∃i,ds=[.int i]/\Q (.int (if i < 0 then -i else i))
theorem sc_abs:SndCB K (fun xs H Q=>∃i,xs=[.int i]/\Q (.int (if i < 0 then -i else i)) H) dAbs:=by
 rintro H vs ds Qd Q hv ⟨i,rfl,hq⟩ q
 cases hv with | cons h t=>cases t;cases h;exact⟨i,rfl,q _ _ (.int _) hq⟩
def dMax:DRn:=fun ds Q=>∃i j,ds=[.int i,.int j]/\Q (.int (if j > i then j else i))
theorem sc_max:SndCB K (fun xs H Q=>∃i j,xs=[.int i,.int j]/\Q (.int (if j > i then j else i)) H) dMax:=by
 rintro H vs ds Qd Q hv ⟨i,j,rfl,hq⟩ q
 cases hv with | cons h t=>cases t with | cons h' t=>cases t;cases h;cases h';exact⟨i,j,rfl,q _ _ (.int _) hq⟩
def dMin:DRn:=fun ds Q=>∃i j,ds=[.int i,.int j]/\Q (.int (if j < i then j else i))
theorem sc_min:SndCB K (fun xs H Q=>∃i j,xs=[.int i,.int j]/\Q (.int (if j < i then j else i)) H) dMin:=by
 rintro H vs ds Qd Q hv ⟨i,j,rfl,hq⟩ q
 cases hv with | cons h t=>cases t with | cons h' t=>cases t;cases h;cases h';exact⟨i,j,rfl,q _ _ (.int _) hq⟩
def toInt:PyData->Option Int
 | .int i=>some i
 | .bool k=>some (if k then 1 else 0)
 | _=>none
def dInt:DRn:=fun ds Q=>∃d i,ds=[d]/\toInt d=some i/\Q (.int i)
theorem sc_int:SndCB K (fun xs H Q=>(∃i,xs=[.int i]/\Q (.int i) H)\/∃k,xs=[.bl k]/\Q (.int (if k then 1 else 0)) H) dInt:=by
 rintro H vs ds Qd Q hv ⟨d,i,rfl,e,hq⟩ q
 cases hv with
 | cons h t =>
  cases t
  cases h with
  | int j=>simp only[toInt]at e;cases e;exact .inl ⟨_,rfl,q _ _ (.int _) hq⟩
  | bl k=>simp only[toInt]at e;cases e;exact .inr ⟨_,rfl,q _ _ (.int _) hq⟩
  | _=>simp[toInt]at e
def allB:List PyData->Option (List Bool)
 | []=>some []
 | .bool k::ds=>(allB ds).map (k::·)
 | _::_=>none
theorem g7:∀{ds:List PyData} {bs:List Bool},allB ds=some bs->ds=bs.map PyData.bool
 | [],_,e=>by simp only[allB]at e;cases e;rfl
 | .bool k::ds,_,e=>by
  simp only[allB,Option.map_eq_some_iff]at e
  obtain⟨bs,e1,rfl⟩:=e
  rw[g7 e1];rfl
 | .none::_,_,e=>by simp[allB]at e
 | .int _::_,_,e=>by simp[allB]at e
 | .str _::_,_,e=>by simp[allB]at e
 | .list _::_,_,e=>by simp[allB]at e
 | .tuple _::_,_,e=>by simp[allB]at e
 | .dict _::_,_,e=>by simp[allB]at e
theorem DtAll.bls{H:Hp}{vs:List V}{bs:List Bool}(h:DtAll K H vs (bs.map PyData.bool)):vs=bs.map V.bl:=by
 induction bs generalizing vs with
 | nil=>cases h;rfl
 | cons n ns ih=>cases h with | cons r t=>cases r;rw[List.map_cons,ih t]
def dAll:DRn:=fun ds Q=>∃es bs,ds=[.list es]/\allB es=some bs/\Q (.bool (bs.all id))
theorem sc_all:SndCB K (fun xs H Q=>∃(p:Addr) (bs:List Bool),xs=[.ref p]/\SqL K H p (bs.map V.bl)/\Q (.bl (bs.all id)) H) dAll:=by
 rintro H vs ds Qd Q hv ⟨es,bs,rfl,e,hq⟩ q
 have:=g7 e
 subst this
 cases hv with
 | cons h t =>
  cases t
  cases h with
  | lst s t=>rw[t.bls]at s;exact⟨_,bs,rfl,s,q _ _ (.bl _) hq⟩
end
end
section
def seqOf(x:OD):Option (List PyData):=match listOf x with
 | some ds=>some ds
 | none=>gk x
section
variable{b:Bs}{F:List Fr}{σ:St}{H H':Hp}{ρ ρ':DEnv}{τ vs:List V}{θ rs:List OR}{v u:V}{r r':OR}{x y:OD}{d:PyData}{ds:List PyData}{i:Nat}{L:List (V × OD)}{p:Addr}
theorem Rel.mem(R:Rel b F σ H ρ (v::τ) (r::θ))(e:dB ρ r=some x):(v,x)∈stk (v::τ) (r::θ)++(flat σ ρ++ff F):=by
 cases r with
 | val y=>simp only[dB]at e;cases e;simp[stk]
 | rf i =>
  simp only[dB]at e
  refine List.mem_append_right _ (List.mem_append_left _ ?_)
  exact (bq (join_some e) R.al.1).mem_iff.mpr List.mem_cons_self
theorem Rel.mem1(R:Rel b F σ H ρ (u::v::τ) (r'::r::θ))(e:dB ρ r=some x):(v,x)∈stk (u::v::τ) (r'::r::θ)++(flat σ ρ++ff F):=by
 have h:=R.drop.mem e
 cases r' with
 | val y=>simp only[stk];exact List.mem_cons_of_mem _ h
 | rf i=>exact h
theorem Rel.drop2(R:Rel b F σ H ρ (u::v::τ) (r'::r::θ)):Rel b F σ H ρ (u::τ) (r'::θ):=(Rel.rot (vs:=[u]) (rs:=[r']) R rfl).drop
theorem Ows.fzs{S:Addr->Prop}{vs:List V}{ds:List PyData}{A:List Addr}(h:Ows b S H vs (ds.map OD.fz) A):FzA b.K S H vs ds:=by
 induction ds generalizing vs A with
 | nil=>cases h;exact .nil
 | cons d ds ih=>cases h with | cons r t=>cases r with | fz f=>exact .cons f (ih t)
theorem Wd.exp{A:List Addr}{vs:List V}(w:Wd b H L)(h0:OwL b (fun a=>a∈A\/b.S0 a) H L A)(nd:A.Nodup)(new:∀a∈A,b.H0 a=none\/b.C a)(h:FzA b.K (fun a=>a∈A\/b.S0 a) H vs ds):Wd b H (vs.zip (ds.map OD.fz)++L):=by
 have q:∀{vs:List V} {ds:List PyData},FzA b.K (fun a=>a∈A\/b.S0 a) H vs ds->OwL b (fun a=>a∈A\/b.S0 a) H (vs.zip (ds.map OD.fz)) []:=by
  intro vs
  induction vs with
  | nil=>intro ds h;cases h;exact .nil
  | cons v vs ih=>intro ds h;cases h with | cons r t=>exact Ows.cons (A:=[]) (.fz r) (ih t)
 exact⟨⟨A,OwL.join' (q h) h0,nd,new⟩,w.fr,w.s0,w.nt⟩
theorem Wd.lsItems(w:Wd b H L)(m:(v,x)∈L)(e:listOf x=some ds):∃a vs,v=.ref a/\vs.length=ds.length/\SqL b.K H a vs/\Wd b H (vs.zip (ds.map OD.fz)++L):=by
 obtain⟨A,h0,nd,new⟩:=w.out
 obtain⟨B,h⟩:=OwL.mem h0 m
 cases h with
 | @fz _ d f =>
  cases d with
  | list es =>
   simp only[listOf]at e
   cases e
   obtain⟨a,vs,rfl,h1,h2⟩:=f.list_inv
   exact⟨a,vs,rfl,h2.length,h1.now,w.exp h0 nd new h2⟩
  | _=>simp[listOf]at e
 | @lst a vs xs A' e1 t =>
  simp only[listOf]at e
  have hx:=fzL_map e
  subst hx
  have h2:=Ows.fzs t
  exact⟨a,vs,rfl,h2.length,SqL.of e1,w.exp h0 nd new h2⟩
 | _=>simp[listOf]at e
theorem Wd.tpItems(w:Wd b H L)(m:(v,x)∈L)(e:gk x=some ds):∃a vs,v=.ref a/\vs.length=ds.length/\SqT b.K H a vs/\Wd b H (vs.zip (ds.map OD.fz)++L):=by
 obtain⟨A,h0,nd,new⟩:=w.out
 obtain⟨B,h⟩:=OwL.mem h0 m
 cases h with
 | @fz _ d f =>
  cases d with
  | tuple es =>
   simp only[gk]at e
   cases e
   obtain⟨a,vs,rfl,h1,h2⟩:=f.tup_inv
   exact⟨a,vs,rfl,h2.length,h1.now,w.exp h0 nd new h2⟩
  | _=>simp[gk]at e
 | _=>simp[gk]at e
theorem Wd.sqItems(w:Wd b H L)(m:(v,x)∈L)(e:seqOf x=some ds):∃a vs,v=.ref a/\vs.length=ds.length/\(SqL b.K H a vs\/SqT b.K H a vs)/\Wd b H (vs.zip (ds.map OD.fz)++L):=by
 unfold seqOf at e
 cases h:listOf x with
 | some z=>rw[h]at e;cases e;obtain⟨a,vs,h1,h2,h3,h4⟩:=w.lsItems m h;exact⟨a,vs,h1,h2,.inl h3,h4⟩
 | none=>rw[h]at e;obtain⟨a,vs,h1,h2,h3,h4⟩:=w.tpItems m e;exact⟨a,vs,h1,h2,.inr h3,h4⟩
theorem Rel.newLst(R:Rel b F σ H ρ τ θ){Z:List (V × OD)}(w:Wd b H (Z++(stk τ θ++(flat σ ρ++ff F))))(el:vs.length=ds.length)(m:∀z∈vs.zip (ds.map OD.fz),z∈Z++(stk τ θ++(flat σ ρ++ff F)))(hp:H p=none) :
  Rel b F σ (upd H p (.lst vs)) ρ (.ref p::τ) (.val (.lst (ds.map OD.fz))::θ):=by
 obtain⟨A,h0,nd,new⟩:=w.out
 have w2:=Wd.exp w h0 nd new ((OwL.frzIn h0).all el m)
 exact R.push (Wd.below (Wd.newLst w2 (by simpa using el) hp))
theorem Rel.newTup(R:Rel b F σ H ρ τ θ){Z:List (V × OD)}(w:Wd b H (Z++(stk τ θ++(flat σ ρ++ff F))))(el:vs.length=ds.length)(m:∀z∈vs.zip (ds.map OD.fz),z∈Z++(stk τ θ++(flat σ ρ++ff F)))(hp:H p=none) :
  Rel b F σ (upd H p (.tup vs)) ρ (.ref p::τ) (.val (.fz (.tuple ds))::θ):=R.push (Wd.below (w.newTup (fun S hS=>hS.all el m) hp))
end
section
variable{X:Cx}{K:PySem.W.Frag}{a b c e:Expr}{es:List Expr}{da db dc:DE}{dt:DA}{pos p:Pos}{x:Str}
def uR(t:DA):DE:=fun ρ Q=>t ρ fun rs ρ1=>∃r ds,rs=[r]/\(dB ρ1 r).bind seqOf=some ds/\Q (.val (.lst (ds.map OD.fz))) ρ1
theorem pM (hg:Gl X x) (hm:X.mg x=none) (hv:bootBuiltins x=some (.type "list")) (hn:x≠"__name__":=by decide) (hdb:(x == ("__debug__":Str))=false:=by decide)
  (he:starEach (e::es) X.env=(false,eval e X.env)::starEach es X.env:=by rfl) (hpl:(backTo pos (starEach es X.env)).any (·.1)=false:=by rfl):PDa X (e::es) dt->PDe X (.Call (.Name x p) (e::es) [] pos) (uR dt)
 | ⟨_,h1,s1⟩=>⟨_,fI jq hg hm hv h1 hn hdb he hpl,fun b F σ H ρ τ θ Qd Q hK R h q=>s1 b F σ H ρ τ θ _ _ hK R h fun vs H1 rs ρ1 el R1 ⟨r,ds,e1,e2,h1⟩=>by
  subst e1
  obtain⟨z,e3,e4⟩:=Option.bind_eq_some_iff.mp e2
  match vs,el with
  | [v],_ =>
   obtain⟨a,us,rfl,el,hs,w⟩:=R1.wd.sqItems (R1.mem e3) e4
   rw[hK]at hs
   exact⟨a,us,rfl,hs,fun l hl=>q _ _ _ _ (Rel.drop2 (R1.newLst w el (fun z hz=>List.mem_append_left _ hz) hl)) h1⟩⟩
def yp(t:DA):DE:=fun ρ Q=>t ρ fun rs ρ1=>∃r ds,rs=[r]/\(dB ρ1 r).bind listOf=some ds/\Q (.val (.fz (.tuple ds))) ρ1
theorem rj (hg:Gl X x) (hm:X.mg x=none) (hv:bootBuiltins x=some (.type "tuple")) (hn:x≠"__name__":=by decide) (hdb:(x == ("__debug__":Str))=false:=by decide)
  (he:starEach (e::es) X.env=(false,eval e X.env)::starEach es X.env:=by rfl) (hpl:(backTo pos (starEach es X.env)).any (·.1)=false:=by rfl):PDa X (e::es) dt->PDe X (.Call (.Name x p) (e::es) [] pos) (yp dt)
 | ⟨_,h1,s1⟩=>⟨_,fI iJ hg hm hv h1 hn hdb he hpl,fun b F σ H ρ τ θ Qd Q hK R h q=>s1 b F σ H ρ τ θ _ _ hK R h fun vs H1 rs ρ1 el R1 ⟨r,ds,e1,e2,h1⟩=>by
  subst e1
  obtain⟨z,e3,e4⟩:=Option.bind_eq_some_iff.mp e2
  match vs,el with
  | [v],_ =>
   obtain⟨a,us,rfl,el,hs,w⟩:=R1.wd.lsItems (R1.mem e3) e4
   rw[hK]at hs
   exact⟨a,us,rfl,.inl ⟨hs,fun l hl=>q _ _ _ _ (Rel.drop2 (R1.newTup w el (fun z hz=>List.mem_append_left _ hz) hl)) h1⟩⟩⟩
def Dr(a b:DE):DE:=fun ρ Q=>a ρ fun x ρ1=>b ρ1 fun y ρ2=>∃ds es,zJ ρ2 x=some ds/\zJ ρ2 y=some es/\ds.length + es.length≤1000000/\Q (.val (.lst ((ds++es).map OD.fz))) ρ2
theorem uS{α β:Type}{xs xs':List α}{ys ys':List β}(h:xs.length=ys.length):(xs++xs').zip (ys++ys')=xs.zip ys++xs'.zip ys':=List.zip_append h
theorem yq:PDe X a da->PDe X b db->PDe X (.BinOp a .Add b pos) (Dr da db)
 | ⟨_,h1,s1⟩,⟨_,h2,s2⟩=>⟨_,we uF h1 h2,fun b F σ H ρ τ θ Qd Q hK R h q=>s1 b F σ H ρ τ θ _ _ hK R h fun v H1 x ρ1 R1 h1=>s2 b F σ H1 ρ1 _ _ _ _ hK R1 h1 fun u H2 y ρ2 R2 ⟨ds,es,e1,e2,hz,h2⟩=>by
  obtain⟨x',e3,e4⟩:=Option.bind_eq_some_iff.mp e1
  obtain⟨y',e5,e6⟩:=Option.bind_eq_some_iff.mp e2
  obtain⟨a,us,rfl,el,hs,w⟩:=R2.wd.lsItems (R2.mem1 e3) e4
  obtain⟨c,ws,rfl,el',hs',w'⟩:=w.lsItems (List.mem_append_right _ (R2.mem e5)) e6
  rw[<- List.append_assoc]at w'
  rw[hK]at hs hs'
  refine⟨a,c,us,ws,rfl,rfl,hs,hs',lK (by omega),fun l hl=>q _ _ _ _ (Rel.drop2 (Rel.drop2 (R2.newLst w' (by simp[el,el']) (fun z hz=>?_) hl))) h2⟩
  rw[List.map_append,uS (by simpa using el)]at hz
  refine List.mem_append_left _ ?_
  rcases List.mem_append.mp hz with hz | hz
  ·exact List.mem_append_right _ hz
  ·exact List.mem_append_left _ hz⟩
variable{lo hi:Option Expr}{dl dh:DO}{p2:Pos}
end
end
section
structure DEnds where
 nx:DEnv->Prop
 rt:OD->DEnv->Prop
 bk:DEnv->Prop:=fun _=>False
 ct:DEnv->Prop:=fun _=>False
abbrev DS:=DEnds->DEnv->Prop
def NoRf(W:Nat->Prop)(θ:List OR):Prop:=∀r∈θ,(∃x,r=.val x)\/∃j,W j/\r=.rf j
abbrev Ff:Nat->Prop:=fun _=>False
structure EndsOk (b:Bs)(F:List Fr)(τ:List V)(θ:List OR)(Dd:DEnds)(D:Ends):Prop where
 nx:∀σ H ρ,Rel b F σ H ρ τ θ->Dd.nx ρ->D.nx σ H
 bk:∀σ H ρ,Rel b F σ H ρ τ θ->Dd.bk ρ->D.bk σ H
 ct:∀σ H ρ,Rel b F σ H ρ τ θ->Dd.ct ρ->D.ct σ H
 rt:∀σ H ρ v x,Rel b F σ H ρ (v::τ) (.val x::θ)->Dd.rt x ρ->D.rt v H
def AI(K:PySem.W.Frag)(W:Nat->Prop)(ts:TS)(ds:DS):Prop:=∀(b:Bs) (F:List Fr) (σ:St) (H:Hp) (ρ:DEnv) (τ:List V) (θ:List OR) (Dd:DEnds) (D:Ends),b.K=K->NoRf W θ->Rel b F σ H ρ τ θ->ds Dd ρ->EndsOk b F τ θ Dd D->ts D σ H
inductive PDs (X:Cx)(W:Nat->Prop)(e:Stmt)(de:DS):Prop | mk (te:TS) (h:PS X e te) (s:AI X.K W te de)
inductive PDss (X:Cx)(W:Nat->Prop)(e:List Stmt)(de:DS):Prop | mk (te:TS) (h:PSs X e te) (s:AI X.K W te de)
section
variable{b:Bs}{F:List Fr}{σ σ':St}{H H':Hp}{ρ ρ':DEnv}{τ vs:List V}{θ rs:List OR}{v u:V}{r r':OR}{x y:OD}{d:PyData}{ds:List PyData}{i:Nat}{L:List (V × OD)}
variable{W:Nat->Prop}
theorem NoRf.al{o:Option V}(n:NoRf W θ)(hw:¬ W i):∀{τ:List V},Al σ τ θ->Al (σ.set i o) τ θ:=by
 induction θ with
 | nil=>intro τ h;cases τ with
  | nil=>trivial
  | cons _ _=>exact h
 | cons r θ ih =>
  intro τ h
  cases τ with
  | nil=>cases r<;>exact h
  | cons v τ =>
   rcases n r List.mem_cons_self with ⟨x,rfl⟩ | ⟨j,wj,rfl⟩
   ·exact ih (fun r hr=>n r (List.mem_cons_of_mem _ hr)) (τ:=τ) h
   ·refine⟨?_,ih (fun r hr=>n r (List.mem_cons_of_mem _ hr)) (τ:=τ) h.2⟩
    have ne:i≠j:=fun e=>hw (by rw[e];exact wj)
    rw[List.getElem?_set_ne ne]
    exact h.1
theorem NoRf.al0(n:NoRf Ff θ):∀{τ:List V},Al σ τ θ->Al σ' τ θ:=by
 induction θ with
 | nil=>intro τ h;cases τ with
  | nil=>trivial
  | cons _ _=>exact h
 | cons r θ ih =>
  intro τ h
  rcases n r List.mem_cons_self with ⟨x,rfl⟩ | ⟨j,wj,rfl⟩
  ·cases τ with
   | nil=>exact h
   | cons v τ=>exact ih (fun r hr=>n r (List.mem_cons_of_mem _ hr)) (τ:=τ) h
  ·exact wj.elim
theorem NoRf.weak(n:NoRf Ff θ):NoRf W θ:=fun r hr=>(n r hr).imp id fun ⟨j,wj,_⟩=>wj.elim
theorem NoRf.app(n1:NoRf W rs)(n:NoRf W θ):NoRf W (rs++θ):=fun r hr=>(List.mem_append.mp hr).elim (n1 r) (n r)
theorem Wd.offSlot{L1 L2:List (V × OD)}(w:Wd b H (L1++(flat σ ρ++L2)))(wf:Wf σ ρ)(i:Nat):Wd b H (L1++(flat σ (ρ.set i none)++L2)):=by
 cases e:ρ[i]?.join with
 | none =>
  have:ρ.set i none=ρ:=by
   cases h:ρ[i]? with
   | none=>exact List.set_eq_of_length_le (by simpa using h)
   | some o=>rw[h]at e;have:o=none:=e;subst this;exact set_self h
  rw[this];exact w
 | some x =>
  have e':=join_some e
  obtain⟨v,ev⟩:=wf.get e'
  exact Wd.drop (w.perm ((((bq e' ev).append_right _).append_left _).trans List.perm_middle))
theorem Rel.store(R:Rel b F σ H ρ (v::τ) (.val x::θ))(n:NoRf W θ)(hi:i < ρ.length)(hw:¬ W i):Rel b F (σ.set i (some v)) H (ρ.set i (some x)) τ θ:=by
 refine Rel.unslot R.wf (n.al hw (Rel.drop R).al) R.wff hi ?_
 exact Wd.offSlot (L1:=(v,x)::stk τ θ) (ρ:=ρ) R.wd R.wf i
end
section
variable{X:Cx}{W:Nat->Prop}{K:PySem.W.Frag}{a b c e:Expr}{es:List Expr}{sts:List Stmt}{st:Stmt}{da db dc:DE}{dt:DA}{d1 d2:DS}{dT:DT}{pos p:Pos}{x:Str}
def dNext:DS:=fun D ρ=>D.nx ρ
def Ds(t u:DS):DS:=fun D ρ=>∃M:DEnv->Prop,(∀ρ',M ρ'->u D ρ')/\t { D with nx:=M } ρ
theorem pdss_nil:PDss X W [] dNext:=⟨_,uj,fun b F σ H ρ τ θ Dd D hK n R h E=>E.nx σ H ρ R h⟩
theorem pN:PDs X W st d1->PDss X W sts d2->PDss X W (st::sts) (Ds d1 d2)
 | ⟨_,h1,s1⟩,⟨_,h2,s2⟩=>⟨_,gL h1 h2,fun b F σ H ρ τ θ Dd D hK n R ⟨M,hM,h⟩ E=>s1 b F σ H ρ τ θ _ _ hK n R h
  ⟨fun σ1 H1 ρ1 R1 h1=>s2 b F σ1 H1 ρ1 τ θ Dd D hK n R1 (hM ρ1 h1) E,E.bk,E.ct,E.rt⟩⟩
def dCont:DS:=fun D ρ=>D.ct ρ
theorem pds_cont:PDs X W (.Continue pos) dCont:=⟨_,ka,fun b F σ H ρ τ θ Dd D hK n R h E=>E.ct σ H ρ R h⟩
def dBrk:DS:=fun D ρ=>D.bk ρ
theorem pds_brk:PDs X W (.Break pos) dBrk:=⟨_,qk,fun b F σ H ρ τ θ Dd D hK n R h E=>E.bk σ H ρ R h⟩
def AJ(a:DE):DS:=fun D ρ=>a ρ fun _ ρ1=>D.nx ρ1
theorem rk(hs:swapsWith e none pos.line X.env=pure false:=by rfl):PDe X e da->PDs X W (.Expr e pos) (AJ da)
 | ⟨_,h,s⟩=>⟨_,gH h hs,fun b F σ H ρ τ θ Dd D hK n R h E=>s b F σ H ρ τ θ _ _ hK R h fun v H1 r ρ1 R1 h1=>E.nx σ H1 ρ1 R1.drop h1⟩
def Du(a:DE):DS:=fun D ρ=>a ρ fun r ρ1=>∃x ρ2,mv1 ρ1 r=some (x,ρ2)/\D.rt x ρ2
theorem uT:PDe X e da->PDs X W (.Return (some e) pos) (Du da)
 | ⟨_,h,s⟩=>⟨_,xm h,fun b F σ H ρ τ θ Dd D hK n R h E=>s b F σ H ρ τ θ _ _ hK R h fun v H1 r ρ1 R1 ⟨x,ρ2,e,h1⟩=>E.rt σ H1 ρ2 v x (R1.mv1 e) h1⟩
def Dv(c:DT)(t u:DS):DS:=fun D ρ=>c ρ fun k ρ1=>if k=true then t D ρ1 else u D ρ1
theorem yr{s1 s2:List Stmt}:PDt X c dT->PDss X W s1 d1->PDss X W s2 d2->PDs X W (.If c s1 s2 pos) (Dv dT d1 d2)
 | ⟨_,h,s⟩,⟨_,h1,s1⟩,⟨_,h2,s2⟩=>⟨_,zZ h h1 h2,fun b F σ H ρ τ θ Dd D hK n R h E=>s b F σ H ρ τ θ _ _ hK R h fun k H1 ρ1 R1 h1=>by
  cases k with
  | true=>rw[if_pos rfl]at h1 ⊢;exact s1 b F σ H1 ρ1 τ θ _ _ hK n R1 h1 E
  | false=>rw[if_neg Bool.false_ne_true]at h1 ⊢;exact s2 b F σ H1 ρ1 τ θ _ _ hK n R1 h1 E⟩
def Dw(i:Nat)(a:DE):DS:=fun D ρ=>a ρ fun r ρ1=>∃x ρ2,own1 ρ1 r=some (x,ρ2)/\i < ρ2.length/\D.nx (ρ2.set i (some x))
theorem uU{i:Nat}{pos':Pos}(hw:¬ W i)(hN:X.N.Nodup)(hi:X.N[i]?=some x)(hx:Loc X.env.scope x)(hs:swapsWith e (some (.Name x pos')) pos.line X.env=pure false:=by rfl)(hf:X.fn x=true\/X.env.scope.names.lookup x=some .local:=by first | exact .inl rfl | exact .inr rfl | assumption) :
  PDe X e da->PDs X W (.Assign [.Name x pos'] e pos) (Dw i da)
 | ⟨_,h,s⟩=>⟨_,xp hN hi hx h hs hf,fun b F σ H ρ τ θ Dd D hK n R h E=>s b F σ H ρ τ θ _ _ hK R h fun v H1 r ρ1 R1 ⟨x,ρ2,e,hi,h1⟩=>E.nx _ H1 _ ((R1.own1 e).store n hi hw) h1⟩
def dD:List Nat->List OD->DEnv->DEnv
 | i::is,x::xs,ρ=>dD is xs (ρ.set i (some x))
 | _,_,ρ=>ρ
def yt(is:List Nat)(t:DA):DS:=fun D ρ=>t ρ fun rs ρ1=>∃xs ρ2,mapR own1 ρ1 rs=some (xs,ρ2)/\xs.length=is.length/\(∀i∈is,i < ρ2.length)/\D.nx (dD is xs ρ2)
def jx:List Nat->List V->St->St
 | i::is,v::vs,σ=>jx is vs (σ.set i (some v))
 | _,_,σ=>σ
theorem Rel.storeAll{W:Nat->Prop}{b:Bs}{F:List Fr}{H:Hp}{τ:List V}{θ:List OR}:∀{is:List Nat} {vs:List V} {xs:List OD} {σ:St} {ρ:DEnv},Rel b F σ H ρ (vs++τ) (xs.map OR.val++θ)->NoRf W θ->vs.length=xs.length->xs.length=is.length->(∀i∈is,i < ρ.length)->(∀i∈is,¬ W i)->Rel b F (jx is vs σ) H (dD is xs ρ) τ θ
 | [],[],[],_,_,R,_,_,_,_,_=>R
 | i::is,v::vs,x::xs,σ,ρ,R,n,e1,e2,h,hw=>by
  have nn:NoRf W (xs.map OR.val++θ):=NoRf.app (fun r hr=>by obtain⟨x,_,rfl⟩:=List.mem_map.mp hr;exact .inl ⟨x,rfl⟩) n
  show Rel b F (jx is vs (σ.set i (some v))) H (dD is xs (ρ.set i (some x))) τ θ
  exact Rel.storeAll (Rel.store (τ:=vs++τ) (θ:=xs.map OR.val++θ) R nn (h i List.mem_cons_self) (hw i List.mem_cons_self)) n (by simpa using e1) (by simpa using e2) (fun j hj=>by rw[List.length_set];exact h j (List.mem_cons_of_mem _ hj)) fun j hj=>hw j (List.mem_cons_of_mem _ hj)
 | [],_::_,[],_,_,_,_,e,_,_,_=>by simp at e
 | [],_,_::_,_,_,_,_,_,e,_,_=>by simp at e
 | _::_,[],_::_,_,_,_,_,e,_,_,_=>by simp at e
 | _::_,_,[],_,_,_,_,_,e,_,_=>by simp at e
theorem len2{α:Type}{l:List α}(h:l.length=2):∃a b,l=[a,b]:=by
 match l,h with
 | [a,b],_=>exact⟨a,b,rfl⟩
theorem Dx{α:Type}{l:List α}(h:l.length=3):∃a b c,l=[a,b,c]:=by
 match l,h with
 | [a,b,c],_=>exact⟨a,b,c,rfl⟩
theorem uV{i j:Nat}(hW:∀k∈[i,j],¬ W k){x y:Str}{px py pt:Pos}{kt k2 pt2}(hc:X.calm=true)(hN:X.N.Nodup)(hi:X.N[i]?=some x)(hj:X.N[j]?=some y)(hij:i≠j)
  (hx:X.env.scope.names.lookup x=some .local) (hy:X.env.scope.names.lookup y=some .local)
  (hw:swappedStores [.Tuple [.Name x px,.Name y py] kt pt] (.Tuple [a,b] k2 pt2) X.env=pure (some [x,y]))
  (hs:swapsWithSole [.Tuple [.Name x px,.Name y py] kt pt] (.Tuple [a,b] k2 pt2) pos.line X.env=pure false:=by rfl):PDa X [a,b] dt->PDs X W (.Assign [.Tuple [.Name x px,.Name y py] kt pt] (.Tuple [a,b] k2 pt2) pos) (yt [i,j] dt)
 | ⟨_,h,s⟩=>⟨_,xq hc hN hi hj hij hx hy h hw hs,fun b F σ H ρ τ θ Dd D hK n R h E=>s b F σ H ρ τ θ _ _ hK R h fun vs H1 rs ρ1 el R1 ⟨xs,ρ2,e,el2,hi,h1⟩=>by
  obtain⟨R2,e2⟩:=eQ Rel.own1 R1 el e
  obtain⟨v,w,rfl⟩:=len2 (e2.trans el2)
  exact⟨v,w,rfl,E.nx _ H1 _ (Rel.storeAll (is:=[i,j]) R2 n e2 el2 hi hW) h1⟩⟩
theorem rl{i j k:Nat}(hW:∀z∈[i,j,k],¬ W z){x y z:Str}{px py pz pt:Pos}{kt k2 pt2}(hc:X.calm=true)(hN:X.N.Nodup)(hi:X.N[i]?=some x)(hj:X.N[j]?=some y)(hk:X.N[k]?=some z)(hij:i≠j)(hik:i≠k)(hjk:j≠k)
  (hx:X.env.scope.names.lookup x=some .local) (hy:X.env.scope.names.lookup y=some .local) (hz:X.env.scope.names.lookup z=some .local)
  (hw:swappedStores [.Tuple [.Name x px,.Name y py,.Name z pz] kt pt] (.Tuple [a,b,c] k2 pt2) X.env=pure (some [x,y,z]))
  (hs:swapsWithSole [.Tuple [.Name x px,.Name y py,.Name z pz] kt pt] (.Tuple [a,b,c] k2 pt2) pos.line X.env=pure false:=by rfl):PDa X [a,b,c] dt->PDs X W (.Assign [.Tuple [.Name x px,.Name y py,.Name z pz] kt pt] (.Tuple [a,b,c] k2 pt2) pos) (yt [i,j,k] dt)
 | ⟨_,h,s⟩=>⟨_,uz hc hN hi hj hk hij hik hjk hx hy hz h hw hs,fun b F σ H ρ τ θ Dd D hK n R h E=>s b F σ H ρ τ θ _ _ hK R h fun vs H1 rs ρ1 el R1 ⟨xs,ρ2,e,el2,hi,h1⟩=>by
  obtain⟨R2,e2⟩:=eQ Rel.own1 R1 el e
  obtain⟨v,w,u,rfl⟩:=Dx (e2.trans el2)
  exact⟨v,w,u,rfl,E.nx _ H1 _ (Rel.storeAll (is:=[i,j,k]) R2 n e2 el2 hi hW) h1⟩⟩
abbrev DG:=OD->DEnv->(DEnv->Prop)->Prop
abbrev DGs:=List OD->DEnv->(DEnv->Prop)->Prop
def pO(K:PySem.W.Frag)(W:Nat->Prop)(m:Nat)(g:TG)(dg:DG):Prop:=∀(b:Bs) (F:List Fr) (σ:St) (H:Hp) (ρ:DEnv) (τ:List V) (θ:List OR) (v:V) (x:OD) (Qd:DEnv->Prop) (Q:St->Hp->Prop),b.K=K->NoRf W θ->Rel b F σ H ρ (v::τ) (.val x::θ)->dg x ρ Qd->(∀σ' H' ρ',Rel b F σ' H' ρ' τ θ->(∀j,m≤j->σ'[j]?=σ[j]?/\ρ'[j]?=ρ[j]?)->Qd ρ'->Q σ' H')->g v σ H Q
def AK(K:PySem.W.Frag)(W:Nat->Prop)(m:Nat)(g:TGs)(dg:DGs):Prop:=∀(b:Bs) (F:List Fr) (σ:St) (H:Hp) (ρ:DEnv) (τ:List V) (θ:List OR) (vs:List V) (xs:List OD) (Qd:DEnv->Prop) (Q:St->Hp->Prop),b.K=K->NoRf W θ->vs.length=xs.length->Rel b F σ H ρ (vs++τ) (xs.map OR.val++θ)->dg xs ρ Qd->(∀σ' H' ρ',Rel b F σ' H' ρ' τ θ->(∀j,m≤j->σ'[j]?=σ[j]?/\ρ'[j]?=ρ[j]?)->Qd ρ'->Q σ' H')->g vs σ H Q
inductive PDg (X:Cx)(W:Nat->Prop)(m:Nat)(e:Expr)(dg:DG):Prop | mk (te:TG) (h:PG X e te) (s:pO X.K W m te dg)
inductive PDgs (X:Cx)(W:Nat->Prop)(m:Nat)(e:List Expr)(dg:DGs):Prop | mk (te:TGs) (h:zH X e te) (s:AK X.K W m te dg)
def yu(i:Nat):DG:=fun x ρ Q=>i < ρ.length/\Q (ρ.set i (some x))
def dgNil:DGs:=fun xs ρ Q=>xs=[]/\Q ρ
def lN(t:DG)(u:DGs):DGs:=fun xs ρ Q=>∃x r,xs=x::r/\t x ρ fun ρ'=>u r ρ' Q
def unpT:OD->Option (List OD)
 | .fz (.tuple ds)=>some (ds.map OD.fz)
 | .tup xs=>some xs
 | _=>none
def unpL:OD->Option (List OD)
 | .fz (.list ds)=>some (ds.map OD.fz)
 | .lst xs=>some xs
 | _=>none
def AL(n:Nat)(t:DGs):DG:=fun x ρ Q=>∃xs,unpT x=some xs/\xs.length=n/\t xs ρ Q
def AM(n:Nat)(t:DGs):DG:=fun x ρ Q=>∃xs,unpL x=some xs/\xs.length=n/\t xs ρ Q
variable{m:Nat}{dg:DG}{dgs:DGs}
theorem ky{i:Nat}(hw:¬ W i)(hN:X.N.Nodup)(hi:X.N[i]?=some x)(hx:Loc X.env.scope x)(him:i < m)(hf:X.fn x=true\/X.env.scope.names.lookup x=some .local:=by first | exact .inl rfl | exact .inr rfl | assumption):PDg X W m (.Name x pos) (yu i) :=
 ⟨_,jg hN hi hx hf,fun b F σ H ρ τ θ v x Qd Q hK n R ⟨hi,h⟩ q=>q _ _ _ (R.store n hi hw) (fun j hj=>⟨List.getElem?_set_ne (by omega),List.getElem?_set_ne (by omega)⟩) h⟩
theorem pdgs_nil:PDgs X W m [] dgNil:=⟨_,mK,fun b F σ H ρ τ θ vs xs Qd Q hK n el R ⟨e,h⟩ q=>by
 subst e
 cases vs with
 | nil=>exact⟨rfl,q _ _ _ R (fun j hj=>⟨rfl,rfl⟩) h⟩
 | cons _ _=>simp at el⟩
theorem fM(hs:(assignEach (e::es) X.env).map (·.2)=assign e X.env::(assignEach es X.env).map (·.2):=by rfl):PDg X W m e dg->PDgs X W m es dgs->PDgs X W m (e::es) (lN dg dgs)
 | ⟨_,h1,s1⟩,⟨_,h2,s2⟩=>⟨_,gM h1 h2 hs,fun b F σ H ρ τ θ vs xs Qd Q hK n el R ⟨x,r,e,h⟩ q=>by
  subst e
  cases vs with
  | nil=>simp at el
  | cons v vs =>
   have nn:NoRf W (r.map OR.val++θ):=NoRf.app (fun r hr=>by obtain⟨x,_,rfl⟩:=List.mem_map.mp hr;exact .inl ⟨x,rfl⟩) n
   exact⟨v,vs,rfl,s1 b F σ H ρ (vs++τ) (r.map OR.val++θ) v x _ _ hK nn R h fun σ1 H1 ρ1 R1 k1 h1=>s2 b F σ1 H1 ρ1 τ θ vs r _ _ hK n (by simpa using el) R1 h1 fun σ2 H2 ρ2 R2 k2 h2 =>
    q _ _ _ R2 (fun j hj=>⟨(k2 j hj).1.trans (k1 j hj).1,(k2 j hj).2.trans (k1 j hj).2⟩) h2⟩⟩
theorem Wd.unpT{b:Bs}{H:Hp}{L:List (V × OD)}{v:V}{x:OD}{xs:List OD}(w:Wd b H ((v,x)::L))(e:unpT x=some xs):∃a vs,v=.ref a/\SqT b.K H a vs/\vs.length=xs.length/\Wd b H (vs.zip xs++L):=by
 cases x with
 | fz d =>
  cases d<;>simp only[L2.unpT]at e<;>cases e
  obtain⟨a,vs,rfl,el,hs,w2⟩:=w.tpItems List.mem_cons_self (rfl:gk (.fz (.tuple _))=some _)
  exact⟨a,vs,rfl,hs,by simpa using el,Wd.drop (w2.perm List.perm_middle)⟩
 | tup cs =>
  simp only[L2.unpT]at e
  cases e
  obtain⟨A0,h0,nd,new⟩:=w.out
  cases h0 with
  | cons r t =>
   cases r with
   | @tup a vs _ A h1 h2=>exact⟨a,vs,rfl,SqT.of h1,h2.len,⟨⟨_,OwL.join' (OwL.unzips h2) t,nd,new⟩,w.fr,w.s0,w.nt⟩⟩
 | _=>simp[L2.unpT]at e
theorem Wd.unpL{b:Bs}{H:Hp}{L:List (V × OD)}{v:V}{x:OD}{xs:List OD}(w:Wd b H ((v,x)::L))(e:unpL x=some xs):∃a vs,v=.ref a/\SqL b.K H a vs/\vs.length=xs.length/\Wd b H (vs.zip xs++L):=by
 have key:∀{ds:List PyData},listOf x=some ds->xs=ds.map OD.fz->∃a vs,v=.ref a/\SqL b.K H a vs/\vs.length=xs.length/\Wd b H (vs.zip xs++L):=fun {ds} h1 h2=>by
  subst h2
  obtain⟨a,vs,rfl,el,hs,w2⟩:=w.lsItems List.mem_cons_self h1
  exact⟨a,vs,rfl,hs,by simpa using el,Wd.drop (w2.perm List.perm_middle)⟩
 cases x with
 | fz d=>cases d<;>simp only[L2.unpL]at e<;>cases e;exact key rfl rfl
 | lst cs =>
  simp only[L2.unpL]at e
  cases e
  obtain⟨A0,h0,nd,new⟩:=w.out
  have nt:=w.nt' h0
  cases h0 with
  | @cons _ _ A _ _ B0 r t =>
   cases r with
   | @lst a vs _ B h1 h2 =>
    have sub:∀c,(c∈B++B0\/b.S0 c)->(c∈a::B++B0\/b.S0 c):=fun c z=>z.imp (fun z=>by simp at z ⊢;exact .inr z) id
    exact⟨a,vs,rfl,SqL.of h1,h2.len,⟨⟨_,Ows.step (Kp.refl _ _) (fun c z=>.inl (sub c z)) nt (fun _ _=>rfl) (OwL.join' (OwL.unzips h2) t),(List.nodup_cons.mp nd).2,fun c hc=>new c (List.mem_cons_of_mem _ hc)⟩,w.fr,w.s0,w.nt⟩⟩
 | _=>simp[L2.unpL]at e
theorem eR{σ:St}:∀{vs:List V} {xs:List OD},vs.length=xs.length->Al σ vs (xs.map OR.val)
 | [],[],_=>trivial
 | _::vs,_::xs,e=>eR (vs:=vs) (xs:=xs) (by simpa using e)
 | [],_::_,e=>by simp at e
 | _::_,[],e=>by simp at e
theorem Rel.spread{b:Bs}{F:List Fr}{σ:St}{H:Hp}{ρ:DEnv}{τ vs:List V}{θ:List OR}{xs:List OD}(R:Rel b F σ H ρ τ θ)(el:vs.length=xs.length)(w:Wd b H (vs.zip xs++(stk τ θ++(flat σ ρ++ff F)))):Rel b F σ H ρ (vs++τ) (xs.map OR.val++θ) :=
 ⟨R.wf,(aO (by simpa using el)).mpr ⟨eR el,R.al⟩,R.wff,by rw[aA (by simpa using el),cf el,List.append_assoc];exact w⟩
theorem mZ{k:Nat}{n:Nat}(hc:X.calm=true)(hn:(assignEach es X.env).length=n:=by rfl)(hst:(assignEach es X.env).findIdx? (·.1)=none:=by rfl):PDgs X W m es dgs->PDg X W m (.Tuple es k pos) (AL n dgs)
 | ⟨_,h,s⟩=>⟨_,ql hc h hn hst,fun b F σ H ρ τ θ v x Qd Q hK nr R ⟨xs,e,hl,h⟩ q=>by
  obtain⟨a,vs,rfl,hs,el,w⟩:=Wd.unpT R.wd e
  rw[hK]at hs
  exact⟨a,vs,rfl,hs,el.trans hl,s b F σ H ρ τ θ vs xs _ _ hK nr el (R.drop.spread el w) h q⟩⟩
theorem m3{k:Nat}{n:Nat}(hc:X.calm=true)(hn:(assignEach es X.env).length=n:=by rfl)(hst:(assignEach es X.env).findIdx? (·.1)=none:=by rfl):PDgs X W m es dgs->PDg X W m (.Tuple es k pos) (AM n dgs)
 | ⟨_,h,s⟩=>⟨_,yb hc h hn hst,fun b F σ H ρ τ θ v x Qd Q hK nr R ⟨xs,e,hl,h⟩ q=>by
  obtain⟨a,vs,rfl,hs,el,w⟩:=Wd.unpL R.wd e
  rw[hK]at hs
  exact⟨a,vs,rfl,hs,el.trans hl,s b F σ H ρ τ θ vs xs _ _ hK nr el (R.drop.spread el w) h q⟩⟩
def Dy(a:DE)(g:DG):DS:=fun D ρ=>a ρ fun r ρ1=>∃x ρ2,own1 ρ1 r=some (x,ρ2)/\g x ρ2 D.nx
theorem uW{tg:Expr}(hs:swapsWithSole [tg] e pos.line X.env=pure false:=by rfl)(hw:swappedStores [tg] e X.env=pure none:=by rfl)(h0:(assignEach [tg] X.env).map (·.2)=[assign tg X.env]:=by rfl):PDe X e da->PDg X W m tg dg->PDs X W (.Assign [tg] e pos) (Dy da dg)
 | ⟨_,h1,s1⟩,⟨_,h2,s2⟩=>⟨_,ll h1 h2 hs hw h0,fun b F σ H ρ τ θ Dd D hK n R h E=>s1 b F σ H ρ τ θ _ _ hK R h fun v H1 r ρ1 R1 ⟨x,ρ2,e,h1⟩ =>
  s2 b F σ H1 ρ2 τ θ v x _ _ hK n (R1.own1 e) h1 fun σ' H' ρ' R' _ h'=>E.nx σ' H' ρ' R' h'⟩
abbrev DI:=DEnv->(List PyData->DEnv->Prop)->Prop
def jy(b:Bs)(J:It)(vs:List V)(rs:List OR)(ds:List PyData):Prop:=∀(F:List Fr) (σ:St) (H:Hp) (ρ:DEnv) (τ:List V) (θ:List OR),Rel b F σ H ρ (vs++τ) (rs++θ)->∀k,
 (k < ds.length->J.go k H/\∀x H2 d,J.yld k H x H2->ds[k]?=some d->Rel b F σ H2 ρ (x::(vs++τ)) (.val (.fz d)::(rs++θ)))/\(k=ds.length->J.stop k H)
def AN(K:PySem.W.Frag)(wi:TI)(di:DI):Prop:=∀(b:Bs) (F:List Fr) (σ:St) (H:Hp) (ρ:DEnv) (τ:List V) (θ:List OR) (Qd:List PyData->DEnv->Prop) (Q:It->Hp->Prop),b.K=K->Rel b F σ H ρ τ θ->di ρ Qd ->
 (∀J H' ds ρ' vs rs,vs.length=rs.length->NoRf Ff rs->Rel b F σ H' ρ' (vs++τ) (rs++θ)->jy b J vs rs ds->Qd ds ρ'->Q J H')->wi σ H Q
inductive PDi (X:Cx)(tg e:Expr)(di:DI):Prop | mk (te:TI) (h:PI X tg e te) (s:AN X.K te di)
def ck(lo:Int)(n:Nat):List PyData:=(List.range n).map fun (i:Nat)=>PyData.int (lo + (i:Int))
theorem dE(lo:Int)(n:Nat):(ck lo n).length=n:=by simp[ck]
theorem rm{lo:Int}{n k:Nat}{d:PyData}(h:(ck lo n)[k]?=some d):k < n/\d=.int (lo + k):=by
 unfold ck at h
 rw[List.getElem?_map]at h
 obtain⟨j,h1,rfl⟩:=Option.map_eq_some_iff.mp h
 obtain⟨h2,h3⟩:=List.getElem?_eq_some_iff.mp h1
 simp at h2 h3
 subst h3
 exact⟨h2,rfl⟩
theorem rn(b:Bs)(lo:Int)(n:Nat):jy b (CD lo n) [] [] (ck lo n):=fun F σ H ρ τ θ R k=>by
 rw[dE]
 refine⟨fun h=>⟨h,fun x H2 d ⟨e1,e2⟩ hd=>?_⟩,fun e=>by subst e;exact Nat.le_refl _⟩
 subst e1 e2
 rw[(rm hd).2]
 exact Rel.sc R (.int _)
def AO(t:DA):DI:=fun ρ Q=>t ρ fun rs ρ1=>∃j,eh ρ1 rs=some [.int j]/\-(2 ^ 62)≤j/\j < 2 ^ 62/\Q (ck 0 j.toNat) ρ1
theorem lO {tg:Expr} (hg:Gl X "range") (hm:X.mg "range"=none) (hs:starEach [a] X.env=[(false,eval a X.env)]:=by rfl):PDa X [a] dt->PDi X tg (.Call (.Name "range" p) [a] [] pos) (AO dt)
 | ⟨_,h,s⟩=>⟨_,oT hg hm h hs,fun b F σ H ρ τ θ Qd Q hK R h q=>s b F σ H ρ τ θ _ _ hK R h fun vs H1 rs ρ1 el R1 ⟨j,e,j0,j1,h1⟩=>by
  have hd:=R1.dtL el e
  cases hd with
  | cons r t=>cases t;cases r;exact⟨j,rfl,j0,j1,q _ H1 _ ρ1 [] [] rfl (fun r hr=>by cases hr) (R1.drops el) (rn b 0 _) h1⟩⟩
theorem Rel.itemAt{b:Bs}{F:List Fr}{σ:St}{H:Hp}{ρ:DEnv}{τ:List V}{θ:List OR}{v:V}{x:OD}{ds:List PyData}{d:PyData}{k:Nat}(R:Rel b F σ H ρ τ θ)(m:(v,x)∈stk τ θ++(flat σ ρ++ff F))(e:seqOf x=some ds)(hd:ds[k]?=some d) :
  ∃a vs u,v=.ref a/\(SqL b.K H a vs\/SqT b.K H a vs)/\vs.length=ds.length/\vs[k]?=some u/\Rel b F σ H ρ (u::τ) (.val (.fz d)::θ):=by
 obtain⟨a,vs,rfl,el,hs,w⟩:=R.wd.sqItems m e
 have hk:k < vs.length:=by rw[el];exact (List.getElem?_eq_some_iff.mp hd).1
 refine⟨a,vs,vs[k],rfl,hs,el,List.getElem?_eq_getElem hk,R.push (w.pick (cp (List.getElem?_eq_getElem hk) ?_))⟩
 rw[List.getElem?_map,hd];rfl
theorem cC{v:V}{x:OD}{τ:List V}{θ:List OR}{L:List (V × OD)}:(v,x)∈stk ([v]++τ) ([OR.val x]++θ)++L:=by simp[stk]
theorem pP(b:Bs)(a:Addr)(ds:List PyData):jy b (z6 b.K a) [.ref a] [.val (.fz (.list ds))] ds:=fun F σ H ρ τ θ R k=>by
 obtain⟨a',us,e,el,hs,_⟩:=R.wd.lsItems cC (rfl:listOf (.fz (.list ds))=some ds)
 cases e
 refine⟨fun h=>⟨⟨us,us[k]'(by omega),hs,List.getElem?_eq_getElem _⟩,fun x H2 d ⟨e1,e2⟩ hd=>?_⟩,fun e=>⟨us,hs,by omega⟩⟩
 subst e1
 obtain⟨a'',vs,u,ea,hs2,_,hu,R2⟩:=R.itemAt cC (rfl:seqOf (.fz (.list ds))=some ds) hd
 cases ea
 obtain⟨_,us',e',el',hs',w'⟩:=R.wd.lsItems cC (rfl:listOf (.fz (.list ds))=some ds)
 cases e'
 have hk:k < us'.length:=by rw[el'];exact (List.getElem?_eq_some_iff.mp hd).1
 have hx:=e2 us' hs'
 refine Rel.push R (w'.pick (cp hx ?_))
 rw[List.getElem?_map,hd];rfl
theorem rp(b:Bs)(a:Addr)(ds:List PyData):jy b (C4 b.K a) [.ref a] [.val (.fz (.tuple ds))] ds:=fun F σ H ρ τ θ R k=>by
 obtain⟨a',us,e,el,hs,w⟩:=R.wd.tpItems cC (rfl:gk (.fz (.tuple ds))=some ds)
 cases e
 refine⟨fun h=>⟨⟨us,us[k]'(by omega),hs,List.getElem?_eq_getElem _⟩,fun x H2 d ⟨e1,e2⟩ hd=>?_⟩,fun e=>⟨us,hs,by omega⟩⟩
 subst e1
 refine Rel.push R (w.pick (cp (e2 us hs) ?_))
 rw[List.getElem?_map,hd];rfl
def Dz(a:DE):DI:=fun ρ Q=>a ρ fun r ρ1=>∃ds ρ2,frz1 ρ1 r=some (.list ds,ρ2)/\Q ds ρ2
theorem rq{tg:Expr}:PDe X e da->PDi X tg e (Dz da)
 | ⟨_,h,s⟩=>⟨_,mL h,fun b F σ H ρ τ θ Qd Q hK R h q=>s b F σ H ρ τ θ _ _ hK R h fun v H1 r ρ1 R1 ⟨ds,ρ2,e,h1⟩=>by
  have R2:=R1.frz1 e
  obtain⟨a,us,rfl,el,hs,_⟩:=R2.wd.lsItems (R2.mem rfl) (rfl:listOf (.fz (.list ds))=some ds)
  rw[hK]at hs
  exact⟨a,rfl,⟨us,hs⟩,hK ▸ q _ H1 ds ρ2 [.ref a] [.val (.fz (.list ds))] rfl (fun r hr=>.inl ⟨_,List.mem_singleton.mp hr⟩) R2 (pP b a ds) h1⟩⟩
def DB(a:DE):DI:=fun ρ Q=>a ρ fun r ρ1=>∃ds ρ2,frz1 ρ1 r=some (.tuple ds,ρ2)/\Q ds ρ2
theorem uX{tg:Expr}:PDe X e da->PDi X tg e (DB da)
 | ⟨_,h,s⟩=>⟨_,xy h,fun b F σ H ρ τ θ Qd Q hK R h q=>s b F σ H ρ τ θ _ _ hK R h fun v H1 r ρ1 R1 ⟨ds,ρ2,e,h1⟩=>by
  have R2:=R1.frz1 e
  obtain⟨a,us,rfl,el,hs,_⟩:=R2.wd.tpItems (R2.mem rfl) (rfl:gk (.fz (.tuple ds))=some ds)
  rw[hK]at hs
  exact⟨a,rfl,⟨us,hs⟩,hK ▸ q _ H1 ds ρ2 [.ref a] [.val (.fz (.tuple ds))] rfl (fun r hr=>.inl ⟨_,List.mem_singleton.mp hr⟩) R2 (rp b a ds) h1⟩⟩
end
end
section
section
variable{X:Cx}{K:PySem.W.Frag}{a b c e:Expr}{es:List Expr}{sts:List Stmt}{st:Stmt}{da db dc:DE}{dt:DA}{d1 d2:DS}{dT:DT}{pos p:Pos}{x:Str}
def cD(ds:List PyData):List PyData:=(List.range ds.length).map fun (i:Nat)=>PyData.tuple [.int (i:Int),ds.getD i .none]
theorem dS(ds:List PyData):(cD ds).length=ds.length:=by simp[cD]
theorem iS{ds:List PyData}{k:Nat}{d:PyData}(h:(cD ds)[k]?=some d):∃e,ds[k]?=some e/\d=.tuple [.int k,e]:=by
 unfold cD at h
 rw[List.getElem?_map]at h
 obtain⟨j,h1,rfl⟩:=Option.map_eq_some_iff.mp h
 obtain⟨h2,h3⟩:=List.getElem?_eq_some_iff.mp h1
 simp at h2 h3
 subst h3
 exact⟨ds[k],List.getElem?_eq_getElem h2,by rw[List.getD_eq_getElem?_getD,List.getElem?_eq_getElem h2];rfl⟩
theorem Rel.newTup2{b:Bs}{F:List Fr}{σ:St}{H:Hp}{ρ:DEnv}{τ:List V}{θ:List OR}{v u:V}{d e:PyData}{p:Addr}(R:Rel b F σ H ρ τ θ){Z:List (V × OD)}(w:Wd b H (Z++(stk τ θ++(flat σ ρ++ff F))))(m1:(v,OD.fz d)∈Z)(m2:(u,OD.fz e)∈Z)(hp:H p=none) :
  Rel b F σ (upd H p (.tup [v,u])) ρ (.ref p::τ) (.val (.fz (.tuple [d,e]))::θ):=R.newTup (vs:=[v,u]) (ds:=[d,e]) w rfl (fun z hz=>by
   simp at hz
   rcases hz with rfl | rfl
   ·exact List.mem_append_left _ m1
   ·exact List.mem_append_left _ m2) hp
theorem pQ(b:Bs)(a:Addr)(ds:List PyData):jy b (Dl b.K a) [.ref a] [.val (.fz (.list ds))] (cD ds):=fun F σ H ρ τ θ R k=>by
 obtain⟨a',us,e,el,hs,w⟩:=R.wd.lsItems cC (rfl:listOf (.fz (.list ds))=some ds)
 cases e
 rw[dS]
 refine⟨fun h=>⟨⟨us,us[k]'(by omega),hs,List.getElem?_eq_getElem _⟩,fun x H2 d ⟨T,y,e1,hT,e2,e3⟩ hd=>?_⟩,fun e=>⟨us,hs,by omega⟩⟩
 subst e2 e3
 obtain⟨d',hd',rfl⟩:=iS hd
 refine Rel.newTup2 (Z:=(V.int k,OD.fz (.int k))::us.zip (ds.map OD.fz)) R (w.sc (.int _)) List.mem_cons_self (List.mem_cons_of_mem _ (cp (e1 us hs) ?_)) hT
 rw[List.getElem?_map,hd'];rfl
def AQ(t:DA):DI:=fun ρ Q=>t ρ fun rs ρ1=>∃ds ρ2,frzL ρ1 rs=some ([.list ds],ρ2)/\Q (cD ds) ρ2
theorem rA {x1} {tpos:Pos} (hg:Gl X "enumerate") (hm:X.mg "enumerate"=none) (hs:starEach [a] X.env=[(false,eval a X.env)]:=by rfl):PDa X [a] dt->PDi X (.Tuple es x1 tpos) (.Call (.Name "enumerate" p) [a] [] pos) (AQ dt)
 | ⟨_,h,s⟩=>⟨_,uC hg hm h hs,fun b F σ H ρ τ θ Qd Q hK R h q=>s b F σ H ρ τ θ _ _ hK R h fun vs H1 rs ρ1 el R1 ⟨ds,ρ2,e,h1⟩=>by
  obtain⟨R2,e2⟩:=jw R1 el e
  match vs,e2 with
  | [v],_ =>
   have R3:Rel b F σ H1 ρ2 (v::τ) (.val (.fz (.list ds))::θ):=R2
   obtain⟨a,us,rfl,el,hs,_⟩:=R3.wd.lsItems (R3.mem rfl) (rfl:listOf (.fz (.list ds))=some ds)
   rw[hK]at hs
   exact⟨a,us,rfl,hs,hK ▸ q _ H1 _ ρ2 [.ref a] [.val (.fz (.list ds))] rfl (fun r hr=>.inl ⟨_,List.mem_singleton.mp hr⟩) R3 (pQ b a ds) h1⟩⟩
def fN(ds es:List PyData):List PyData:=List.zipWith (fun d e=>PyData.tuple [d,e]) ds es
theorem rB{ds es:List PyData}{k:Nat}{d:PyData}(h:(fN ds es)[k]?=some d):∃x y,ds[k]?=some x/\es[k]?=some y/\d=.tuple [x,y]:=by
 unfold fN at h
 rw[List.getElem?_zipWith]at h
 cases h1:ds[k]? with
 | none=>rw[h1]at h;simp at h
 | some x =>
  cases h2:es[k]? with
  | none=>rw[h1,h2]at h;simp at h
  | some y=>rw[h1,h2]at h;exact⟨x,y,rfl,rfl,(Option.some.inj h).symm⟩
def AR:PyData->Option (Bool × List PyData)
 | .list ds=>some (true,ds)
 | .tuple ds=>some (false,ds)
 | _=>none
def lP(l:Bool)(a:Addr)(xs:List V):ZS:=if l then .lst a xs else .tup a xs
theorem dU{K:PySem.W.Frag}{H:Hp}{l:Bool}{a:Addr}{xs:List V}(h:if l then SqL K H a xs else SqT K H a xs):(lP l a xs).ok K H:=by cases l<;>exact h
theorem kz(l:Bool)(a:Addr)(xs:List V):(lP l a xs).val=.ref a:=by cases l<;>rfl
theorem cg(l:Bool)(a:Addr)(xs:List V):(lP l a xs).items=xs:=by cases l<;>rfl
theorem rC{d:PyData}{l:Bool}{ds:List PyData}(h:AR d=some (l,ds)):d=if l then .list ds else .tuple ds:=by
 cases d<;>simp only[AR]at h<;>cases h<;>rfl
theorem rD(b:Bs)(a c:Addr)(l k':Bool)(xs ys:List V)(ds es:List PyData):jy b (Dj b.K (lP l a xs) (lP k' c ys)) [.ref a,.ref c] [.val (.pin l xs ds),.val (.pin k' ys es)] (fN ds es):=fun F σ H ρ τ θ R k=>by
 obtain⟨a',e,el,hs,w⟩:=R.wd.pinned (v:=.ref a) (l:=l) (xs:=xs) (ds:=ds) (by simp[stk])
 cases e
 obtain⟨c',e,el',hs',w'⟩:=w.pinned (v:=.ref c) (l:=k') (xs:=ys) (ds:=es) (by simp[stk])
 cases e
 have ez:(fN ds es).length=min ds.length es.length:=by simp[fN]
 rw[ez]
 refine⟨fun h=>⟨⟨dU hs,dU hs',by rw[cg];omega,by rw[cg];omega⟩,fun x H2 d ⟨T,y,z,e1,e2,hT,e3,e4⟩ hd=>?_⟩,fun e=>⟨dU hs,dU hs',by rw[cg,cg];omega⟩⟩
 subst e3 e4
 rw[cg]at e1 e2
 obtain⟨d1,d2,h1,h2,rfl⟩:=rB hd
 rw[<- List.append_assoc]at w'
 refine Rel.newTup2 R w' (List.mem_append_right _ (cp e1 ?_)) (List.mem_append_left _ (cp e2 ?_)) hT
 ·rw[List.getElem?_map,h1];rfl
 ·rw[List.getElem?_map,h2];rfl
def DD(t:DA):DI:=fun ρ Q=>t ρ fun rs ρ1=>∃x y l k ds es ρ2,frzL ρ1 rs=some ([x,y],ρ2)/\AR x=some (l,ds)/\AR y=some (k,es)/\Q (fN ds es) ρ2
theorem uY {x1} {tpos:Pos} (hg:Gl X "zip") (hm:X.mg "zip"=none) (hs:starEach [a,b] X.env=[(false,eval a X.env),(false,eval b X.env)]:=by rfl) (hs2:starEach [b] X.env=[(false,eval b X.env)]:=by rfl):PDa X [a,b] dt->PDi X (.Tuple es x1 tpos) (.Call (.Name "zip" p) [a,b] [] pos) (DD dt)
 | ⟨_,h,s⟩=>⟨_,xU hg hm h hs hs2,fun b F σ H ρ τ θ Qd Q hK R h q=>s b F σ H ρ τ θ _ _ hK R h fun vs H1 rs ρ1 el R1 ⟨x,y,l,k,ds,es,ρ2,e,ex,ey,h1⟩=>by
  obtain⟨R2,e2⟩:=jw R1 el e
  obtain⟨v,u,rfl⟩:=len2 e2
  have w:Wd b H1 ((v,.fz x)::(u,.fz y)::(stk τ θ++(flat σ ρ2++ff F))):=R2.wd
  have R3:Rel b F σ H1 ρ2 τ θ:=Rel.drops (vs:=[v,u]) (rs:=[.val (.fz x),.val (.fz y)]) R2 rfl
  obtain⟨xs,w1⟩:=w.pin (rC ex)
  obtain⟨ys,w2⟩:=(w1.perm (List.Perm.swap _ _ _)).pin (rC ey)
  have w3:=w2.perm (List.Perm.swap _ _ _)
  obtain⟨a,rfl,_,hs,_⟩:=w3.pinned (v:=v) (l:=l) (xs:=xs) (ds:=ds) (by simp)
  obtain⟨c,rfl,_,hs',_⟩:=w3.pinned (v:=u) (l:=k) (xs:=ys) (ds:=es) (by simp)
  rw[hK]at hs hs'
  refine⟨lP l a xs,lP k c ys,by rw[kz,kz],dU hs,dU hs',hK ▸ q _ H1 _ ρ2 [.ref a,.ref c] [.val (.pin l xs ds),.val (.pin k ys es)] rfl (fun r hr=>by simp at hr;rcases hr with rfl | rfl<;>exact .inl ⟨_,rfl⟩) ?_ (rD b a c l k xs ys ds es) h1⟩
  exact⟨R3.wf,R3.al,R3.wff,w3⟩⟩
end
end
section
def cF:DEnv->List Nat->Option (DEnv × DEnv)
 | ρ,[]=>some ([],ρ)
 | ρ,j::js=>match ρ[j]?.join with
  | some (.fz d)=>match cF ρ js with | some z=>some (some (.fz d)::z.1,z.2) | none=>none
  | some x=>match cF (ρ.set j none) js with | some z=>some (some x::z.1,z.2) | none=>none
  | none=>none
def gB:DEnv->List Nat->DEnv->DEnv
 | ρ,j::js,some x::os=>gB (ρ.set j (some x)) js os
 | ρ,_::js,none::os=>gB ρ js os
 | ρ,_,_=>ρ
def capV(σ:St)(js:List Nat):St:=js.map fun j=>(σ[j]?).join
section
variable{b:Bs}{F:List Fr}{σ σ':St}{H H':Hp}{τ vs:List V}{θ rs:List OR}{v u:V}{x y:OD}{d:PyData}{ds:List PyData}{i:Nat}{L:List (V × OD)}
theorem uZ{o:Option (Option V)}(h:o=some (some v)):o.join=some v:=by rw[h];rfl
theorem m4:∀{js:List Nat} {ρ inner ρ2:DEnv} {L1 L2:List (V × OD)},Wd b H (L1++(flat σ ρ++L2))->Wf σ ρ->cF ρ js=some (inner,ρ2)->Wd b H (flat (capV σ js) inner++(L1++(flat σ ρ2++L2)))/\Wf σ ρ2/\Wf (capV σ js) inner
 | [],ρ,inner,ρ2,L1,L2,w,wf,e=>by simp only[cF]at e;cases e;exact⟨w,wf,trivial⟩
 | j::js,ρ,inner,ρ2,L1,L2,w,wf,e=>by
  cases h:ρ[j]?.join with
  | none=>simp[cF,h]at e
  | some x =>
   have ex:=join_some h
   obtain⟨v,ev⟩:=wf.get ex
   have w1:Wd b H ((v,x)::(L1++(flat σ (ρ.set j none)++L2))):=w.perm ((((bq ex ev).append_right _).append_left _).trans List.perm_middle)
   have fin:∀{y:OD} {ρ1:DEnv} {z:DEnv × DEnv},Wd b H ((v,y)::(L1++(flat σ ρ1++L2)))->Wf σ ρ1->cF ρ1 js=some z->(some y::z.1,z.2)=(inner,ρ2)->Wd b H (flat (capV σ (j::js)) inner++(L1++(flat σ ρ2++L2)))/\Wf σ ρ2/\Wf (capV σ (j::js)) inner:=fun {y ρ1 z} w2 wf1 ez e2=>by
    cases e2
    obtain⟨w3,wf2,wf3⟩:=m4 (L1:=(v,y)::L1) (L2:=L2) (js:=js) w2 wf1 (show cF ρ1 js=some (z.1,z.2) from ez)
    have ec:capV σ (j::js)=some v::capV σ js:=by unfold capV;rw[List.map_cons,uZ ev]
    rw[ec]
    exact⟨w3.perm List.perm_middle,wf2,wf3⟩
   have mv:∀{z:DEnv × DEnv},cF (ρ.set j none) js=some z->(some x::z.1,z.2)=(inner,ρ2)->Wd b H (flat (capV σ (j::js)) inner++(L1++(flat σ ρ2++L2)))/\Wf σ ρ2/\Wf (capV σ (j::js)) inner:=fun {z} ez e2=>fin w1 wf.off ez e2
   have inv:∀{ρ1:DEnv} {y:OD},(match cF ρ1 js with | some z=>some (some y::z.1,z.2) | none=>none)=some (inner,ρ2)->∃z,cF ρ1 js=some z/\(some y::z.1,z.2)=(inner,ρ2):=fun {ρ1 y} q=>by
    cases hz:cF ρ1 js with
    | none=>rw[hz]at q;cases q
    | some z=>rw[hz]at q;exact⟨z,rfl,Option.some.inj q⟩
   cases x with
   | fz d =>
    simp only[cF,h]at e
    obtain⟨z,ez,e2⟩:=inv e
    have w2:=w1.dup
    have hj:j < ρ.length:=(List.getElem?_eq_some_iff.mp ex).1
    have es:σ.set j (some v)=σ:=set_self ev
    have pp:=cB (v:=v) (x:=.fz d) hj wf.len
    rw[es,set_self ex]at pp
    exact fin (w2.perm (List.Perm.cons _ (List.perm_middle.symm.trans ((pp.symm.append_right _).append_left _)))) wf ez e2
   | _ =>
    simp only[cF,h]at e
    obtain⟨z,ez,e2⟩:=inv e
    exact mv ez e2
theorem jz:∀{js:List Nat} {ρ os:DEnv} {L1 L2:List (V × OD)},Wd b H (L1++(flat (capV σ js) os++(flat σ ρ++L2)))->Wf σ ρ->Wf (capV σ js) os->Wd b H (L1++(flat σ (gB ρ js os)++L2))/\Wf σ (gB ρ js os)
 | [],ρ,os,L1,L2,w,wf,wf2=>by
  cases os with
  | nil=>exact⟨w,wf⟩
  | cons _ _=>simp[capV,Wf]at wf2
 | j::js,ρ,[],L1,L2,w,wf,wf2=>by simp[capV,Wf]at wf2
 | j::js,ρ,o::os,L1,L2,w,wf,wf2=>by
  have ec:capV σ (j::js)=(σ[j]?).join::capV σ js:=rfl
  rw[ec]at w wf2
  cases o with
  | none =>
   rw[bb]at w
   exact jz (js:=js) w wf (by cases h:(σ[j]?).join<;>(rw[h]at wf2;exact wf2))
  | some x =>
   cases h:(σ[j]?).join with
   | none=>rw[h]at wf2;simp[Wf]at wf2
   | some v =>
    rw[h]at w wf2
    have w1:Wd b H ((v,x)::(L1++(flat (capV σ js) os++(flat σ ρ++L2)))):=w.perm (List.perm_middle (l₁:=L1) (l₂:=flat (capV σ js) os++(flat σ ρ++L2)))
    ·have ev:=join_some h
     have hj:j < ρ.length:=by rw[<- wf.len];exact (List.getElem?_eq_some_iff.mp ev).1
     have es:σ.set j (some v)=σ:=set_self ev
     have pp:=cB (v:=v) (x:=x) hj wf.len
     rw[es]at pp
     have wf3:Wf σ (ρ.set j (some x)):=by have:=wf.put (i:=j) (v:=v) (x:=x);rw[es]at this;exact this
     refine jz (js:=js) (ρ:=ρ.set j (some x)) ?_ wf3 wf2
     have w2:Wd b H (((v,x)::L1++flat (capV σ js) os)++(flat σ (ρ.set j none)++L2)):=Wd.offSlot (by simpa using w1) wf j
     refine w2.perm ?_
     rw[<- List.append_assoc L1]
     refine List.Perm.trans ?_ ((pp.symm.append_right _).append_left _)
     simp only[List.cons_append]
     exact List.perm_middle.symm
theorem Wf.drop:∀{n:Nat} {σ:St} {ρ:DEnv},Wf σ ρ->Wf (σ.drop n) (ρ.drop n)
 | 0,_,_,h=>h
 | _ + 1,[],[],_=>trivial
 | _ + 1,[],_::_,h=>by simp[Wf]at h
 | _ + 1,_::_,[],h=>by simp[Wf]at h
 | n + 1,o::σ,none::ρ,h=>Wf.drop (n:=n) (σ:=σ) (ρ:=ρ) h
 | n + 1,some _::σ,some _::ρ,h=>Wf.drop (n:=n) (σ:=σ) (ρ:=ρ) h
 | _ + 1,none::_,some _::_,h=>by simp[Wf]at h
theorem fO:∀{n:Nat} {σ:St} {ρ:DEnv},Wf σ ρ->∃L,flat σ ρ=L++flat (σ.drop n) (ρ.drop n)
 | 0,σ,ρ,_=>⟨[],rfl⟩
 | _ + 1,[],[],_=>⟨[],rfl⟩
 | _ + 1,[],_::_,h=>by simp[Wf]at h
 | _ + 1,_::_,[],h=>by simp[Wf]at h
 | n + 1,o::σ,none::ρ,h=>by
  obtain⟨L,e⟩:=fO (n:=n) (σ:=σ) (ρ:=ρ) h
  exact⟨L,by rw[bb];exact e⟩
 | n + 1,some v::σ,some x::ρ,h=>by
  obtain⟨L,e⟩:=fO (n:=n) (σ:=σ) (ρ:=ρ) h
  exact⟨(v,x)::L,by simp only[flat,List.cons_append,List.drop_succ_cons];rw[e]⟩
 | _ + 1,none::_,some _::_,h=>by simp[Wf]at h
theorem rE{n:Nat}{σ:St}{ρ:DEnv}:flat (List.replicate n none++σ) (List.replicate n none++ρ)=flat σ ρ:=by
 induction n with
 | zero=>rfl
 | succ n ih=>rw[List.replicate_succ,List.replicate_succ,List.cons_append,List.cons_append,bb,ih]
theorem yv{n:Nat}{σ:St}{ρ:DEnv}(h:Wf σ ρ):Wf (List.replicate n none++σ) (List.replicate n none++ρ):=by
 induction n with
 | zero=>exact h
 | succ n ih=>rw[List.replicate_succ,List.replicate_succ];exact ih
theorem Rel.grow{ρ:DEnv}{D:Addr}{out:List PyData}(R:Rel b F σ H ρ (v::(vs++[.ref D])) (.val (.fz d)::(rs++[.val (.lst (out.map OD.fz))])))(el:vs.length=rs.length) :
  ∃ys,H D=some (.lst ys)/\ys.length=out.length/\Rel b F σ (upd H D (.lst (ys++[v]))) ρ (vs++[.ref D]) (rs++[.val (.lst ((out++[d]).map OD.fz))]):=by
 have R1:=R.drop
 have e1:stk (vs++[.ref D]) (rs++[.val (.lst (out.map OD.fz))])=stk vs rs++[(.ref D,.lst (out.map OD.fz))]:=by rw[aA el];rfl
 have w:Wd b H ((v,.fz d)::((stk vs rs++[(.ref D,.lst (out.map OD.fz))])++(flat σ ρ++ff F))):=by
  have:=R.wd
  simp only[stk]at this
  rw[e1]at this
  exact this
 have w2:Wd b H ([v].zip [OD.fz d]++((.ref D,.lst (out.map OD.fz))::(stk vs rs++(flat σ ρ++ff F)))):=w.perm (by
  refine List.Perm.cons _ ?_
  rw[List.append_assoc]
  exact List.perm_middle)
 obtain⟨a,ys,ch,hD,hl,go⟩:=w2.mutL (ks:=[]) (xs:=out.map OD.fz) rfl rfl
 cases ch
 refine⟨ys,hD,by simpa using hl,R1.wf,?_,R1.wff,?_⟩
 ·obtain⟨a1,_⟩:=(aO el).mp R1.al
  exact (aO el).mpr ⟨a1,trivial⟩
 ·have w3:=go (ys++[v]) ((out++[d]).map OD.fz) fun S H A C nt h1 h2 nd=>⟨A++C,by rw[List.map_append];exact Ows.append h1 h2,nd,fun c hc=>List.mem_append.mp hc⟩
  have e2:stk (vs++[.ref D]) (rs++[.val (.lst ((out++[d]).map OD.fz))])=stk vs rs++[(.ref D,.lst ((out++[d]).map OD.fz))]:=by rw[aA el];rfl
  rw[e2]
  refine w3.perm ?_
  rw[List.append_assoc]
  exact List.perm_middle.symm
end
theorem yw{α:Type}(A B C T F:List α):(A++(B++(C++(T++F)))).Perm (B++(A++((T++C)++F))):=by
 refine (List.perm_append_comm_assoc A B _).trans (List.Perm.append_left _ (List.Perm.append_left _ ?_))
 rw[<- List.append_assoc]
 exact List.perm_append_comm.append_right _
abbrev DC:=DEnv->(List PyData->DEnv->Prop)->Prop
def pR(K:PySem.W.Frag)(tc:TC)(dc:DC):Prop:=∀(b:Bs) (F:List Fr) (σ:St) (H:Hp) (ρ:DEnv) (vs:List V) (rs:List OR) (D:Addr) (out:List PyData) (Qd:List PyData->DEnv->Prop) (Q:Hp->Prop),b.K=K->vs.length=rs.length->out.length < 1000000->Rel b F σ H ρ (vs++[.ref D]) (rs++[.val (.lst (out.map OD.fz))])->dc ρ Qd ->
 (∀H' ρ' o,Rel b F σ H' ρ' (vs++[.ref D]) (rs++[.val (.lst ((out++o).map OD.fz))])->o.length≤1->Qd o ρ'->Q H')->tc D σ H Q
inductive PDc (Y:Cx)(ifs:List Expr)(elt:Expr)(dc:DC):Prop | mk (tc:TC) (h:∀D,kj Y D ifs elt tc) (s:pR Y.K tc dc)
section
variable{X Y:Cx}{K:PySem.W.Frag}{a b c e elt iter tg:Expr}{es ifs:List Expr}{da db:DE}{dT:DT}{pos p:Pos}{x:Str}
def rF(a:DE):DC:=fun ρ Q=>a ρ fun r ρ1=>∃d ρ2,frz1 ρ1 r=some (d,ρ2)/\Q [d] ρ2
theorem kA{ta:TE}(s:dA K ta da):pR K (mQ ta) (rF da):=fun b F σ H ρ vs rs D out Qd Q hK el hz R h q=>s b F σ H ρ _ _ _ _ hK R h fun v H1 r ρ1 R1 ⟨d,ρ2,e,h1⟩=>by
 obtain⟨ys,hD,hl,R3⟩:=(R1.frz1 e).grow el
 exact⟨ys,hD,Nat.lt_of_lt_of_le (by omega) (by decide:1000001≤sizeLine),q _ _ _ R3 (Nat.le_refl _) h1⟩
theorem pS:PDe Y elt da->PDc Y [] elt (rF da)
 | ⟨_,h,s⟩=>⟨_,fun D=>pv h,kA s⟩
def u0(t:DT)(a:DE):DC:=fun ρ Q=>t ρ fun k ρ1=>if k=true then rF a ρ1 Q else Q [] ρ1
theorem rG:PDt Y c dT->PDe Y elt da->PDc Y [c] elt (u0 dT da)
 | ⟨_,h1,s1⟩,⟨_,h2,s2⟩=>⟨_,fun D=>qD h1 h2,fun b F σ H ρ vs rs D out Qd Q hK el hz R h q=>s1 b F σ H ρ _ _ _ _ hK R h fun k H1 ρ1 R1 h1=>by
  cases k with
  | true=>rw[if_pos rfl]at h1 ⊢;exact kA s2 b F σ H1 ρ1 vs rs D out _ _ hK el hz R1 h1 q
  | false=>rw[if_neg Bool.false_ne_true]at h1 ⊢;exact q H1 ρ1 [] (by rw[List.append_nil];exact R1) (Nat.zero_le _) h1⟩
def m5(di:DI)(nt:Nat)(fr:List Nat)(g:DG)(act:DC):DE:=fun ρ Q=>di ρ fun ds ρ1=>ds.length < 1000000/\∃inner ρ2,cF ρ1 fr=some (inner,ρ2)/\∃Iv:Nat->List PyData->DEnv->Prop,Iv 0 [] (List.replicate nt none++inner) /\
 (∀k d out ρ,ds[k]?=some d->Iv k out ρ->g (.fz d) ρ fun ρ'=>act ρ' fun o ρ''=>Iv (k + 1) (out++o) ρ'')/\∀out ρ,Iv ds.length out ρ->Q (.val (.lst (out.map OD.fz))) (gB ρ2 fr (ρ.drop nt))
theorem yx{α:Type}(x:α)(S L P T C F:List α):(x::(S++((L++P)++((T++C)++F)))).Perm (L++((x::(S++T))++(P++(C++F)))):=by
 have e:x::(S++((L++P)++((T++C)++F)))=x::(S++(L++(P++(T++(C++F))))):=by simp only[List.append_assoc]
 rw[e]
 refine List.Perm.trans ?_ List.perm_middle.symm
 refine List.Perm.cons _ ((List.perm_append_comm_assoc S L _).trans (List.Perm.append_left _ ?_))
 show (S++(P++(T++(C++F)))).Perm ((S++T)++(P++(C++F)))
 rw[List.append_assoc]
 exact List.Perm.append_left _ (List.perm_append_comm_assoc P T _)
def DF{α:Type}(acc:α->OD)(ln:α->Nat)(K:PySem.W.Frag)(tc:TC)(da:α->DEnv->(α->DEnv->Prop)->Prop):Prop:=∀(b:Bs) (F:List Fr) (σ:St) (H:Hp) (ρ:DEnv) (vs:List V) (rs:List OR) (D:Addr) (out:α) (Qd:α->DEnv->Prop) (Q:Hp->Prop),b.K=K->vs.length=rs.length->ln out < 1000000->Rel b F σ H ρ (vs++[.ref D]) (rs++[.val (acc out)])->da out ρ Qd ->
 (∀H' ρ' o,Rel b F σ H' ρ' (vs++[.ref D]) (rs++[.val (acc o)])->ln o≤ln out + 1->Qd o ρ'->Q H')->tc D σ H Q
def tCG(o0:HO)(J:It)(nt:Nat)(fr:List Nat)(g:CC->TG)(tc:CC->TC)(σ:St)(H1:Hp)(Q:VK):Prop:=∀(c:CC) D,H1 D=none->∃W:Nat->Nat->St->Hp->Prop,(∃m,W 0 m (bP nt fr σ) (upd H1 D o0)) /\
 ∀i m σ' H',W i m σ' H'->(J.stop i H'/\Q (.ref D) H')\/(J.go i H'/\∀x H2,J.yld i H' x H2->g c x σ' H2 fun σ3 H3=>tc c D σ3 H3 fun H4=>∃m',m' < m/\W (i + 1) m' σ3 H4)
theorem rH{α:Type}{acc:α->OD}{ln:α->Nat}{a0:α}{o0:HO}{nt:Nat}{fr:List Nat}{g:CC->TG}{tc:CC->TC}{dg:DG}{da:α->DEnv->(α->DEnv->Prop)->Prop}(new:∀{b:Bs} {H:Hp} {L:List (V × OD)} {D:Addr},Wd b H L->H D=none->Wd b (upd H D o0) ((.ref D,acc a0)::L))(l0:ln a0=0)(s2:∀c,pO K Ff nt (g c) dg)(s3:∀c,DF acc ln K (tc c) da){b:Bs}{F:List Fr}{σ:St}{H1:Hp}{ρ1 ρ2 inner:DEnv}{τ vs:List V}{θ rs:List OR}{J:It}{ds:List PyData}{Iv:Nat->α->DEnv->Prop}{Q:VK}(hK:b.K=K)(el:vs.length=rs.length)(nr:NoRf Ff rs)
  (R1:Rel b F σ H1 ρ1 (vs++τ) (rs++θ)) (it:jy b J vs rs ds) (hds:ds.length < 1000000) (hc:cF ρ1 fr=some (inner,ρ2)) (i0:Iv 0 a0 (List.replicate nt none++inner)) (step:∀k d out ρ,ds[k]?=some d->Iv k out ρ->dg (.fz d) ρ fun ρ'=>da out ρ' fun o ρ''=>Iv (k + 1) o ρ'')
  (q:∀H' D out ρ',Rel b F σ H' (gB ρ2 fr (ρ'.drop nt)) (.ref D::(vs++τ)) (.val (acc out)::(rs++θ))->Iv ds.length out ρ'->Q (.ref D) H'):tCG o0 J nt fr g tc σ H1 Q:=by
 intro cc D hD
 have w1:Wd b H1 (stk vs rs++(flat σ ρ1++(stk τ θ++ff F))):=R1.wd.perm (by
  rw[aA el,List.append_assoc]
  refine List.Perm.append_left _ ?_
  rw[<- List.append_assoc,<- List.append_assoc]
  exact List.perm_append_comm.append_right _)
 obtain⟨w2,wf2,wf3⟩:=m4 w1 R1.wf hc
 have al:=(aO el).mp R1.al
 have w3:=new w2 hD
 have R2:Rel b (⟨σ,ρ2,τ,θ⟩::F) (bP nt fr σ) (upd H1 D o0) (List.replicate nt none++inner) (vs++[.ref D]) (rs++[.val (acc a0)]):=by
  refine⟨yv wf3,(aO el).mpr ⟨nr.al0 al.1,trivial⟩,fun f hf=>?_,?_⟩
  ·rcases List.mem_cons.mp hf with rfl | hf
   ·exact⟨wf2,al.2⟩
   ·exact R1.wff f hf
  ·have ec:flat (bP nt fr σ) (List.replicate nt none++inner)=flat (capV σ fr) inner:=rE
   rw[ec,aA el]
   refine w3.perm ?_
   have ef:ff (⟨σ,ρ2,τ,θ⟩::F)=(stk τ θ++flat σ ρ2)++ff F:=rfl
   rw[ef]
   have e0:stk [V.ref D] [OR.val (acc a0)]=[(V.ref D,acc a0)]:=rfl
   rw[e0]
   refine List.Perm.trans (List.Perm.cons _ (yw (flat (capV σ fr) inner) (stk vs rs) (flat σ ρ2) (stk τ θ) (ff F))) ?_
   rw[List.append_assoc (stk vs rs)]
   exact List.perm_middle.symm
 refine⟨fun i m σ' H'=>m=ds.length - i/\i≤ds.length/\(∀j,nt≤j->σ'[j]?=(bP nt fr σ)[j]?)/\∃out ρ',ln out≤i/\Rel b (⟨σ,ρ2,τ,θ⟩::F) σ' H' ρ' (vs++[.ref D]) (rs++[.val (acc out)])/\Iv i out ρ',⟨_,rfl,Nat.zero_le _,fun _ _=>rfl,a0,_,Nat.le_of_eq l0,R2,i0⟩,?_⟩
 rintro i m σ' H' ⟨rfl,hi,hσ,out,ρ',ho,R',iv⟩
 obtain⟨go,stop⟩:=it _ σ' H' ρ' [.ref D] [.val (acc out)] R' i
 by_cases hlt:i < ds.length
 ·obtain⟨g1,g2⟩:=go hlt
  refine .inr ⟨g1,fun x H2 hy=>?_⟩
  have ed:ds[i]?=some ds[i]:=List.getElem?_eq_getElem hlt
  have nn:NoRf Ff (rs++[.val (acc out)]):=NoRf.app nr fun r hr=>.inl ⟨_,List.mem_singleton.mp hr⟩
  refine s2 cc b _ σ' H2 ρ' _ _ x _ _ _ hK nn (g2 x H2 _ hy ed) (step i _ out ρ' ed iv) fun σ3 H3 ρ3 R3 k3 h3=>?_
  exact s3 cc b _ σ3 H3 ρ3 vs rs D out _ _ hK el (by omega) R3 h3 fun H4 ρ4 o R4 lo h4=>⟨_,by omega,rfl,hlt,fun j hj=>(k3 j hj).1.trans (hσ j hj),o,ρ4,by omega,R4,h4⟩
 ·have e:i=ds.length:=by omega
  subst e
  refine .inl ⟨stop rfl,q H' D out ρ' ?_ iv⟩
  have ed:σ'.drop nt=capV σ fr:=by
   apply List.ext_getElem?
   intro j
   rw[List.getElem?_drop,hσ _ (by omega)]
   unfold bP capV
   rw[List.getElem?_append_right (by simp),List.length_replicate,Nat.add_sub_cancel_left]
  have w4:Wd b H' ((.ref D,acc out)::(stk vs rs++(flat σ' ρ'++((stk τ θ++flat σ ρ2)++ff F)))):=R'.wd.perm (by
   rw[aA el]
   have e0:stk [V.ref D] [OR.val (acc out)]=[(V.ref D,acc out)]:=rfl
   rw[e0,List.append_assoc]
   exact List.perm_middle)
  obtain⟨L0,eL⟩:=fO (n:=nt) R'.wf
  rw[eL,ed]at w4
  have w5:Wd b H' (((.ref D,acc out)::stk (vs++τ) (rs++θ))++(flat (capV σ fr) (ρ'.drop nt)++(flat σ ρ2++ff F))):=by
   refine Wd.drops (L1:=L0) (w4.perm ?_)
   rw[aA el]
   exact yx (.ref D,acc out) (stk vs rs) L0 (flat (capV σ fr) (ρ'.drop nt)) (stk τ θ) (flat σ ρ2) (ff F)
  have wfd:Wf (capV σ fr) (ρ'.drop nt):=ed ▸ R'.wf.drop
  obtain⟨w6,wf6⟩:=jz w5 wf2 wfd
  exact⟨wf6,R1.al,R1.wff,w6⟩
theorem iT{nt:Nat}{fr:List Nat}{g:CC->TG}{tc:CC->TC}{dg:DG}{dc:DC}(s2:∀c,pO K Ff nt (g c) dg)(s3:∀c,pR K (tc c) dc){b:Bs}{F:List Fr}{σ:St}{H1:Hp}{ρ1 ρ2 inner:DEnv}{τ vs:List V}{θ rs:List OR}{J:It}{ds:List PyData}{Iv:Nat->List PyData->DEnv->Prop}{Q:VK}(hK:b.K=K)(el:vs.length=rs.length)(nr:NoRf Ff rs)
  (R1:Rel b F σ H1 ρ1 (vs++τ) (rs++θ)) (it:jy b J vs rs ds) (hds:ds.length < 1000000) (hc:cF ρ1 fr=some (inner,ρ2)) (i0:Iv 0 [] (List.replicate nt none++inner)) (step:∀k d out ρ,ds[k]?=some d->Iv k out ρ->dg (.fz d) ρ fun ρ'=>dc ρ' fun o ρ''=>Iv (k + 1) (out++o) ρ'')
  (q:∀H' D out ρ',Rel b F σ H' (gB ρ2 fr (ρ'.drop nt)) (.ref D::(vs++τ)) (.val (.lst (out.map OD.fz))::(rs++θ))->Iv ds.length out ρ'->Q (.ref D) H'):ki (fun _ _ k=>k J H1) nt fr g tc σ H1 Q :=
 rH (acc:=fun out=>.lst (out.map OD.fz)) (ln:=List.length) (a0:=[]) (da:=fun out ρ Q=>dc ρ fun o ρ'=>Q (out++o) ρ') (fun w h=>Wd.newLst (vs:=[]) (xs:=[]) w rfl h) rfl s2 (fun c b F σ H ρ vs rs D out Qd Q hK el hz R h q=>s3 c b F σ H ρ vs rs D out (fun o ρ'=>Qd (out++o) ρ') Q hK el hz R h fun H' ρ' o R' lo hq=>q H' ρ' (out++o) R' (by rw[List.length_append];omega) hq) hK el nr R1 it hds hc i0 step q
theorem kB{wi:TI}{di:DI}{nt:Nat}{fr:List Nat}{g:CC->TG}{tc:CC->TC}{dg:DG}{dc:DC}(s1:AN K wi di)(s2:∀c,pO K Ff nt (g c) dg)(s3:∀c,pR K (tc c) dc):dA K (ki wi nt fr g tc) (m5 di nt fr dg dc):=by
 intro b F σ H ρ τ θ Qd Q hK R h q
 refine s1 b F σ H ρ τ θ _ _ hK R h fun J H1 ds ρ1 vs rs el nr R1 it hZ=>?_
 obtain⟨hds,inner,ρ2,hc,Iv,i0,step,fin⟩:=hZ
 exact iT s2 s3 hK el nr R1 it hds hc i0 step fun H' D out ρ' R' iv=>q _ H' _ _ (Rel.drops (vs:=vs) (rs:=rs) (τ:=.ref D::τ) (θ:=.val (.lst (out.map OD.fz))::θ) (Rel.tor R' el) el) (fin out ρ' iv)
end
end
section
section
variable{X:Cx}{K:PySem.W.Frag}{a b c e elt iter tg:Expr}{es ifs:List Expr}{da db dc':DE}{dt:DA}{dT:DT}{pos p:Pos}{x:Str}{N:List Str}{nt:Nat}{fr:List Nat}{scope:Scope}{di:DI}{dg:DG}{dc:DC}
theorem PDg.ex{Y:CC->Cx}{m:Nat}{tg:Expr}(hK:∀c,(Y c).K=K)(h:∀c,PDg (Y c) Ff m tg dg):∃g:CC->TG,∀c,PG (Y c) tg (g c)/\pO K Ff m (g c) dg :=
 Classical.axiomOfChoice (r:=fun c g=>PG (Y c) tg g/\pO K Ff m g dg) fun c=>(by obtain⟨te,h1,s1⟩:=h c;exact⟨te,h1,hK c ▸ s1⟩)
theorem PDc.ex{Y:CC->Cx}(hK:∀c,(Y c).K=K)(h:∀c,PDc (Y c) ifs elt dc):∃g:CC->TC,∀c,(∀D,kj (Y c) D ifs elt (g c))/\pR K (g c) dc :=
 Classical.axiomOfChoice (r:=fun c g=>(∀D,kj (Y c) D ifs elt g)/\pR K g dc) fun c=>(by obtain⟨te,h1,s1⟩:=h c;exact⟨te,h1,hK c ▸ s1⟩)
theorem u6(hc:X.calm=true)(S:CompScope N nt fr X.N scope X.env.scope)(hs:∀x,foldedSetIterable iter X.env x=pure x:=by intro _;rfl)(hi:PDi X tg iter di)(hg:∀c:CC,PDg (fJ X N scope c) Ff nt tg dg)(ha:∀c:CC,PDc (fJ X N scope c) ifs elt dc) :
  PDe X (.ListComp elt [⟨tg,iter,ifs,0⟩] scope pos) (m5 di nt fr dg dc):=by
 obtain⟨wi,h1,s1⟩:=hi
 obtain⟨g,hg'⟩:=PDg.ex (K:=X.K) (Y:=fun c=>fJ X N scope c) (fun _=>rfl) hg
 obtain⟨tc,hc'⟩:=PDc.ex (K:=X.K) (Y:=fun c=>fJ X N scope c) (fun _=>rfl) ha
 exact⟨_,mS hc S h1 (fun c=>(hg' c).1) (fun c D=>(hc' c).1 D) hs,kB s1 (fun c=>(hg' c).2) fun c=>(hc' c).2⟩
end
def bx:List Bool->DEnv->List OR->Option (List OD × DEnv)
 | [],ρ,[]=>some ([],ρ)
 | true::ios,ρ,r::rs=>match mv1 ρ r with
  | some (x,ρ1)=>match bx ios ρ1 rs with | some (xs,ρ2)=>some (x::xs,ρ2) | none=>none
  | none=>none
 | false::ios,ρ,r::rs=>match frz1 ρ r with
  | some (d,ρ1)=>match bx ios ρ1 rs with | some (xs,ρ2)=>some (.fz d::xs,ρ2) | none=>none
  | none=>none
 | _,_,_=>none
def dF:List Bool->List OR->List OD->DEnv->DEnv
 | true::ios,.rf j::rs,y::ys,ρ=>dF ios rs ys (ρ.set j (some y))
 | _::ios,_::rs,_::ys,ρ=>dF ios rs ys ρ
 | _,_,_,ρ=>ρ
section
variable{b:Bs}{F:List Fr}{σ:St}{H H':Hp}{ρ ρ':DEnv}{τ vs:List V}{θ rs:List OR}{v u:V}{r:OR}{x y:OD}{d:PyData}{i j:Nat}
theorem argsR_ok:∀{ios:List Bool} {vs:List V} {rs:List OR} {ρ ρ':DEnv} {xs:List OD} {τ:List V} {θ:List OR},Rel b F σ H ρ (vs++τ) (rs++θ)->vs.length=rs.length->bx ios ρ rs=some (xs,ρ')->Rel b F σ H ρ' (vs++τ) (xs.map OR.val++θ)/\vs.length=xs.length
 | [],[],[],_,_,_,_,_,R,_,e=>by simp only[bx]at e;cases e;exact⟨R,rfl⟩
 | true::ios,v::vs,r::rs,ρ,ρ',ds,τ,θ,R,e,h=>by
  simp only[bx]at h
  split at h
  ·rename_i x ρ1 h1
   split at h
   ·rename_i xs ρ2 h2
    cases h
    have R1:Rel b F σ H ρ1 (v::(vs++τ)) (.val x::(rs++θ)):=Rel.mv1 R h1
    have e':vs.length=rs.length:=by simpa using e
    obtain⟨R2,e2⟩:=argsR_ok (Rel.tor (vs:=vs) (rs:=rs) R1 e') e' h2
    exact⟨Rel.rot R2 (by rw[e2,List.length_map]),by simp[e2]⟩
   ·cases h
  ·cases h
 | false::ios,v::vs,r::rs,ρ,ρ',ds,τ,θ,R,e,h=>by
  simp only[bx]at h
  split at h
  ·rename_i x ρ1 h1
   split at h
   ·rename_i xs ρ2 h2
    cases h
    have R1:Rel b F σ H ρ1 (v::(vs++τ)) (.val (.fz x)::(rs++θ)):=Rel.frz1 R h1
    have e':vs.length=rs.length:=by simpa using e
    obtain⟨R2,e2⟩:=argsR_ok (Rel.tor (vs:=vs) (rs:=rs) R1 e') e' h2
    exact⟨Rel.rot R2 (by rw[e2,List.length_map]),by simp[e2]⟩
   ·cases h
  ·cases h
 | _,[],_::_,_,_,_,_,_,_,e,_=>by simp at e
 | _,_::_,[],_,_,_,_,_,_,e,_=>by simp at e
 | [],_::_,_::_,_,_,_,_,_,_,_,h=>by simp[bx]at h
 | true::_,[],[],_,_,_,_,_,_,_,h=>by simp[bx]at h
 | false::_,[],[],_,_,_,_,_,_,_,h=>by simp[bx]at h
theorem Rel.give(R:Rel b F σ H ρ (v::τ) (.val y::θ))(ev:σ[j]?=some (some v)):Rel b F σ H (ρ.set j (some y)) τ θ :=
 Rel.back R.wf (Rel.drop R).al R.wff ev (Wd.offSlot (L1:=(v,y)::stk τ θ) R.wd R.wf j)
theorem bN:∀{ios:List Bool} {vs:List V} {rs:List OR} {ys:List OD} {ρ:DEnv},Al σ vs rs->vs.length=ys.length->Rel b F σ H ρ (vs++τ) (ys.map OR.val++θ)->Rel b F σ H (dF ios rs ys ρ) τ θ
 | ios,[],[],[],ρ,_,_,R=>by cases ios with | nil=>exact R | cons i ios=>cases i<;>exact R
 | [],v::vs,r::rs,y::ys,ρ,al,e,R=>by
  have al':Al σ vs rs:=by cases r with | val _=>exact al | rf _=>exact al.2
  have:=bN (ios:=[]) (vs:=vs) (rs:=rs) (ys:=ys) al' (by simpa using e) (Rel.drop R)
  cases vs<;>cases rs<;>cases ys<;>exact this
 | true::ios,v::vs,.rf j::rs,y::ys,ρ,al,e,R=>bN (ios:=ios) (vs:=vs) (rs:=rs) (ys:=ys) al.2 (by simpa using e) (Rel.give (τ:=vs++τ) (θ:=ys.map OR.val++θ) R al.1)
 | true::ios,v::vs,.val x::rs,y::ys,ρ,al,e,R=>bN (ios:=ios) (vs:=vs) (rs:=rs) (ys:=ys) al (by simpa using e) (Rel.drop R)
 | false::ios,v::vs,.rf j::rs,y::ys,ρ,al,e,R=>bN (ios:=ios) (vs:=vs) (rs:=rs) (ys:=ys) al.2 (by simpa using e) (Rel.drop R)
 | false::ios,v::vs,.val x::rs,y::ys,ρ,al,e,R=>bN (ios:=ios) (vs:=vs) (rs:=rs) (ys:=ys) al (by simpa using e) (Rel.drop R)
 | _,[],_::_,_,_,al,_,_=>by simp[Al]at al
 | _,_::_,[],_,_,al,_,_=>by simp[Al]at al
 | _,[],_,_::_,_,_,e,_=>by simp at e
 | _,_::_,_,[],_,_,e,_=>by simp at e
end
structure FnD (P:Program)(w:World)(K:PySem.W.Frag)(mg:Str->Option Value)(base:Heap)(k:Nat)(f:Addr)(fd:FuncData)(ps:List Str)(sp:DSp):Prop where
 ok:FnOk P w K mg base CX0 k f fd ps (toSp K sp)
 mono:qQ sp
section
variable{X:Cx}{K:PySem.W.Frag}{a b c e:Expr}{es:List Expr}{da db dc:DE}{dt:DA}{pos p:Pos}{x:Str}{k:Nat}{f:Addr}{fd:FuncData}{ps:List Str}{sp:DSp}
def wx(sp:DSp)(ios:List Bool)(t:DA):DE:=fun ρ Q=>t ρ fun rs ρ1=>∃xs ρ2,bx ios ρ1 rs=some (xs,ρ2)/\sp xs fun x ys=>Q (.val x) (dF ios rs ys ρ2)
theorem rJ{ios:List Bool}{ta:TA}(G:FnD X.prog X.w X.K X.mg X.base k f fd ps sp)(s1:qR X.K ta dt):dA X.K (wm (toSp X.K sp) [] E0 ta) (wx sp ios dt):=fun b F σ H ρ τ θ Qd Q hK R h q=>s1 b F σ H ρ τ θ _ _ hK R h fun vs H1 rs ρ1 el R1 ⟨xs,ρ2,e1,h1⟩=>by
  obtain⟨R2,e2⟩:=argsR_ok R1 el e1
  have al:=((aO el).mp R1.al).1
  have w:=R2.vals e2
  rw[List.append_nil,<- hK]
  refine w.call e2 G.mono (G.mono _ _ _ (fun x ys hx eys v H' w'=>q v H' _ _ ?_ hx) h1)
  have R3:Rel b F σ H' ρ2 (v::(vs++τ)) (.val x::(ys.map OR.val++θ)):=by
   have R0:=R2.drops (by simpa using e2)
   refine⟨R0.wf,(aO (σ:=σ) (vs:=vs) (rs:=ys.map OR.val) (by simpa using eys)).mpr ⟨eR eys,R0.al⟩,R0.wff,?_⟩
   show Wd b H' ((v,x)::(stk (vs++τ) (ys.map OR.val++θ)++_))
   rw[aA (by simpa using eys),cf eys,List.append_assoc]
   exact w'
  exact bN (τ:=v::τ) (θ:=.val x::θ) al eys (Rel.tor (vs:=vs) (rs:=ys.map OR.val) R3 (by simpa using eys))
theorem u7 {ios:List Bool} (G:FnD X.prog X.w X.K X.mg X.base k f fd ps sp) (hr:Room k X.A) (hg:Gl X x) (hm:X.mg x=some (.ref f)) (hk:PySem.W.keepIn X.K (.ref f)=true) (hb:Binds X.K fd ps []) (hdb:(x == ("__debug__":Str))=false:=by decide)
  (he:starEach (e::es) X.env=(false,eval e X.env)::starEach es X.env:=by rfl) (hpl:(backTo pos (starEach es X.env)).any (·.1)=false:=by rfl):PDa X (e::es) dt->PDe X (.Call (.Name x p) (e::es) [] pos) (wx sp ios dt)
 | ⟨_,h1,s1⟩=>⟨_,mP (E:=E0) G.ok hr hg hm hk hb .nil kh h1 hdb he hpl,rJ G s1⟩
end
def CH:PyData->Bool
 | .int _=>true
 | .bool _=>true
 | .str _=>true
 | .none=>true
 | _=>false
theorem Fz.sc{K:PySem.W.Frag}{S:Addr->Prop}{H:Hp}{v:V}{d:PyData}(h:Fz K S H v d)(e:CH d=true):Sc v d:=by
 cases h<;>first | constructor | cases e
theorem Wd.kept0{b:Bs}{H H':Hp}{L:List (V × OD)}(w:Wd b H L)(k:Kp (fun a=>a∈([]:List Addr)) H H'):Wd b H' L:=by
 obtain⟨A,h0,nd,new⟩:=w.out
 have nt:=w.nt' h0
 have hs:∀a o,H a=some o->H' a=some o:=fun a o e=>k.k a o e List.not_mem_nil
 have hne:∀a,a∈A->H' a=H a:=fun a ha=>by
  cases e:H a with
  | none=>exact absurd e (Ows.ne h0 a ha)
  | some o=>exact hs a o e
 refine⟨⟨A,Ows.step (S:=fun a=>a∈A\/b.S0 a) (k.weak fun c hc=>absurd hc List.not_mem_nil) (fun c z=>.inl z) nt hne h0,nd,new⟩,w.fr.trans (k.weak fun c hc=>absurd hc List.not_mem_nil),w.s0,fun a xs e z=>?_⟩
 have h1:=(w.s0 a z).1
 cases e2:H a with
 | none=>exact h1 (w.fr.n a e2)
 | some o =>
  have:=hs a o e2
  rw[e]at this
  cases this
  exact w.nt a xs e2 z
section
variable{X:Cx}{K:PySem.W.Frag}{a b c e:Expr}{es:List Expr}{da db dc:DE}{dt:DA}{pos p:Pos}{x:Str}{k:Nat}{f:Addr}{fd:FuncData}{ps:List Str}{sp:DSp}
def yz(sp:DSp)(t:DA):DE:=fun ρ Q=>t ρ fun rs ρ1=>∃ds,eh ρ1 rs=some ds/\sp (ds.map OD.fz) fun x _=>∃d,x=.fz d/\CH d=true/\Q (.val (.fz d)) ρ1
theorem yA{b:Bs}{S:Addr->Prop}{H:Hp}:∀{vs:List V} {ds:List PyData},FzA b.K S H vs ds->Ows b S H vs (ds.map OD.fz) []:=by
 intro vs
 induction vs with
 | nil=>intro ds h;cases h;exact .nil
 | cons v vs ih=>intro ds h;cases h with | cons r t=>exact Ows.cons (A:=[]) (.fz r) (ih t)
theorem rK (G:FnD X.prog X.w X.K X.mg X.base k f fd ps sp) (hr:Room k X.A) (hg:Gl X x) (hm:X.mg x=some (.ref f)) (hk:PySem.W.keepIn X.K (.ref f)=true) (hb:Binds X.K fd ps []) (hdb:(x == ("__debug__":Str))=false:=by decide)
  (he:starEach (e::es) X.env=(false,eval e X.env)::starEach es X.env:=by rfl) (hpl:(backTo pos (starEach es X.env)).any (·.1)=false:=by rfl):PDa X (e::es) dt->PDe X (.Call (.Name x p) (e::es) [] pos) (yz sp dt)
 | ⟨_,h1,s1⟩=>⟨_,mP (E:=E0) G.ok hr hg hm hk hb .nil kh h1 hdb he hpl,fun b F σ H ρ τ θ Qd Q hK R h q=>s1 b F σ H ρ τ θ _ _ hK R h fun vs H1 rs ρ1 el R1 ⟨ds,e1,h1⟩=>by
  have dt:=R1.dtL el e1
  rw[List.append_nil,<- hK]
  have es:(fun a=>a∈([]:List Addr)\/False)=fun _=>False:=funext fun a=>by simp
  refine⟨fun _=>False,ds.map OD.fz,[],fun a z=>z.elim,fun _ _ _ z=>z,?_,List.nodup_nil,G.mono _ _ _ (fun x ys hx v H' B kp hO nB hB=>?_) h1⟩
  ·rw[es]
   exact yA (b:=⟨b.K,H1,fun _=>False,fun a=>a∈[]⟩) (FzA.of0 dt)
  ·obtain⟨d,hx,hs,hq⟩:=hx
   subst hx
   cases hO with
   | cons r t =>
    cases r with
    | fz r =>
     have R2:=R1.drops el
     exact q v H' _ _ (Rel.sc ⟨R2.wf,R2.al,R2.wff,R2.wd.kept0 kp⟩ (r.sc hs)) hq⟩
end
section
variable{P:Program}{w:World}{K:PySem.W.Frag}{mg:Str->Option Value}{base:Heap}
theorem bH:∀{vs:List V} {n:Nat} {ρ:DEnv},flat (vs.map some++List.replicate n none) ρ=flat (vs.map some) ρ
 | [],0,_=>rfl
 | [],n + 1,[]=>rfl
 | [],n + 1,o::ρ=>by
  rw[List.map_nil,List.nil_append,List.replicate_succ]
  have:flat (none::List.replicate n none) (o::ρ)=flat (List.replicate n none) ρ:=by cases o<;>rfl
  rw[this]
  have:=bH (vs:=[]) (n:=n) (ρ:=ρ)
  simpa [flat] using this
 | v::vs,n,[]=>by simp[flat]
 | v::vs,n,none::ρ=>by
  simp only[List.map_cons,List.cons_append,bb]
  exact bH
 | v::vs,n,some x::ρ=>by
  simp only[List.map_cons,List.cons_append,flat]
  rw[bH]
theorem g8:∀{vs:List V} {xs:List OD} {k:Nat},vs.length=xs.length->flat (vs.map some) (xs.map some++List.replicate k none)=vs.zip xs
 | [],[],0,_=>rfl
 | [],[],_ + 1,_=>rfl
 | v::vs,x::xs,k,e=>by
  simp only[List.map_cons,List.cons_append,flat,List.zip_cons_cons]
  rw[g8 (by simpa using e)]
 | [],_::_,_,e=>by simp at e
 | _::_,[],_,e=>by simp at e
theorem g9:∀{vs:List V} {xs:List OD} {k:Nat},vs.length=xs.length->Wf (vs.map some++List.replicate k none) (xs.map some++List.replicate k none)
 | [],[],0,_=>trivial
 | [],[],k + 1,_=>by
  have:=g9 (vs:=[]) (xs:=[]) (k:=k) rfl
  exact this
 | v::vs,x::xs,k,e=>g9 (vs:=vs) (xs:=xs) (k:=k) (by simpa using e)
 | [],_::_,_,e=>by simp at e
 | _::_,[],_,e=>by simp at e
def eF(N:Nat)(xs:List OD):DEnv:=xs.map some++List.replicate (N - xs.length) none
def aR:Nat->List Bool->List OD->DEnv->Option (List OD)
 | _,[],[],_=>some []
 | i,true::ios,_::xs,ρ=>match ρ[i]?.join with
  | some y=>match aR (i + 1) ios xs ρ with | some ys=>some (y::ys) | none=>none
  | none=>none
 | i,false::ios,.fz d::xs,ρ=>match aR (i + 1) ios xs ρ with | some ys=>some (.fz d::ys) | none=>none
 | _,_,_,_=>none
def WS(ios:List Bool):Nat->Prop:=fun j=>ios[j]?=some true
def eS:Nat->List Bool->List V->List V
 | i,true::ios,v::vs=>v::eS (i + 1) ios vs
 | i,false::ios,_::vs=>eS (i + 1) ios vs
 | _,_,_=>[]
def dm:Nat->List Bool->List OR
 | i,true::ios=>.rf i::dm (i + 1) ios
 | i,false::ios=>dm (i + 1) ios
 | _,[]=>[]
theorem jA{σ:St}:∀{ios:List Bool} {vs:List V} {i:Nat},ios.length=vs.length->(∀k v,vs[k]?=some v->σ[i + k]?=some (some v))->Al σ (eS i ios vs) (dm i ios)
 | [],[],_,_,_=>trivial
 | true::ios,v::vs,i,e,h=>⟨h 0 v rfl,jA (ios:=ios) (vs:=vs) (i:=i + 1) (by simpa using e) fun k u hk=>by have:=h (k + 1) u (by simpa using hk);rwa [show i + 1 + k=i + (k + 1) by omega]⟩
 | false::ios,v::vs,i,e,h=>jA (ios:=ios) (vs:=vs) (i:=i + 1) (by simpa using e) fun k u hk=>by have:=h (k + 1) u (by simpa using hk);rwa [show i + 1 + k=i + (k + 1) by omega]
 | [],_::_,_,e,_=>by simp at e
 | true::_,[],_,e,_=>by simp at e
 | false::_,[],_,e,_=>by simp at e
theorem jB:∀{ios:List Bool} {i:Nat} {W:Nat->Prop},(∀k,ios[k]?=some true->W (i + k))->NoRf W (dm i ios)
 | [],_,_,_=>fun r hr=>by simp[dm]at hr
 | true::ios,i,W,h=>fun r hr=>by
  simp only[dm]at hr
  rcases List.mem_cons.mp hr with rfl | hr
  ·exact .inr ⟨i,h 0 rfl,rfl⟩
  ·exact jB (ios:=ios) (i:=i + 1) (W:=W) (fun k hk=>by have:=h (k + 1) (by simpa using hk);rwa [show i + 1 + k=i + (k + 1) by omega]) r hr
 | false::ios,i,W,h=>fun r hr=>jB (ios:=ios) (i:=i + 1) (W:=W) (fun k hk=>by have:=h (k + 1) (by simpa using hk);rwa [show i + 1 + k=i + (k + 1) by omega]) r hr
theorem eT:∀{ios:List Bool} {vs:List V} {i:Nat},stk (eS i ios vs) (dm i ios)=[]
 | [],[],_=>rfl
 | [],_::_,_=>rfl
 | true::ios,[],i=>by simp[eS,dm,stk]
 | false::ios,[],i=>by
  have:eS i (false::ios) ([]:List V)=[]:=rfl
  rw[this]
  cases h:dm i (false::ios)<;>rfl
 | true::ios,v::vs,i=>eT (ios:=ios) (vs:=vs) (i:=i + 1)
 | false::ios,v::vs,i=>eT (ios:=ios) (vs:=vs) (i:=i + 1)
end
end
section
section
variable{P:Program}{w:World}{K:PySem.W.Frag}{mg:Str->Option Value}{base:Heap}{b:Bs}{σ:St}{H:Hp}
theorem Wd.addF{L:List (V × OD)}{v:V}{d:PyData}(w:Wd b H L)(f:Fz b.K (fun a=>b.C a\/b.S0 a) b.H0 v d):Wd b H ((v,.fz d)::L):=by
 obtain⟨A,h0,nd,new⟩:=w.out
 refine⟨⟨A,Ows.cons (A:=[]) (.fz (f.step (w.fr.weak fun c z=>.inl (.inl z)) fun c z=>?_)) h0,nd,new⟩,w.fr,w.s0,w.nt⟩
 rcases z with z | z
 ·exact (new c z).elim .inr fun z=>.inl (.inl z)
 ·exact .inl (.inr z)
theorem fP:∀{ios:List Bool} {xs:List OD} {i j:Nat} {ρ:DEnv},j < i->aR i ios xs (ρ.set j none)=aR i ios xs ρ
 | [],[],_,_,_,_=>rfl
 | true::ios,_::xs,i,j,ρ,h=>by
  simp only[aR]
  rw[List.getElem?_set_ne (by omega),fP (by omega)]
 | false::ios,.fz d::xs,i,j,ρ,h=>by
  simp only[aR]
  rw[fP (by omega)]
 | [],_::_,_,_,_,_=>rfl
 | true::_,[],_,_,_,_=>rfl
 | false::_,[],_,_,_,_=>rfl
 | false::_,.lst _::_,_,_,_,_=>rfl
 | false::_,.tup _::_,_,_,_,_=>rfl
 | false::_,.dic _ _::_,_,_,_,_=>rfl
 | false::_,.obj _ _ _::_,_,_,_,_=>rfl
 | false::_,.pin _ _ _::_,_,_,_,_=>rfl
 | false::_,.hole _::_,_,_,_,_=>rfl
theorem jC:∀{ios:List Bool} {vs:List V} {xs ys:List OD} {i:Nat} {ρ:DEnv} {L1:List (V × OD)},vs.length=xs.length->(∀(k:Nat) v d,vs[k]?=some v->xs[k]?=some (.fz d)->Fz b.K (fun a=>b.C a\/b.S0 a) b.H0 v d)->aR i ios xs ρ=some ys ->
  Al σ (eS i ios vs) (dm i ios)->Wf σ ρ->Wd b H (L1++flat σ ρ)->vs.length=ys.length/\∃R,Wd b H (L1++(vs.zip ys++R))
 | [],[],[],ys,i,ρ,L1,_,_,e,_,_,w=>by simp only[aR]at e;cases e;exact⟨rfl,_,w⟩
 | true::ios,v::vs,x::xs,ys,i,ρ,L1,el,hf,e,al,wf,w=>by
  simp only[aR]at e
  split at e
  ·rename_i y ey
   split at e
   ·rename_i ys' e2
    cases e
    have ev:σ[i]?=some (some v):=al.1
    have w1:Wd b H ((L1++[(v,y)])++flat σ (ρ.set i none)):=w.perm (by
     rw[List.append_assoc]
     exact (bq (join_some ey) ev).append_left _)
    obtain⟨e3,R,w2⟩:=jC (ios:=ios) (vs:=vs) (xs:=xs) (i:=i + 1) (by simpa using el) (fun k u d h1 h2=>hf (k + 1) u d (by simpa using h1) (by simpa using h2)) (by rw[fP (by omega)];exact e2) al.2 wf.off w1
    exact⟨by simp[e3],R,by rw[List.append_assoc]at w2;exact w2⟩
   ·cases e
  ·cases e
 | false::ios,v::vs,.fz d::xs,ys,i,ρ,L1,el,hf,e,al,wf,w=>by
  simp only[aR]at e
  split at e
  ·rename_i ys' e2
   cases e
   have w1:Wd b H ((L1++[(v,.fz d)])++flat σ ρ):=(w.addF (hf 0 v d rfl rfl)).perm (by
    rw[List.append_assoc]
    exact List.perm_middle.symm)
   obtain⟨e3,R,w2⟩:=jC (ios:=ios) (vs:=vs) (xs:=xs) (i:=i + 1) (by simpa using el) (fun k u d h1 h2=>hf (k + 1) u d (by simpa using h1) (by simpa using h2)) e2 al wf w1
   exact⟨by simp[e3],R,by rw[List.append_assoc]at w2;exact w2⟩
  ·cases e
 | [],_::_,_::_,_,_,_,_,_,_,e,_,_,_=>by simp[aR]at e
 | true::_,[],[],_,_,_,_,_,_,e,_,_,_=>by simp[aR]at e
 | false::_,[],[],_,_,_,_,_,_,e,_,_,_=>by simp[aR]at e
 | false::_,_::_,.lst _::_,_,_,_,_,_,_,e,_,_,_=>by simp[aR]at e
 | false::_,_::_,.tup _::_,_,_,_,_,_,_,e,_,_,_=>by simp[aR]at e
 | false::_,_::_,.dic _ _::_,_,_,_,_,_,_,e,_,_,_=>by simp[aR]at e
 | false::_,_::_,.obj _ _ _::_,_,_,_,_,_,_,e,_,_,_=>by simp[aR]at e
 | false::_,_::_,.pin _ _ _::_,_,_,_,_,_,_,e,_,_,_=>by simp[aR]at e
 | false::_,_::_,.hole _::_,_,_,_,_,_,_,e,_,_,_=>by simp[aR]at e
 | _,[],_::_,_,_,_,_,e,_,_,_,_,_=>by simp at e
 | _,_::_,[],_,_,_,_,e,_,_,_,_,_=>by simp at e
theorem Ows.fzAt{S:Addr->Prop}:∀{vs:List V} {xs:List OD} {A:List Addr} {k:Nat} {v:V} {d:PyData},Ows b S H vs xs A->vs[k]?=some v->xs[k]?=some (.fz d)->Fz b.K S H v d
 | _,_,_,0,_,_,.cons r _,e,e'=>by simp at e e';subst e e';cases r with | fz f=>exact f
 | _,_,_,k + 1,_,_,.cons _ t,e,e'=>Ows.fzAt (k:=k) t (by simpa using e) (by simpa using e')
 | _,_,_,_,_,_,.nil,e,_=>by simp at e
theorem Fun.okD{x qual:Str}{st:Stmt}{f:Addr}{fd:FuncData}{N ps:List Str}{k:Nat}{sp:DSp}{ios:List Bool}(F:Fun K x qual st f fd)(S:FnScope N ps (aI st))(mono:qQ sp)(hio:ios.length=ps.length)(len:∀xs Q,sp xs Q->xs.length=ps.length)
  (hbody:∀(cdv:Value) (A:Around) (outer:List Env) (s:Shared) (H:Hp) (E:XK),Room k (A.deeper (envOfC qual (aI st) s.heap.objs.size f cdv))->∀(xs:List OD) (Q:OD->List OD->Prop),sp xs Q ->
   ∃db,PDss (jm CX0 P w K mg base N qual (aI st) f cdv A outer s H E).nox (WS ios) (bV st) db/\db { nx:=fun ρ=>∃ys,aR 0 ios xs ρ=some ys/\Q (.fz .none) ys,rt:=fun x ρ=>∃ys,aR 0 ios xs ρ=some ys/\Q x ys } (eF N.length xs)):FnD P w K mg base (k + 1) f fd ps sp:=by
 refine⟨F.ok S (fun vs H Q E h=>?_) (fun cdv A outer s H vs Q E hr h=>?_),mono⟩
 ·obtain⟨S,xs,A,_,_,hO,_,h⟩:=h
  rw[hO.len]
  exact len _ _ h
 ·obtain⟨S',xs,A',al,nt,hO,nA,h⟩:=h
  obtain⟨db,⟨ts,h1,s1⟩,hd⟩:=hbody cdv A outer s H E hr xs _ h
  refine⟨ts,h1,?_⟩
  let b:Bs:=⟨K,H,S',fun a=>a∈A'⟩
  have el:=hO.len
  have exl:=len _ _ h
  have w0:Wd b H (vs.zip xs):=⟨⟨A',OwL.unzips hO,nA,fun a ha=>.inr ha⟩,Kp.refl _ _,fun a z=>⟨(al a z).1,(al a z).2⟩,nt⟩
  have sg:∀(k:Nat) v,vs[k]?=some v->(start N vs)[0 + k]?=some (some v):=fun k v e=>by
   have hk:=(List.getElem?_eq_some_iff.mp e).1
   unfold start
   rw[Nat.zero_add,List.getElem?_append_left (by simpa using hk),List.getElem?_map,e];rfl
  have R:Rel b [] (start N vs) H (eF N.length xs) (eS 0 ios vs) (dm 0 ios):=by
   unfold start eF
   refine⟨by rw[el];exact g9 el,jA (by omega) sg,fun f hf=>(by cases hf),?_⟩
   rw[eT]
   show Wd b H ([]++(flat _ _++[]))
   rw[List.nil_append,List.append_nil,bH,g8 el]
   exact w0
  have fin:∀(σ':St) (H':Hp) (ρ':DEnv) (v:V) (x:OD),Rel b [] σ' H' ρ' (v::eS 0 ios vs) (.val x::dm 0 ios)->(∃ys,aR 0 ios xs ρ'=some ys/\Ex K S' A' vs H Q x ys)->Q v H':=fun σ' H' ρ' v x R' ⟨ys,ey,ha⟩=>by
   have w':Wd b H' ([(v,x)]++flat σ' ρ'):=by
    have:=R'.wd
    simp only[stk]at this
    rw[eT]at this
    simpa [ff] using this
   obtain⟨eys,Z,w2⟩:=jC (b:=b) (ios:=ios) (L1:=[(v,x)]) el (fun k v d h1 h2=>(Ows.fzAt hO h1 h2).sub fun a z=>z) ey R'.al R'.wf w'
   have e1:[(v,x)]++(vs.zip ys++Z)=(v::vs).zip (x::ys)++Z:=rfl
   rw[e1]at w2
   obtain⟨B0,h0,nd,new⟩:=w2.out
   have nt':=w2.nt' h0
   obtain⟨B,B2,rfl,r,t⟩:=OwL.split' h0
   refine ha v H' B w2.fr (Ows.sub nt' (fun c z=>z.imp (List.mem_append_left _) id) (OwL.zips (by simp[eys]) r)) (List.nodup_append.mp nd).1 fun a haB=>new a (List.mem_append_left _ haB)
  refine s1 b [] (start N vs) H _ _ _ _ _ rfl (jB fun k hk=>?_) R hd ⟨fun σ' H' ρ' R' h'=>?_,fun _ _ _ _ h'=>h'.elim,fun _ _ _ _ h'=>h'.elim,fin⟩
  ·rw[Nat.zero_add];exact hk
  ·exact fin σ' H' ρ' .non _ (R'.sc .non) h'
end
end
section
inductive Bo where | add | sub | mul | fdiv | mod | pow
inductive Co where | lt | le | gt | ge | eq | ne | inn | nin
inductive Bl where | len | abs | max | min | int | all | any | sum | mx3 | smt
inductive Knd where | int | bool | str | list | tuple | seq
inductive Bn where | list | tuple | sorted
inductive Acc where | fld (c f:Str) | ix (k:Int) | key (j:Nat)
inductive Tg where | nm (i:Nat) | tp (ts:List Nat) | tn (i:Nat)(ts:List Nat)
mutual
inductive E where
 | nm (i:Nat) | mv (i:Nat) | int (k:Int) | str (x:Str) | bl (b:Bool) | gc (g:Nat)
 | bop (o:Bo) (a b:E) | cat (a b:E)
 | cmp (o:Co) (a b:E) | isn (neg:Bool) (a:E)
 | and (a b:E) | or (a b:E) | not (a:E) | ife (c a b:E)
 | tup (es:Es) | lst (es:Es) | ix (a b:E)
 | call (f:Nat) (es:Es) | callS (f:Nat) (es:Es) | blt (f:Bl) (es:Es) | bnw (f:Bn) (e:E) | isi (k:Knd) (a:E) | sdd (i:Nat) | ln (i:Nat) | nen (i:Nat) | dnew
 | pg (i:Nat) (ps:List Acc) | pf (i:Nat) (ps:List Acc) | pl (i:Nat) (ps:List Acc) | pt (i:Nat) (ps:List Acc) | pin (neg:Bool) (e:E) (i:Nat) (ps:List Acc)
 | comp (nt:Nat) (fr:List Nat) (it:It') (tg:Tg) (ifs:Eo) (elt:E) | compB (i nt:Nat) (fr:List Nat) (tg:Tg) (ifs:Eo) (elt:E)
 | meth (c m:Str) (f:Nat) (i:Nat) (es:Es) | make (c:Str) (f:Nat) (es:Es)
inductive Es where | nil | cons (e:E)(es:Es)
inductive Eo where | none | some (e:E)
inductive It' where | seq (e:E) | rg1 (e:E) | enm (e:E) | zip (a b:E)
end
mutual
inductive S' where
 | ex (e:E) | set (i:Nat) (e:E) | asg (t:Tg) (e:E) | par (is:List Nat) (es:Es) | aug (i:Nat) (o:Bo) (e:E)
 | ret (e:E) | iff (c:E) (a b:Ss) | fr (t:Tg) (it:It') (b:Ss) | cont | brk
 | app (i:Nat) (e:E) | apd (i:Nat) (ps:List Acc) (e:E) | sti (i:Nat) (k e:E) | sdk (i:Nat) (k e:E) | std (i:Nat) (ps:List Acc) (j:Nat) (e:E)
 | stf (i:Nat) (c f:Str) (e:E) | agf (i:Nat) (c f:Str) (o:Bo) (e:E)
inductive Ss where | nil | cons (s:S')(ss:Ss) | ali (i:Nat)(ps:List Acc)(j:Nat)(ss:Ss) | alo (c:E)(i:Nat)(ps qs:List Acc)(j k:Nat)(ss:Ss)
end
structure Fn where
 io:List Bool
 n:Nat
 body:Ss
structure Ct where
 io:Nat->List Bool
 call:Nat->List OD->Option (OD × List OD)
 mak:Nat->List OD->Option (OD × List OD)
 gv:Nat->PyData
 wf:Nat
def m6:OD->Option PyData | .fz d=>some d | _=>none
def m7:OD->Option (List OD) | .lst xs=>some xs | _=>none
def zK:OD->Option (List Key × List OD) | .dic ks xs=>some (ks,xs) | _=>none
def AS:OD->Option (Str × List Str × List OD) | .obj c ns xs=>some (c,ns,xs) | _=>none
def Ez(x:OD):Option (List OD):=match x with | .lst xs=>some xs | .tup xs=>some xs | _=>none
def fF:PyData->Option Int | .int i=>some i | _=>none
def CI:PyData->Option Bool | .bool k=>some k | _=>none
def zL:PyData->Option (List PyData) | .list ds=>some ds | _=>none
def rL:PyData->Option (List PyData) | .list ds=>some ds | .tuple ds=>some ds | _=>none
def gd(c:Prop)[Decidable c]:Option Unit:=if c then some () else none
def ei{α:Type}:List α->Option α | [x]=>some x | _=>none
def u9{α:Type}:List α->Option (α × α × α) | [x,y,z]=>some (x,y,z) | _=>none
def EA:PyData->Option (List PyData) | .tuple ds=>some ds | _=>none
def gC{α:Type}:List α->Option (α × α) | [x,y]=>some (x,y) | _=>none
def EB(w:OD × List OD):Option (OD × List OD):=(m6 w.1).bind fun d=>match d,w.2 with | .none,y::ys=>some (y,ys) | _,_=>none
def EC:Bo->Int->Int->Option Int
 | .add,i,j=>some (i + j)
 | .sub,i,j=>some (i - j)
 | .mul,i,j=>(gd ((-(2 ^ 64) < i/\i < 2 ^ 64)\/(-(2 ^ 64) < j/\j < 2 ^ 64))).bind fun _=>some (i * j)
 | .fdiv,i,j=>(gd (0 < j/\j < 1073741824)).bind fun _=>some (i / j)
 | .mod,i,j=>(gd (0 < j)).bind fun _=>some (i % j)
 | .pow,i,j=>(gd (0≤j/\j≤1000000/\i.natAbs < 2 ^ 64)).bind fun _=>some (i ^ j.toNat)
def vc(o:Bo)(x y:PyData):Option PyData:=(fF x).bind fun i=>(fF y).bind fun j=>(EC o i j).bind fun k=>some (.int k)
def eqA(x y:PyData):Option Bool:=match pK x y with
 | some k=>some k
 | none=>if SeqAt.shaped x && SeqAt.shaped y then some (PyData.eqv x y) else none
def inA(x y:PyData):Option Bool:=(rL y).bind fun ds=>(gd (zI x=true)).bind fun _=>memD x ds
def rM(o:Co)(x y:PyData):Option Bool:=match o with
 | .lt=>(fF x).bind fun i=>(fF y).bind fun j=>some (decide (i < j))
 | .le=>(fF x).bind fun i=>(fF y).bind fun j=>some (decide (i≤j))
 | .gt=>(fF x).bind fun i=>(fF y).bind fun j=>some (decide (j < i))
 | .ge=>(fF x).bind fun i=>(fF y).bind fun j=>some (decide (j≤i))
 | .eq=>eqA x y
 | .ne=>(eqA x y).bind fun k=>some (!k)
 | .inn=>inA x y
 | .nin=>(inA x y).bind fun k=>some (!k)
def kC:PyData->Option Bool
 | .none=>some false | .bool b=>some b | .int i=>some (i != 0)
 | .list ds=>some (!ds.isEmpty) | .tuple ds=>some (!ds.isEmpty)
 | _=>none
def uc:Knd->PyData->Bool
 | .int,.int _=>true | .int,.bool _=>true | .bool,.bool _=>true | .str,.str _=>true | .list,.list _=>true | .tuple,.tuple _=>true | .seq,.list _=>true | .seq,.tuple _=>true
 | _,_=>false
def hJ:List PyData->Option (List Int)
 | []=>some []
 | d::ds=>(fF d).bind fun i=>(hJ ds).bind fun r=>some (i::r)
def qe(n:Int):Bool:=decide (-1000000000000≤n) && decide (n≤1000000000000)
def zM(f:Bl)(ds:List PyData):Option PyData:=match f with
 | .len=>(ei ds).bind fun d=>(g6 d).bind fun n=>some (.int n)
 | .abs=>(ei ds).bind fun d=>(fF d).bind fun i=>some (.int (if i < 0 then -i else i))
 | .max=>(gC ds).bind fun z=>(fF z.1).bind fun i=>(fF z.2).bind fun j=>some (.int (if j > i then j else i))
 | .min=>(gC ds).bind fun z=>(fF z.1).bind fun i=>(fF z.2).bind fun j=>some (.int (if j < i then j else i))
 | .int=>(ei ds).bind fun d=>(toInt d).bind fun i=>some (.int i)
 | .all=>(ei ds).bind fun d=>(zL d).bind fun es=>(allB es).bind fun bs=>some (.bool (bs.all id))
 | .any=>(ei ds).bind fun d=>(zL d).bind fun es=>(allB es).bind fun bs=>some (.bool (bs.any id))
 | .sum=>(ei ds).bind fun d=>(zL d).bind fun es=>(hJ es).bind fun ns=>(gd (ns.all qe=true/\ns.length≤1000000)).bind fun _=>some (.int ns.sum)
 | .mx3=>(u9 ds).bind fun z=>(fF z.1).bind fun i=>(fF z.2.1).bind fun j=>(fF z.2.2).bind fun k=>some (.int (if j > i then (if k > j then k else j) else if k > i then k else i))
 | .smt=>(ei ds).bind fun d=>(EA d).bind fun es=>(hJ es).bind fun ns=>(gd (ns.all qe=true/\ns.length≤1000000)).bind fun _=>some (.int ns.sum)
def insI(i:Int):List Int->List Int
 | []=>[i]
 | j::r=>if i≤j then i::j::r else j::insI i r
def sortI:List Int->List Int
 | []=>[]
 | i::r=>insI i (sortI r)
def kD:List Key->Option (List Int)
 | []=>some []
 | .inl i::ks=>(kD ks).bind fun r=>some (i::r)
 | .inr _::_=>none
def keyOf:PyData->Option Key
 | .int i=>some (.inl i)
 | .str x=>some (.inr x)
 | _=>none
def accN(ρ:DEnv)(x:OD):Acc->Option Nat
 | .fld c f=>(AS x).bind fun q=>(gd (q.1=c)).bind fun _=>q.2.1.findIdx? (fun g=>decide (g=f))
 | .ix k=>(Ez x).bind fun xs=>ixN xs.length k
 | .key j=>(ρ[j]?.join).bind fun y=>(m6 y).bind fun d=>(zK x).bind fun q=>(keyOf d).bind fun k=>q.1.findIdx? (fun q=>decide (q=k))
def ah(ρ:DEnv)(i:Nat):List Acc->Option (OD × List Nat × OD)
 | []=>(ρ[i]?.join).bind fun x=>some (x,[],x)
 | a::ps=>(ah ρ i ps).bind fun p=>(accN ρ p.2.2 a).bind fun k=>(p.2.2.kids[k]?).bind fun z=>some (p.1,p.2.1++[k],z)
def unpA(x:OD):Option (List OD):=match unpT x with | some xs=>some xs | none=>unpL x
def AU(ts:List Nat)(x:OD)(ρ:DEnv):Option DEnv:=(unpA x).bind fun xs=>(gd (xs.length=ts.length/\∀i∈ts,i < ρ.length)).bind fun _=>some (dD ts xs ρ)
def bF:Tg->OD->DEnv->Option DEnv
 | .nm i,x,ρ=>(gd (i < ρ.length)).bind fun _=>some (ρ.set i (some x))
 | .tp ts,x,ρ=>AU ts x ρ
 | .tn i ts,x,ρ=>(unpA x).bind fun xs=>(gC xs).bind fun z=>(gd (i < ρ.length)).bind fun _=>AU ts z.2 (ρ.set i (some z.1))
def bc(step:PyData->DEnv->Option (List PyData × DEnv)):List PyData->List PyData->DEnv->Option (List PyData × DEnv)
 | [],out,ρ=>some (out,ρ)
 | d::ds,out,ρ=>(step d ρ).bind fun w=>bc step ds (out++w.1) w.2
inductive Fl where | nx | bk | ct | rt (x:OD)
def cv(step:PyData->DEnv->Option (Fl × DEnv)):List PyData->DEnv->Option (Fl × DEnv)
 | [],ρ=>some (.nx,ρ)
 | d::ds,ρ=>(step d ρ).bind fun w=>match w.1 with
  | .nx=>cv step ds w.2
  | .ct=>cv step ds w.2
  | .bk=>some (.nx,w.2)
  | .rt x=>some (.rt x,w.2)
def vt(f:DEnv->Option (OR × DEnv)):(DEnv->Option (OR × DEnv)) × (DEnv->Option (Bool × DEnv)):=(f,fun ρ=>(f ρ).bind fun x=>(aN x.2 x.1).bind fun d=>(kC d).bind fun k=>some (k,x.2))
section
variable(C:Ct)
mutual
def dv:E->(DEnv->Option (OR × DEnv)) × (DEnv->Option (Bool × DEnv))
 | .nm i=>vt fun ρ=>match ρ[i]?.join with
  | some (.fz d)=>some (.val (.fz d),ρ)
  | some _=>some (.rf i,ρ)
  | none=>none
 | .mv i=>vt fun ρ=>(ρ[i]?.join).bind fun x=>some (.val x,ρ.set i none)
 | .int k=>vt fun ρ=>some (.val (.fz (.int k)),ρ)
 | .str x=>vt fun ρ=>some (.val (.fz (.str x)),ρ)
 | .bl b=>vt fun ρ=>some (.val (.fz (.bool b)),ρ)
 | .gc g=>vt fun ρ=>some (.val (.fz (C.gv g)),ρ)
 | .bop o a b=>vt fun ρ=>((dv a).1 ρ).bind fun x=>((dv b).1 x.2).bind fun y=>(aN y.2 x.1).bind fun dx=>(aN y.2 y.1).bind fun dy=>(vc o dx dy).bind fun d=>some (.val (.fz d),y.2)
 | .cat a b=>vt fun ρ=>((dv a).1 ρ).bind fun x=>((dv b).1 x.2).bind fun y=>(zJ y.2 x.1).bind fun dx=>(zJ y.2 y.1).bind fun dy=>(gd (dx.length + dy.length≤1000000)).bind fun _=>some (.val (.lst ((dx++dy).map OD.fz)),y.2)
 | .cmp o a b=>vt fun ρ=>((dv a).1 ρ).bind fun x=>((dv b).1 x.2).bind fun y=>(aN y.2 x.1).bind fun dx=>(aN y.2 y.1).bind fun dy=>(rM o dx dy).bind fun k=>some (.val (.fz (.bool k)),y.2)
 | .isn neg a=>vt fun ρ=>((dv a).1 ρ).bind fun x=>(aN x.2 x.1).bind fun d=>some (.val (.fz (.bool (if neg then !isNn d else isNn d))),x.2)
 | .and a b=>(fun ρ=>((dv a).1 ρ).bind fun x=>(aN x.2 x.1).bind fun d=>(CI d).bind fun k=>if k=true then (dv b).1 x.2 else some (.val (.fz (.bool false)),x.2),fun ρ=>((dv a).2 ρ).bind fun x=>if x.1=true then (dv b).2 x.2 else some (false,x.2))
 | .or a b=>(fun ρ=>((dv a).1 ρ).bind fun x=>(aN x.2 x.1).bind fun d=>(CI d).bind fun k=>if k=true then some (.val (.fz (.bool true)),x.2) else (dv b).1 x.2,fun ρ=>((dv a).2 ρ).bind fun x=>if x.1=true then some (true,x.2) else (dv b).2 x.2)
 | .not a=>(fun ρ=>((dv a).1 ρ).bind fun x=>(aN x.2 x.1).bind fun d=>(CI d).bind fun k=>some (.val (.fz (.bool (!k))),x.2),fun ρ=>((dv a).2 ρ).bind fun x=>some (!x.1,x.2))
 | .ife c a b=>vt fun ρ=>((dv c).2 ρ).bind fun x=>if x.1=true then (dv a).1 x.2 else (dv b).1 x.2
 | .tup es=>vt fun ρ=>(evs es ρ).bind fun x=>(mapR own1 x.2 x.1).bind fun z=>(gd (x.1.length≤1000000)).bind fun _=>some (.val (mkTup z.1),z.2)
 | .lst es=>vt fun ρ=>(evs es ρ).bind fun x=>(mapR own1 x.2 x.1).bind fun z=>(gd (x.1.length≤1000000)).bind fun _=>some (.val (.lst z.1),z.2)
 | .ix a b=>vt fun ρ=>((dv a).1 ρ).bind fun x=>((dv b).1 x.2).bind fun y=>(aN y.2 y.1).bind fun d=>(fF d).bind fun i=>(bu y.2 x.1 i).bind fun z=>some (.val z.1,z.2)
 | .call f es=>vt fun ρ=>(evs es ρ).bind fun x=>(bx (C.io f) x.2 x.1).bind fun z=>(C.call f z.1).bind fun w=>some (.val w.1,dF (C.io f) x.1 w.2 z.2)
 | .callS f es=>vt fun ρ=>(evs es ρ).bind fun x=>(eh x.2 x.1).bind fun ds=>(C.call f (ds.map OD.fz)).bind fun w=>(m6 w.1).bind fun d=>(gd (CH d=true)).bind fun _=>some (.val (.fz d),x.2)
 | .blt f es=>vt fun ρ=>(evs es ρ).bind fun x=>(eh x.2 x.1).bind fun ds=>(zM f ds).bind fun d=>some (.val (.fz d),x.2)
 | .bnw f e=>vt fun ρ=>((dv e).1 ρ).bind fun x=>match f with
  | .list=>((dB x.2 x.1).bind seqOf).bind fun ds=>some (.val (.lst (ds.map OD.fz)),x.2)
  | .tuple=>((dB x.2 x.1).bind listOf).bind fun ds=>some (.val (.fz (.tuple ds)),x.2)
  | .sorted=>(aN x.2 x.1).bind fun d=>(zL d).bind fun ds=>(hJ ds).bind fun ns=>(gd (ns.length < 64)).bind fun _=>some (.val (.lst ((sortI ns).map fun i=>.fz (.int i))),x.2)
 | .isi k a=>vt fun ρ=>((dv a).1 ρ).bind fun x=>(aN x.2 x.1).bind fun d=>some (.val (.fz (.bool (uc k d))),x.2)
 | .sdd i=>vt fun ρ=>(ρ[i]?.join).bind fun x=>(zK x).bind fun q=>(kD q.1).bind fun ns=>(gd (ns.length < 64)).bind fun _=>some (.val (.lst ((sortI ns).map fun i=>.fz (.int i))),ρ)
 | .ln i=>vt fun ρ=>(ρ[i]?.join).bind fun x=>(m7 x).bind fun xs=>some (.val (.fz (.int xs.length)),ρ)
 | .nen i=>vt fun ρ=>(ρ[i]?.join).bind fun x=>(m7 x).bind fun xs=>some (.val (.fz (.bool (!xs.isEmpty))),ρ)
 | .dnew=>vt fun ρ=>some (.val (.dic [] []),ρ)
 | .pg i ps=>vt fun ρ=>(ah ρ i ps).bind fun p=>(m6 p.2.2).bind fun d=>some (.val (.fz d),ρ)
 | .pf i ps=>vt fun ρ=>(ah ρ i ps).bind fun p=>(p.2.2.dat).bind fun d=>some (.val (.fz d),ρ.set i (some (OD.put (.fz d) p.2.1 p.1)))
 | .pl i ps=>vt fun ρ=>(ah ρ i ps).bind fun p=>(p.2.2.dat).bind fun d=>(g6 d).bind fun n=>some (.val (.fz (.int n)),ρ)
 | .pt i ps=>(fun _=>none,fun ρ=>(ah ρ i ps).bind fun p=>(p.2.2.dat).bind fun d=>(kC d).bind fun k=>some (k,ρ))
 | .pin neg e i ps=>vt fun ρ=>((dv e).1 ρ).bind fun x=>(aN x.2 x.1).bind fun dx=>(ah x.2 i ps).bind fun p=>(p.2.2.dat).bind fun d=>(rM (if neg then .nin else .inn) dx d).bind fun k=>some (.val (.fz (.bool k)),x.2)
 | .comp nt fr it tg ifs elt=>vt fun ρ=>(rN it ρ).bind fun x=>(gd (x.1.length < 1000000)).bind fun _=>(cF x.2 fr).bind fun z =>
   (bc (fun d ρ'=>(bF tg (.fz d) ρ').bind fun ρ1=>(CJ ifs ρ1).bind fun k=>if k.1=true then ((dv elt).1 k.2).bind fun y=>(frz1 y.2 y.1).bind fun q=>some ([q.1],q.2) else some ([],k.2)) x.1 [] (List.replicate nt none++z.1)).bind fun w =>
    some (.val (.lst (w.1.map OD.fz)),gB z.2 fr (w.2.drop nt))
 | .compB i nt fr tg ifs elt=>vt fun ρ=>(ρ[i]?.join).bind fun x0=>(m7 x0).bind fun xs=>(q0 xs).bind fun ds=>(gd (ds.length < 1000000)).bind fun _=>(cF (ρ.set i none) fr).bind fun z =>
   (bc (fun d ρ'=>(bF tg (.fz d) ρ').bind fun ρ1=>(CJ ifs ρ1).bind fun k=>if k.1=true then ((dv elt).1 k.2).bind fun y=>(frz1 y.2 y.1).bind fun q=>some ([q.1],q.2) else some ([],k.2)) ds [] (List.replicate nt none++z.1)).bind fun w =>
    some (.val (.lst (w.1.map OD.fz)),(gB z.2 fr (w.2.drop nt)).set i (some (.lst xs)))
 | .meth c m f i es=>vt fun ρ=>(ρ[i]?.join).bind fun x0=>(AS x0).bind fun q=>(gd (q.1=c/\m ∉ q.2.1)).bind fun _=>(evs es ρ).bind fun x=>(bx (C.io f) x.2 (.rf i::x.1)).bind fun z=>(C.call f z.1).bind fun w=>some (.val w.1,dF (C.io f) (.rf i::x.1) w.2 z.2)
 | .make c f es=>vt fun ρ=>(evs es ρ).bind fun x=>(bx (C.io f).tail x.2 x.1).bind fun z=>(C.mak f (.obj c [] []::z.1)).bind fun w=>(EB w).bind fun y=>some (.val y.1,dF (C.io f).tail x.1 y.2 z.2)
def evs:Es->DEnv->Option (List OR × DEnv)
 | .nil,ρ=>some ([],ρ)
 | .cons e es,ρ=>((dv e).1 ρ).bind fun x=>(evs es x.2).bind fun y=>some (x.1::y.1,y.2)
def CJ:Eo->DEnv->Option (Bool × DEnv)
 | .none,ρ=>some (true,ρ)
 | .some e,ρ=>(dv e).2 ρ
def rN:It'->DEnv->Option (List PyData × DEnv)
 | .seq e,ρ=>((dv e).1 ρ).bind fun x=>(frz1 x.2 x.1).bind fun z=>(rL z.1).bind fun ds=>some (ds,z.2)
 | .rg1 e,ρ=>((dv e).1 ρ).bind fun x=>(aN x.2 x.1).bind fun d=>(fF d).bind fun j=>(gd (-(2 ^ 62)≤j/\j < 2 ^ 62)).bind fun _=>some (ck 0 j.toNat,x.2)
 | .enm e,ρ=>((dv e).1 ρ).bind fun x=>(frz1 x.2 x.1).bind fun z=>(zL z.1).bind fun ds=>some (cD ds,z.2)
 | .zip a b,ρ=>((dv a).1 ρ).bind fun x=>((dv b).1 x.2).bind fun y=>(frz1 y.2 x.1).bind fun z=>(frz1 z.2 y.1).bind fun w=>(rL z.1).bind fun ds=>(rL w.1).bind fun es=>some (fN ds es,w.2)
end
abbrev ev(e:E)(ρ:DEnv):=(dv C e).1 ρ
abbrev bf(e:E)(ρ:DEnv):=(dv C e).2 ρ
end
example (C:Ct) (ρ:DEnv):ev C (.bop .add (.int 1) (.int 2)) ρ=some (.val (.fz (.int 3)),ρ):=rfl
example (C:Ct) (ρ:DEnv):bf C (.and (.bl true) (.not (.cmp .lt (.int 1) (.int 2)))) ρ=some (false,ρ):=rfl
end
section
theorem bnd{α β:Type}{o:Option α}{f:α->Option β}{x:β}(h:o.bind f=some x):∃a,o=some a/\f a=some x:=Option.bind_eq_some_iff.mp h
theorem cy{x:OD}{d:PyData}(h:m6 x=some d):x=.fz d:=by cases x<;>cases h;rfl
theorem cP{x:OD}{xs:List OD}(h:m7 x=some xs):x=.lst xs:=by cases x<;>cases h;rfl
theorem lQ{x:OD}{z:List Key × List OD}(h:zK x=some z):x=.dic z.1 z.2:=by cases x<;>cases h;rfl
theorem jD{x:OD}{z:Str × List Str × List OD}(h:AS x=some z):x=.obj z.1 z.2.1 z.2.2:=by cases x<;>cases h;rfl
theorem yB{x:OD}{xs:List OD}(h:Ez x=some xs):x=.lst xs\/x=.tup xs:=by cases x<;>cases h<;>first | exact .inl rfl | exact .inr rfl
theorem aP{d:PyData}{i:Int}(h:fF d=some i):d=.int i:=by cases d<;>cases h;rfl
theorem lR{d:PyData}{i:Bool}(h:CI d=some i):d=.bool i:=by cases d<;>cases h;rfl
theorem hU{d:PyData}{i:List PyData}(h:zL d=some i):d=.list i:=by cases d<;>cases h;rfl
theorem jE{d:PyData}{i:List PyData}(h:rL d=some i):d=.list i\/d=.tuple i:=by cases d<;>cases h<;>first | exact .inl rfl | exact .inr rfl
theorem gd_ok{c:Prop}[Decidable c]{u:Unit}(h:gd c=some u):c:=by
 by_cases hc:c
 ·exact hc
 ·rw[gd,if_neg hc]at h;cases h
theorem one1_ok{α:Type}{l:List α}{x:α}(h:ei l=some x):l=[x]:=by
 cases l with
 | nil=>cases h
 | cons y l=>cases l<;>cases h;rfl
theorem thr3_ok{α:Type}{l:List α}{x:α × α × α}(h:u9 l=some x):l=[x.1,x.2.1,x.2.2]:=by
 cases l with
 | nil=>cases h
 | cons y l =>
  cases l with
  | nil=>cases h
  | cons z l =>
   cases l with
   | nil=>cases h
   | cons w l=>cases l<;>cases h;rfl
theorem yC{d:PyData}{i:List PyData}(h:EA d=some i):d=.tuple i:=by cases d<;>cases h;rfl
theorem two2_ok{α:Type}{l:List α}{x:α × α}(h:gC l=some x):l=[x.1,x.2]:=by
 cases l with
 | nil=>cases h
 | cons y l =>
  cases l with
  | nil=>cases h
  | cons z l=>cases l<;>cases h;rfl
theorem yD{w z:OD × List OD}(h:EB w=some z):w.1=.fz .none/\w.2=z.1::z.2:=by
 obtain⟨a,b⟩:=w
 obtain⟨d,e,h⟩:=bnd h
 cases b with
 | nil=>cases d<;>cases h
 | cons y ys=>cases d<;>cases h;exact⟨cy e,rfl⟩
section
variable(C:Ct)
mutual
def iI:E->DEnv->Option PyData
 | .nm i,ρ=>(ρ[i]?.join).bind m6
 | .int k,_=>some (.int k)
 | .str x,_=>some (.str x)
 | .gc g,_=>some (C.gv g)
 | .bop o a b,ρ=>match o with
  | .add=>(iI a ρ).bind fun x=>(iI b ρ).bind fun y=>vc .add x y
  | .sub=>(iI a ρ).bind fun x=>(iI b ρ).bind fun y=>vc .sub x y
  | _=>none
 | .ix a b,ρ=>(iI a ρ).bind fun x=>(iI b ρ).bind fun y=>(rL x).bind fun ds=>(fF y).bind fun i=>atI ds i
 | .tup es,ρ=>(lU es ρ).bind fun ds=>(gd (ds.length≤1000000)).bind fun _=>some (.tuple ds)
 | .pg i ps,ρ=>(ah ρ i ps).bind fun p=>m6 p.2.2
 | _,_=>none
def lU:Es->DEnv->Option (List PyData)
 | .nil,_=>some []
 | .cons e es,ρ=>(iI e ρ).bind fun x=>(lU es ρ).bind fun y=>some (x::y)
end
def bp(f:Str)(z:OD):List Str->List OD->List Str × List OD
 | n::ns,x::xs=>if n=f then (n::ns,z::xs) else ((n::(bp f z ns xs).1),(x::(bp f z ns xs).2))
 | _,_=>([f],[z])
def bQ(k:Key)(d:PyData)(ks:List Key)(xs:List OD):List Key × List OD :=
 if (ks.any fun q=>decide (q=k))=true then (ks,List.zipWith (fun q x=>if q=k then .fz d else x) ks xs) else (ks++[k],xs++[.fz d])
def lV:Bo->Int->PyData->Option Int
 | .add,a,.int k=>some (a + k)
 | .sub,a,.int k=>some (a - k)
 | _,_,_=>none
def rO(i:Nat)(ks:List Nat)(j:Nat)(u:V)(ρ ρ':DEnv):Prop:=∃x y,ρ[i]?.join=some x/\x.at ks=some (.hole u)/\ρ[j]?.join=some y/\j≠i/\ρ'=(ρ.set j none).set i (some (OD.put y ks x))
def HolOk(g:V->Option (Fl × DEnv))(i:Nat)(ks:List Nat)(j:Nat)(z:Fl × DEnv):Prop:=∀u:V,∃ρ2,g u=some (z.1,ρ2)/\rO i ks j u ρ2 z.2
open Classical in
def holRun(g:V->Option (Fl × DEnv))(i:Nat)(ks:List Nat)(j:Nat):Option (Fl × DEnv):=if h:∃z,HolOk g i ks j z then some (Classical.choose h) else none
theorem holRun_some{g:V->Option (Fl × DEnv)}{i j:Nat}{ks:List Nat}{z:Fl × DEnv}(h:holRun g i ks j=some z):HolOk g i ks j z:=by
 unfold holRun at h
 by_cases hh:∃z,HolOk g i ks j z
 ·rw[dif_pos hh]at h
  cases h
  exact Classical.choose_spec hh
 ·rw[dif_neg hh]at h;cases h
theorem holRun_is{g:V->Option (Fl × DEnv)}{i j:Nat}{ks:List Nat}{z:Fl × DEnv}(h:HolOk g i ks j z):holRun g i ks j=some z:=by
 have hh:∃z,HolOk g i ks j z:=⟨z,h⟩
 have e0:holRun g i ks j=some (Classical.choose hh):=dif_pos hh
 rw[e0]
 have h':=Classical.choose_spec hh
 generalize Classical.choose hh=z' at h'
 obtain⟨ρ2,a1,x1,y1,b1,b2,b3,b4,b5⟩:=h .non
 obtain⟨ρ3,a2,x2,y2,c1,c2,c3,c4,c5⟩:=h' .non
 rw[a1]at a2
 injection a2 with a2
 injection a2 with a2 a3
 subst a3
 rw[b1]at c1
 rw[b3]at c3
 cases c1
 cases c3
 obtain⟨z1,z2⟩:=z
 obtain⟨w1,w2⟩:=z'
 simp only at *
 rw[b5,c5,a2]
abbrev AliOk(f:DEnv->Option (Fl × DEnv))(ρ:DEnv)(i:Nat)(p:OD × List Nat × OD)(xs:List OD)(j:Nat)(z:Fl × DEnv):Prop:=HolOk (fun u=>f (ρ.set i (some (OD.put (.lst (xs++[.hole u])) p.2.1 p.1)))) i (p.2.1++[xs.length]) j z
def jF(f:DEnv->Option (Fl × DEnv))(ρ:DEnv)(i:Nat)(p:OD × List Nat × OD)(j:Nat):Option (Fl × DEnv):=(m7 p.2.2).bind fun xs=>(gd (xs.length < 1000000/\j≠i/\(ρ[j]?.join).isSome)).bind fun _=>holRun (fun u=>f (ρ.set i (some (OD.put (.lst (xs++[.hole u])) p.2.1 p.1)))) i (p.2.1++[xs.length]) j
theorem kE{f:DEnv->Option (Fl × DEnv)}{ρ:DEnv}{i j:Nat}{p:OD × List Nat × OD}{z:Fl × DEnv}(h:jF f ρ i p j=some z):∃xs,p.2.2=.lst xs/\xs.length < 1000000/\j≠i/\(∃y,ρ[j]?.join=some y)/\AliOk f ρ i p xs j z:=by
 obtain⟨xs,ex,h⟩:=bnd h
 obtain⟨_,hz,h⟩:=bnd h
 have hz:=gd_ok hz
 exact⟨xs,cP ex,hz.1,hz.2.1,Option.isSome_iff_exists.mp hz.2.2,holRun_some h⟩
theorem pT{f:DEnv->Option (Fl × DEnv)}{ρ:DEnv}{i j:Nat}{p:OD × List Nat × OD}{xs:List OD}{y:OD}{z:Fl × DEnv}(ex:p.2.2=.lst xs)(hz:xs.length < 1000000)(hj:j≠i)(hy:ρ[j]?.join=some y)(h:AliOk f ρ i p xs j z):jF f ρ i p j=some z:=by
 unfold jF
 rw[ex,show m7 (.lst xs)=some xs from rfl,Option.bind_some]
 have:gd (xs.length < 1000000/\j≠i/\(ρ[j]?.join).isSome)=some ():=if_pos ⟨hz,hj,by rw[hy];rfl⟩
 rw[this,Option.bind_some]
 exact holRun_is h
mutual
def dw:S'->DEnv->Option (Fl × DEnv)
 | .ex e,ρ=>(ev C e ρ).bind fun x=>some (.nx,x.2)
 | .set i e,ρ=>(ev C e ρ).bind fun x=>(own1 x.2 x.1).bind fun z=>(gd (i < z.2.length)).bind fun _=>some (.nx,z.2.set i (some z.1))
 | .asg t e,ρ=>(ev C e ρ).bind fun x=>(own1 x.2 x.1).bind fun z=>(bF t z.1 z.2).bind fun ρ1=>some (.nx,ρ1)
 | .par is es,ρ=>(evs C es ρ).bind fun x=>(mapR own1 x.2 x.1).bind fun z=>(gd (z.1.length=is.length/\∀i∈is,i < z.2.length)).bind fun _=>some (.nx,dD is z.1 z.2)
 | .aug i o e,ρ=>(ρ[i]?.join).bind fun x0=>(m6 x0).bind fun d0=>(fF d0).bind fun a=>(ev C e ρ).bind fun x=>(aN x.2 x.1).bind fun d=>(lV o a d).bind fun r=>some (.nx,x.2.set i (some (.fz (.int r))))
 | .ret e,ρ=>(ev C e ρ).bind fun x=>(mv1 x.2 x.1).bind fun z=>some (.rt z.1,z.2)
 | .iff c a b,ρ=>(bf C c ρ).bind fun x=>if x.1=true then aD a x.2 else aD b x.2
 | .fr t it b,ρ=>(rN C it ρ).bind fun x=>cv (fun d ρ'=>(bF t (.fz d) ρ').bind fun ρ1=>aD b ρ1) x.1 x.2
 | .cont,ρ=>some (.ct,ρ)
 | .brk,ρ=>some (.bk,ρ)
 | .app i e,ρ=>(ρ[i]?.join).bind fun x0=>(m7 x0).bind fun _=>(ev C e ρ).bind fun x=>(own1 x.2 x.1).bind fun z=>(z.2[i]?.join).bind fun x1=>(m7 x1).bind fun xs=>(gd (xs.length < 1000000)).bind fun _=>some (.nx,z.2.set i (some (.lst (xs++[z.1]))))
 | .apd i ps e,ρ=>(ah ρ i ps).bind fun p=>(iI C e ρ).bind fun d=>(m7 p.2.2).bind fun xs=>(gd (xs.length < 1000000)).bind fun _=>some (.nx,ρ.set i (some (OD.put (.lst (xs++[.fz d])) p.2.1 p.1)))
 | .sti i k e,ρ=>(ev C e ρ).bind fun x=>(own1 x.2 x.1).bind fun z=>(z.2[i]?.join).bind fun x0=>(m7 x0).bind fun _=>(ev C k z.2).bind fun q=>(aN q.2 q.1).bind fun d=>(fF d).bind fun k=>(q.2[i]?.join).bind fun x1=>(m7 x1).bind fun xs=>(ixN xs.length k).bind fun j=>some (.nx,q.2.set i (some (.lst (xs.set j z.1))))
 | .sdk i k e,ρ=>(ev C e ρ).bind fun x=>(frz1 x.2 x.1).bind fun z=>(z.2[i]?.join).bind fun x0=>(zK x0).bind fun _=>(ev C k z.2).bind fun q=>(aN q.2 q.1).bind fun kd=>(keyOf kd).bind fun kk=>(q.2[i]?.join).bind fun x1=>(zK x1).bind fun u=>(gd (u.2.length < 1000000)).bind fun _=>some (.nx,q.2.set i (some (.dic (bQ kk z.1 u.1 u.2).1 (bQ kk z.1 u.1 u.2).2)))
 | .std i ps j e,ρ=>(ev C e ρ).bind fun x=>(frz1 x.2 x.1).bind fun z=>(ah z.2 i ps).bind fun p=>(z.2[j]?.join).bind fun x0=>(m6 x0).bind fun kd=>(keyOf kd).bind fun kk=>(zK p.2.2).bind fun u=>(gd (u.2.length < 1000000)).bind fun _=>some (.nx,z.2.set i (some (OD.put (.dic (bQ kk z.1 u.1 u.2).1 (bQ kk z.1 u.1 u.2).2) p.2.1 p.1)))
 | .stf i c f e,ρ=>(ev C e ρ).bind fun x=>(own1 x.2 x.1).bind fun z=>(z.2[i]?.join).bind fun x0=>(AS x0).bind fun u=>(gd (u.1=c/\u.2.2.length < 1000)).bind fun _=>some (.nx,z.2.set i (some (.obj u.1 (bp f z.1 u.2.1 u.2.2).1 (bp f z.1 u.2.1 u.2.2).2)))
 | .agf i c f o e,ρ=>(ah ρ i [.fld c f]).bind fun p=>(m6 p.2.2).bind fun d0=>(fF d0).bind fun a=>(ev C e ρ).bind fun x=>(aN x.2 x.1).bind fun d=>(lV o a d).bind fun r=>(x.2[i]?.join).bind fun x0=>(AS x0).bind fun u=>(gd (u.1=c/\u.2.2.length < 1000)).bind fun _=>some (.nx,x.2.set i (some (.obj u.1 (bp f (.fz (.int r)) u.2.1 u.2.2).1 (bp f (.fz (.int r)) u.2.1 u.2.2).2)))
def aD:Ss->DEnv->Option (Fl × DEnv)
 | .nil,ρ=>some (.nx,ρ)
 | .cons s ss,ρ=>(dw s ρ).bind fun x=>match x.1 with
  | .nx=>aD ss x.2
  | fl=>some (fl,x.2)
 | .ali i ps j ss,ρ=>(ah ρ i ps).bind fun p=>jF (aD ss) ρ i p j
 | .alo c i ps qs j k ss,ρ=>(bf C c ρ).bind fun t=>(gd (j≠i/\k≠i/\j≠k/\j < t.2.length/\k < t.2.length)).bind fun _=>if t.1=true then (ah t.2 i ps).bind fun p=>(m7 p.2.2).bind fun ys=>(ah t.2 i qs).bind fun r=>(m6 r.2.2).bind fun d=>holRun (fun u=>aD ss (((t.2.set i (some (OD.put (.hole u) p.2.1 p.1))).set j (some (.lst ys))).set k (some (.fz d)))) i p.2.1 j
  else aD ss ((t.2.set j (some (.lst []))).set k (some (.fz (.int 0))))
end
def rP(fn:Fn)(xs:List OD):Option (OD × List OD):=(aD C fn.body (eF fn.n xs)).bind fun x=>match x.1 with
 | .nx=>(aR 0 fn.io xs x.2).bind fun ys=>some (.fz .none,ys)
 | .rt o=>(aR 0 fn.io xs x.2).bind fun ys=>some (o,ys)
 | _=>none
end
structure Pg where
 F:Nat->Option Fn
 gv:Nat->PyData
 wf:Nat
def Pg.io(p:Pg)(f:Nat):List Bool:=match p.F f with | some fn=>fn.io | none=>[]
def Pg.both(p:Pg):Nat->(Nat->List OD->Option (OD × List OD)) × (Nat->List OD->Option (OD × List OD))
 | 0=>(fun _ _=>none,fun _ _=>none)
 | n + 1=>(fun f xs=>match p.F f with
  | some fn=>if xs.length=fn.io.length then rP ⟨p.io,(Pg.both p n).1,(Pg.both p n).2,p.gv,p.wf⟩ fn xs else none
  | none=>none,(Pg.both p n).1)
def Pg.call(p:Pg)(n f:Nat)(xs:List OD):Option (OD × List OD):=(p.both n).1 f xs
def Pg.mak(p:Pg)(n f:Nat)(xs:List OD):Option (OD × List OD):=(p.both n).2 f xs
abbrev Pg.ct(p:Pg)(n:Nat):Ct:=⟨p.io,p.call n,p.mak n,p.gv,p.wf⟩
theorem Pg.call_succ(p:Pg)(n f:Nat)(xs:List OD):p.call (n + 1) f xs=match p.F f with
  | some fn=>if xs.length=fn.io.length then rP (p.ct n) fn xs else none
  | none=>none:=rfl
theorem Pg.mak_succ(p:Pg)(n f:Nat)(xs:List OD):p.mak (n + 1) f xs=p.call n f xs:=rfl
end
section
def aF(C:Ct)(m:E):DE:=fun ρ Q=>∃x,ev C m ρ=some x/\Q x.1 x.2
def gF(C:Ct)(m:E):DT:=fun ρ Q=>∃x,bf C m ρ=some x/\Q x.1 x.2
def eG(C:Ct)(m:Es):DA:=fun ρ Q=>∃x,evs C m ρ=some x/\Q x.1 x.2
def iK(C:Ct)(m:It'):DI:=fun ρ Q=>∃x,rN C m ρ=some x/\Q x.1 x.2
section
variable{X:Cx}{e:Expr}{es:List Expr}
theorem PDe.imp{d d':DE}:PDe X e d->(∀ρ Q,d' ρ Q->d ρ Q)->PDe X e d'
 | ⟨te,h,s⟩,f=>⟨te,h,fun b F σ H ρ τ θ Qd Q hK R hd q=>s b F σ H ρ τ θ Qd Q hK R (f _ _ hd) q⟩
theorem PDt.imp{d d':DT}:PDt X e d->(∀ρ Q,d' ρ Q->d ρ Q)->PDt X e d'
 | ⟨te,h,s⟩,f=>⟨te,h,fun b F σ H ρ τ θ Qd Q hK R hd q=>s b F σ H ρ τ θ Qd Q hK R (f _ _ hd) q⟩
theorem PDw.imp{d d':DT}:PDw X e d->(∀ρ Q,d' ρ Q->d ρ Q)->PDw X e d'
 | ⟨te,h,s⟩,f=>⟨te,h,fun b F σ H ρ τ θ Qd Q hK R hd q=>s b F σ H ρ τ θ Qd Q hK R (f _ _ hd) q⟩
theorem PDa.imp{d d':DA}:PDa X es d->(∀ρ Q,d' ρ Q->d ρ Q)->PDa X es d'
 | ⟨te,h,s⟩,f=>⟨te,h,fun b F σ H ρ τ θ Qd Q hK R hd q=>s b F σ H ρ τ θ Qd Q hK R (f _ _ hd) q⟩
theorem PDi.imp{tg:Expr}{d d':DI}:PDi X tg e d->(∀ρ Q,d' ρ Q->d ρ Q)->PDi X tg e d'
 | ⟨te,h,s⟩,f=>⟨te,h,fun b F σ H ρ τ θ Qd Q hK R hd q=>s b F σ H ρ τ θ Qd Q hK R (f _ _ hd) q⟩
theorem SndR2.or{K:PySem.W.Frag}{r r':R2}{d d':DR2}(h:SndR2 K r d)(h':SndR2 K r' d'):SndR2 K (fun x y H Q=>r x y H Q\/r' x y H Q) (fun x y Q=>d x y Q\/d' x y Q):=fun H v u dx dy Qd Q hv hu z q=>z.imp (fun z=>h H v u dx dy Qd Q hv hu z q) fun z=>h' H v u dx dy Qd Q hv hu z q
theorem SndR2.imp{K:PySem.W.Frag}{r:R2}{d d':DR2}(h:SndR2 K r d)(f:∀x y Q,d' x y Q->d x y Q):SndR2 K r d':=fun H v u dx dy Qd Q hv hu z q=>h H v u dx dy Qd Q hv hu (f _ _ _ z) q
end
def opOf:Bo->Operator
 | .add=>.Add | .sub=>.Sub | .mul=>.Mult | .fdiv=>.FloorDiv | .mod=>.Mod | .pow=>.Pow
def coOf:Co->CmpOp
 | .lt=>.Lt | .le=>.LtE | .gt=>.Gt | .ge=>.GtE | .eq=>.Eq | .ne=>.NotEq | .inn=>.In | .nin=>.NotIn
def ER(o:Bo):DR2:=fun x y Q=>∃d,vc o x y=some d/\Q d
def ES(o:Co):DR2:=fun x y Q=>∃k,rM o x y=some k/\Q (.bool k)
theorem dW{o:Bo}{x y d:PyData}(h:vc o x y=some d):∃i j k,x=.int i/\y=.int j/\EC o i j=some k/\d=.int k:=by
 obtain⟨i,e1,h⟩:=bnd h
 obtain⟨j,e2,h⟩:=bnd h
 obtain⟨k,e3,h⟩:=bnd h
 cases h
 exact⟨i,j,k,aP e1,aP e2,e3,rfl⟩
section
variable{X:Cx}
theorem AV(o:Bo):∃r2,OpR X (binaryOp (opOf o)) r2/\SndR2 X.K r2 (ER o):=by
 cases o with
 | add =>
  refine⟨_,xC,(qU (g':=fun i j=>.int (i + j)) fun i j=>.int _).imp fun x y Q hZ=>?_⟩
  obtain⟨d,h,q⟩:=hZ
  obtain⟨i,j,k,rfl,rfl,hk,rfl⟩:=dW h
  cases hk;exact⟨i,j,rfl,rfl,q⟩
 | sub =>
  refine⟨_,xD,(qU (g':=fun i j=>.int (i - j)) fun i j=>.int _).imp fun x y Q hZ=>?_⟩
  obtain⟨d,h,q⟩:=hZ
  obtain⟨i,j,k,rfl,rfl,hk,rfl⟩:=dW h
  cases hk;exact⟨i,j,rfl,rfl,q⟩
 | mul =>
  refine⟨_,xE,(uI (g':=fun i j=>.int (i * j)) fun i j=>.int _).imp fun x y Q hZ=>?_⟩
  obtain⟨d,h,q⟩:=hZ
  obtain⟨i,j,k,rfl,rfl,hk,rfl⟩:=dW h
  obtain⟨_,hc,hk⟩:=bnd hk
  cases hk
  have hc:=gd_ok hc
  exact⟨i,j,rfl,rfl,hc,q⟩
 | fdiv =>
  refine⟨_,uo,(uI (g':=fun i j=>.int (i / j)) fun i j=>.int _).imp fun x y Q hZ=>?_⟩
  obtain⟨d,h,q⟩:=hZ
  obtain⟨i,j,k,rfl,rfl,hk,rfl⟩:=dW h
  obtain⟨_,hc,hk⟩:=bnd hk
  cases hk
  have hc:=gd_ok hc
  exact⟨i,j,rfl,rfl,hc,q⟩
 | mod =>
  refine⟨_,xF,(uI (g':=fun i j=>.int (i % j)) fun i j=>.int _).imp fun x y Q hZ=>?_⟩
  obtain⟨d,h,q⟩:=hZ
  obtain⟨i,j,k,rfl,rfl,hk,rfl⟩:=dW h
  obtain⟨_,hc,hk⟩:=bnd hk
  cases hk
  have hc:=gd_ok hc
  exact⟨i,j,rfl,rfl,hc,q⟩
 | pow =>
  refine⟨_,xG,(uI (g':=fun i j=>.int (i ^ j.toNat)) fun i j=>.int _).imp fun x y Q hZ=>?_⟩
  obtain⟨d,h,q⟩:=hZ
  obtain⟨i,j,k,rfl,rfl,hk,rfl⟩:=dW h
  obtain⟨_,hc,hk⟩:=bnd hk
  cases hk
  have hc:=gd_ok hc
  exact⟨i,j,rfl,rfl,hc,q⟩
theorem m8{x y:PyData}{k:Bool}(h:eqA x y=some k):pK x y=some k\/(SeqAt.shaped x=true/\SeqAt.shaped y=true/\k=PyData.eqv x y):=by
 unfold eqA at h
 cases e:pK x y with
 | some k'=>rw[e]at h;exact .inl h
 | none =>
  rw[e]at h
  simp only at h
  split at h
  ·rename_i hs
   cases h
   obtain⟨a,b⟩:=Bool.and_eq_true_iff.mp hs
   exact .inr ⟨a,b,rfl⟩
  ·cases h
theorem m9{x y:PyData}{k:Bool}(h:inA x y=some k):∃ds,(y=.list ds\/y=.tuple ds)/\zI x=true/\memD x ds=some k:=by
 obtain⟨ds,e1,h⟩:=bnd h
 obtain⟨_,e2,h⟩:=bnd h
 exact⟨ds,jE e1,gd_ok e2,h⟩
theorem rQ(hu:X.A.units + 64 < cLine)(o:Co):∃r2,OpR X (compareOp (coOf o)) r2/\SndR2 X.K r2 (ES o):=by
 have iis:∀{x y:PyData} {k:Bool} {g:Int->Int->Bool},((fF x).bind fun i=>(fF y).bind fun j=>some (g i j))=some k->∃i j,x=.int i/\y=.int j/\k=g i j:=by
  intro x y k g h
  obtain⟨i,e1,h⟩:=bnd h
  obtain⟨j,e2,h⟩:=bnd h
  cases h
  exact⟨i,j,aP e1,aP e2,rfl⟩
 cases o with
 | lt =>
  refine⟨_,Ab,(uJ (g:=fun i j=>decide (i < j))).imp fun x y Q hZ=>?_⟩
  obtain⟨k,h,q⟩:=hZ
  obtain⟨i,j,rfl,rfl,rfl⟩:=iis h
  exact⟨i,j,rfl,rfl,q⟩
 | le =>
  refine⟨_,Ac,(uJ (g:=fun i j=>decide (i≤j))).imp fun x y Q hZ=>?_⟩
  obtain⟨k,h,q⟩:=hZ
  obtain⟨i,j,rfl,rfl,rfl⟩:=iis h
  exact⟨i,j,rfl,rfl,q⟩
 | gt =>
  refine⟨_,Ad,(uJ (g:=fun i j=>decide (j < i))).imp fun x y Q hZ=>?_⟩
  obtain⟨k,h,q⟩:=hZ
  obtain⟨i,j,rfl,rfl,rfl⟩:=iis h
  exact⟨i,j,rfl,rfl,q⟩
 | ge =>
  refine⟨_,Ae,(uJ (g:=fun i j=>decide (j≤i))).imp fun x y Q hZ=>?_⟩
  obtain⟨k,h,q⟩:=hZ
  obtain⟨i,j,rfl,rfl,rfl⟩:=iis h
  exact⟨i,j,rfl,rfl,q⟩
 | eq =>
  refine⟨_,op_eq.or (xV hu),(sr_eq.or yf).imp fun x y Q hZ=>?_⟩
  obtain⟨k,h,q⟩:=hZ
  rcases m8 h with h | ⟨h1,h2,rfl⟩
  ·exact .inl ⟨k,h,q⟩
  ·exact .inr ⟨h1,h2,q⟩
 | ne =>
  refine⟨_,op_ne.or (xW hu),(sr_ne.or yg).imp fun x y Q hZ=>?_⟩
  obtain⟨k,h,q⟩:=hZ
  obtain⟨k',e,h⟩:=bnd h
  cases h
  rcases m8 e with h | ⟨h1,h2,rfl⟩
  ·exact .inl ⟨k',h,q⟩
  ·exact .inr ⟨h1,h2,q⟩
 | inn =>
  refine⟨_,pe,(wu (neg:=false)).imp fun x y Q hZ=>?_⟩
  obtain⟨k,h,q⟩:=hZ
  obtain⟨ds,h1,h2,h3⟩:=m9 h
  exact⟨ds,k,h1,h2,h3,q⟩
 | nin =>
  refine⟨_,jn,(wu (neg:=true)).imp fun x y Q hZ=>?_⟩
  obtain⟨k,h,q⟩:=hZ
  obtain⟨k',e,h⟩:=bnd h
  cases h
  obtain⟨ds,h1,h2,h3⟩:=m9 e
  exact⟨ds,k',h1,h2,h3,q⟩
end
section
variable{X:Cx}{C:Ct}{a b c e:Expr}{es:List Expr}{ma mb mc:E}{mes:Es}{pos:Pos}
theorem AW{o:Bo}(h1:PDe X a (aF C ma))(h2:PDe X b (aF C mb)):PDe X (.BinOp a (opOf o) b pos) (aF C (.bop o ma mb)):=by
 obtain⟨r2,ho,hr⟩:=AV (X:=X) o
 refine (Ax ho hr h1 h2).imp fun ρ Q hZ=>?_
 obtain⟨x,h,q⟩:=hZ
 obtain⟨xa,e1,h⟩:=bnd h
 obtain⟨xb,e2,h⟩:=bnd h
 obtain⟨dx,e3,h⟩:=bnd h
 obtain⟨dy,e4,h⟩:=bnd h
 obtain⟨d,e5,h⟩:=bnd h
 cases h
 exact⟨xa,e1,xb,e2,dx,dy,e3,e4,d,e5,q⟩
theorem AX{o:Co}(hu:X.A.units + 64 < cLine)(hm:behindInMarks (coOf o) b=false)(h1:PDe X a (aF C ma))(h2:PDe X b (aF C mb)):PDe X (.Compare a [coOf o] [b] pos) (aF C (.cmp o ma mb)):=by
 obtain⟨r2,ho,hr⟩:=rQ hu o
 refine (ye ho hr hm h1 h2).imp fun ρ Q hZ=>?_
 obtain⟨x,h,q⟩:=hZ
 obtain⟨xa,e1,h⟩:=bnd h
 obtain⟨xb,e2,h⟩:=bnd h
 obtain⟨dx,e3,h⟩:=bnd h
 obtain⟨dy,e4,h⟩:=bnd h
 obtain⟨d,e5,h⟩:=bnd h
 cases h
 exact⟨xa,e1,xb,e2,dx,dy,e3,e4,d,e5,q⟩
theorem AY{o:Co}(hu:X.A.units + 64 < cLine)(hm:behindInMarks (coOf o) b=false)(h1:PDe X a (aF C ma))(h2:PDe X b (aF C mb)):PDt X (.Compare a [coOf o] [b] pos) (gF C (.cmp o ma mb)):=by
 obtain⟨r2,ho,hr⟩:=rQ hu o
 refine (uM ho hr hm h1 h2).imp fun ρ Q hZ=>?_
 obtain⟨x,h,q⟩:=hZ
 obtain⟨y,h,h'⟩:=bnd h
 obtain⟨xa,e1,h⟩:=bnd h
 obtain⟨xb,e2,h⟩:=bnd h
 obtain⟨dx,e3,h⟩:=bnd h
 obtain⟨dy,e4,h⟩:=bnd h
 obtain⟨d,e5,h⟩:=bnd h
 cases h
 cases h'
 exact⟨xa,e1,xb,e2,dx,dy,e3,e4,d,e5,d,rfl,q⟩
end
end
section
def isStar:Expr->Bool
 | .Starred _ _=>true
 | _=>false
theorem ar{e:Expr}{es:List Expr}{env:Env}(h:isStar e=false):starEach (e::es) env=(false,eval e env)::starEach es env:=by
 cases e<;>first | rfl | cases h
theorem bh{pos:Pos}{env:Env}:∀{es:List Expr},es.any isStar=false->(backTo pos (starEach es env)).any (·.1)=false
 | [],_=>rfl
 | e::es,h=>by
  rw[List.any_cons,Bool.or_eq_false_iff]at h
  rw[ar h.1]
  show (false || (backTo pos (starEach es env)).any (·.1))=false
  rw[bh h.2];rfl
def plainT:Expr->Bool
 | .UnaryOp .Not _ _=>false
 | .BoolOp _ _ _=>false
 | .IfExp _ _ _ _=>false
 | .Compare _ _ _ _=>false
 | _=>true
theorem plainT_ok{e:Expr}{env:Env}(h:plainT e=true):∀whole,isTrue e env whole=(do let v <- whole;standAt e.pos;holding [v] (truthy v)):=by
 intro whole
 cases e with
 | UnaryOp op x p=>cases op<;>first | rfl | cases h
 | _=>first | rfl | cases h
section
variable{X:Cx}{C:Ct}{a b c e:Expr}{es:List Expr}{ma mb mc:E}{mes:Es}{pos p:Pos}{x:Str}{i:Nat}
theorem nh{ρ:DEnv}:ev C (.nm i) ρ=(match ρ[i]?.join with | some (.fz d)=>some (.val (.fz d),ρ) | some _=>some (.rf i,ρ) | none=>none):=rfl
theorem DH (hN:X.N[i]?=some x) (hv:Vis X.env.scope x) (hd:(x == ("__debug__":Str))=false) (hcd:(x == ("__classdict__":Str))=false):PDe X (.Name x pos) (aF C (.nm i)):=by
 refine (yd hN hv hd hcd).imp fun ρ Q hZ=>?_
 obtain⟨y,h,q⟩:=hZ
 unfold dVar
 rw[nh]at h
 cases e:ρ[i]?.join with
 | none=>rw[e]at h;cases h
 | some z=>rw[e]at h;cases z<;>(simp only at h;cases h;exact q)
theorem DJ (hN:X.N[i]?=some x) (hv:Vis X.env.scope x) (hd:(x == ("__debug__":Str))=false) (hcd:(x == ("__classdict__":Str))=false):PDe X (.Name x pos) (aF C (.mv i)):=by
 refine⟨_,aX hN hv hd hcd,fun b F σ H ρ τ θ Qd Q hK R ⟨y,h,q⟩ k=>?_⟩
 obtain⟨z,e1,h⟩:=bnd h
 cases h
 obtain⟨v,ev,w⟩:=R.slot (join_some e1)
 exact⟨v,ev,k v H (.val z) (ρ.set i none) ⟨R.wf.off,R.al,R.wff,w⟩ q⟩
theorem AZ{k:Int}{j pos}:PDe X (.Constant (.int k) j pos) (aF C (.int k)):=pd_int.imp fun ρ Q ⟨y,h,q⟩=>by cases h;exact q
theorem A6{k:Str}{j pos}:PDe X (.Constant (.str k) j pos) (aF C (.str k)):=pd_str.imp fun ρ Q ⟨y,h,q⟩=>by cases h;exact q
theorem DL{k:Bool}{j pos}:PDe X (.Constant (.bool k) j pos) (aF C (.bl k)):=pd_bl.imp fun ρ Q ⟨y,h,q⟩=>by cases h;exact q
theorem DM {g:Nat} {v:V} {u:Value} (hg:Gl X x) (hm:X.mg x=some u) (r:RelV v u) (s:∀S H,Fz X.K S H v (C.gv g)) (hd:(x == ("__debug__":Str))=false):PDe X (.Name x pos) (aF C (.gc g)) :=
 (qT hg hm r s hd).imp fun ρ Q ⟨y,h,q⟩=>by cases h;exact q
theorem A7{neg:Bool}{j pos'}(h1:PDe X a (aF C ma)):PDe X (.Compare a [if neg then .IsNot else .Is] [.Constant .none j pos'] pos) (aF C (.isn neg ma)):=by
 have key:∀ρ Q,aF C (.isn neg ma) ρ Q->pL neg (aF C ma) ρ Q:=fun ρ Q ⟨y,h,q⟩=>by
  obtain⟨xa,e1,h⟩:=bnd h
  obtain⟨d,e2,h⟩:=bnd h
  cases h
  exact⟨xa,e1,d,e2,q⟩
 cases neg with
 | false=>exact (yi h1).imp key
 | true=>exact (uL h1).imp key
theorem A8{neg:Bool}{j pos'}(h1:PDe X a (aF C ma)):PDt X (.Compare a [if neg then .IsNot else .Is] [.Constant .none j pos'] pos) (gF C (.isn neg ma)):=by
 have key:∀ρ Q,gF C (.isn neg ma) ρ Q->gj (pL neg (aF C ma)) ρ Q:=fun ρ Q ⟨y,h,q⟩=>by
  obtain⟨z,h,h'⟩:=bnd h
  obtain⟨xa,e1,h⟩:=bnd h
  obtain⟨d,e2,h⟩:=bnd h
  cases h
  cases h'
  exact⟨xa,e1,d,e2,_,rfl,q⟩
 cases neg with
 | false=>exact (uN h1).imp key
 | true=>exact (qX h1).imp key
theorem v_and{es:List Expr}(h1:PDe X a (aF C ma))(h2:PDe X (.BoolOp .And (b::es) pos) (aF C mb)):PDe X (.BoolOp .And (a::b::es) pos) (aF C (.and ma mb)):=by
 refine (yj h1 h2).imp fun ρ Q hZ=>?_
 obtain⟨y,h,q⟩:=hZ
 obtain⟨xa,e1,h⟩:=bnd h
 obtain⟨d,e2,h⟩:=bnd h
 obtain⟨k,e3,h⟩:=bnd h
 rw[lR e3]at e2
 refine⟨xa,e1,k,e2,?_⟩
 cases k with
 | false=>rw[if_neg Bool.false_ne_true]at h ⊢;cases h;exact q
 | true=>rw[if_pos rfl]at h ⊢;exact⟨y,h,q⟩
theorem v_or{es:List Expr}(h1:PDe X a (aF C ma))(h2:PDe X (.BoolOp .Or (b::es) pos) (aF C mb)):PDe X (.BoolOp .Or (a::b::es) pos) (aF C (.or ma mb)):=by
 refine (AB h1 h2).imp fun ρ Q hZ=>?_
 obtain⟨y,h,q⟩:=hZ
 obtain⟨xa,e1,h⟩:=bnd h
 obtain⟨d,e2,h⟩:=bnd h
 obtain⟨k,e3,h⟩:=bnd h
 rw[lR e3]at e2
 refine⟨xa,e1,k,e2,?_⟩
 cases k with
 | false=>rw[if_neg Bool.false_ne_true]at h ⊢;exact⟨y,h,q⟩
 | true=>rw[if_pos rfl]at h ⊢;cases h;exact q
theorem v_not(h1:PDe X a (aF C ma)):PDe X (.UnaryOp .Not a pos) (aF C (.not ma)):=by
 refine (yk h1).imp fun ρ Q hZ=>?_
 obtain⟨y,h,q⟩:=hZ
 obtain⟨xa,e1,h⟩:=bnd h
 obtain⟨d,e2,h⟩:=bnd h
 obtain⟨k,e3,h⟩:=bnd h
 cases h
 exact⟨xa,e1,k,by rw[e2,lR e3],q⟩
theorem A9{es:List Expr}(h1:PDt X a (gF C ma))(h2:PDw X (.BoolOp .And (b::es) pos) (gF C mb)):PDw X (.BoolOp .And (a::b::es) pos) (gF C (.and ma mb)):=by
 refine (uP h1 h2).imp fun ρ Q hZ=>?_
 obtain⟨y,h,q⟩:=hZ
 obtain⟨xa,e1,h⟩:=bnd h
 refine⟨xa,e1,?_⟩
 split at h
 ·rename_i k;rw[if_pos k];exact⟨y,h,q⟩
 ·rename_i k;rw[if_neg k];cases h;exact q
theorem DN{es:List Expr}(h1:PDt X a (gF C ma))(h2:PDw X (.BoolOp .Or (b::es) pos) (gF C mb)):PDw X (.BoolOp .Or (a::b::es) pos) (gF C (.or ma mb)):=by
 refine (yl h1 h2).imp fun ρ Q hZ=>?_
 obtain⟨y,h,q⟩:=hZ
 obtain⟨xa,e1,h⟩:=bnd h
 refine⟨xa,e1,?_⟩
 split at h
 ·rename_i k;rw[if_pos k];cases h;exact q
 ·rename_i k;rw[if_neg k];exact⟨y,h,q⟩
theorem Ba(h1:PDt X a (gF C ma)):PDt X (.UnaryOp .Not a pos) (gF C (.not ma)):=by
 refine (uQ h1).imp fun ρ Q hZ=>?_
 obtain⟨y,h,q⟩:=hZ
 obtain⟨xa,e1,h⟩:=bnd h
 cases h
 exact⟨xa,e1,q⟩
theorem Bb(h0:PDt X c (gF C mc))(h1:PDe X a (aF C ma))(h2:PDe X b (aF C mb)):PDe X (.IfExp c a b pos) (aF C (.ife mc ma mb)):=by
 refine (AE h0 h1 h2).imp fun ρ Q hZ=>?_
 obtain⟨y,h,q⟩:=hZ
 obtain⟨xa,e1,h⟩:=bnd h
 refine⟨xa,e1,?_⟩
 split at h
 ·rename_i k;rw[if_pos k];exact⟨y,h,q⟩
 ·rename_i k;rw[if_neg k];exact⟨y,h,q⟩
theorem ni{d:PyData}{k:Bool}{H:Hp}{v:V}(h:Dt X.K H v d)(e:kC d=some k):xJ X.K v H k:=by
 cases h with
 | non=>cases e;rfl
 | bl b=>cases e;rfl
 | int i=>cases e;rfl
 | str x=>simp[kC]at e
 | lst s t=>cases e;exact .inl ⟨_,s,by rw[DtAll.emp t]⟩
 | tup s t=>cases e;exact .inr (.inl ⟨_,s,by rw[DtAll.emp t]⟩)
theorem Bc{m:E}(hm:bf C m=(vt (ev C m)).2)(he:plainT e=true):PDe X e (aF C m)->PDt X e (gF C m)
 | ⟨te,h1,s1⟩=>⟨_,kc h1 (plainT_ok he),fun b F σ H ρ τ θ Qd Q hK R ⟨y,h,q⟩ k=>by
  have h':((ev C m ρ).bind fun x=>(aN x.2 x.1).bind fun d=>(kC d).bind fun k=>some (k,x.2))=some y:=by rw[<- h,hm];rfl
  obtain⟨z,e1,h'⟩:=bnd h'
  obtain⟨d,e2,h'⟩:=bnd h'
  obtain⟨t,e3,h'⟩:=bnd h'
  cases h'
  refine s1 b F σ H ρ τ θ (fun r ρ'=>r=z.1/\ρ'=z.2) _ hK R ⟨z,e1,rfl,rfl⟩ fun v H' r ρ' R' hZ=>?_
  obtain⟨h1,h2⟩:=hZ
  subst h1 h2
  have hd:=R'.dt e2
  rw[hK]at hd
  exact⟨t,ni hd e3,k _ _ _ R'.drop q⟩⟩
theorem fQ:PDa X [] (eG C .nil):=pda_nil.imp fun ρ Q ⟨y,h,q⟩=>by cases h;exact q
theorem cQ(hs:isStar e=false)(h1:PDe X e (aF C ma))(h2:PDa X es (eG C mes)):PDa X (e::es) (eG C (.cons ma mes)):=by
 refine (qZ (ar hs) h1 h2).imp fun ρ Q hZ=>?_
 obtain⟨y,h,q⟩:=hZ
 obtain⟨xa,e1,h⟩:=bnd h
 obtain⟨xb,e2,h⟩:=bnd h
 cases h
 exact⟨xa,e1,xb,e2,q⟩
theorem Bd{x1}(h1:PDa X es (eG C mes)):PDe X (.Tuple es x1 pos) (aF C (.tup mes)):=by
 refine (ym AG h1).imp fun ρ Q hZ=>?_
 obtain⟨y,h,q⟩:=hZ
 obtain⟨xa,e1,h⟩:=bnd h
 obtain⟨z,e2,h⟩:=bnd h
 obtain⟨_,k,h⟩:=bnd h
 cases h
 exact⟨xa,e1,z.1,z.2,e2,gd_ok k,q⟩
theorem Be(h1:PDa X es (eG C mes)):PDe X (.List es pos) (aF C (.lst mes)):=by
 refine (yn AG h1).imp fun ρ Q hZ=>?_
 obtain⟨y,h,q⟩:=hZ
 obtain⟨xa,e1,h⟩:=bnd h
 obtain⟨z,e2,h⟩:=bnd h
 obtain⟨_,k,h⟩:=bnd h
 cases h
 exact⟨xa,e1,z.1,z.2,e2,gd_ok k,q⟩
def isSlice:Expr->Bool
 | .Slice _ _ _ _=>true
 | _=>false
theorem jG{b:Expr}(h:isSlice b=false):PlainIx b:=fun o i=>by cases b<;>first | rfl | cases h
theorem DP(hs:isSlice b=false)(h1:PDe X a (aF C ma))(h2:PDe X b (aF C mb)):PDe X (.Subscript a b pos) (aF C (.ix ma mb)):=by
 refine (AH (jG hs) h1 h2).imp fun ρ Q hZ=>?_
 obtain⟨y,h,q⟩:=hZ
 obtain⟨xa,e1,h⟩:=bnd h
 obtain⟨xb,e2,h⟩:=bnd h
 obtain⟨d,e3,h⟩:=bnd h
 obtain⟨k,e5,h⟩:=bnd h
 obtain⟨z,e4,h⟩:=bnd h
 cases h
 exact⟨xa,e1,xb,e2,k,z.1,z.2,by rw[e3,aP e5],e4,q⟩
theorem Bf(h1:PDe X a (aF C ma))(h2:PDe X b (aF C mb)):PDe X (.BinOp a .Add b pos) (aF C (.cat ma mb)):=by
 refine (yq h1 h2).imp fun ρ Q hZ=>?_
 obtain⟨y,h,q⟩:=hZ
 obtain⟨xa,e1,h⟩:=bnd h
 obtain⟨xb,e2,h⟩:=bnd h
 obtain⟨dx,e3,h⟩:=bnd h
 obtain⟨dy,e4,h⟩:=bnd h
 obtain⟨_,k,h⟩:=bnd h
 cases h
 exact⟨xa,e1,xb,e2,dx,dy,e3,e4,gd_ok k,q⟩
theorem yE {f:Nat} {k:Nat} {fa:Addr} {fd:FuncData} {ps:List Str} (G:FnD X.prog X.w X.K X.mg X.base k fa fd ps (fun xs Q=>∃w,C.call f xs=some w/\Q w.1 w.2)) (hr:Room k X.A) (hg:Gl X x) (hm:X.mg x=some (.ref fa)) (hk:PySem.W.keepIn X.K (.ref fa)=true) (hb:Binds X.K fd ps []) (hdb:(x == ("__debug__":Str))=false)
  (he:isStar e=false) (hes:es.any isStar=false) (h1:PDa X (e::es) (eG C mes)):PDe X (.Call (.Name x p) (e::es) [] pos) (aF C (.call f mes)):=by
 refine (u7 (ios:=C.io f) G hr hg hm hk hb hdb (ar he) (bh hes) h1).imp fun ρ Q hZ=>?_
 obtain⟨y,h,q⟩:=hZ
 obtain⟨xa,e1,h⟩:=bnd h
 obtain⟨z,e2,h⟩:=bnd h
 obtain⟨w,e3,h⟩:=bnd h
 cases h
 exact⟨xa,e1,z.1,z.2,e2,w,e3,q⟩
theorem vd {f:Nat} {k:Nat} {fa:Addr} {fd:FuncData} {ps:List Str} (G:FnD X.prog X.w X.K X.mg X.base k fa fd ps (fun xs Q=>∃w,C.call f xs=some w/\Q w.1 w.2)) (hr:Room k X.A) (hg:Gl X x) (hm:X.mg x=some (.ref fa)) (hk:PySem.W.keepIn X.K (.ref fa)=true) (hb:Binds X.K fd ps []) (hdb:(x == ("__debug__":Str))=false)
  (he:isStar e=false) (hes:es.any isStar=false) (h1:PDa X (e::es) (eG C mes)):PDe X (.Call (.Name x p) (e::es) [] pos) (aF C (.callS f mes)):=by
 refine (rK G hr hg hm hk hb hdb (ar he) (bh hes) h1).imp fun ρ Q hZ=>?_
 obtain⟨y,h,q⟩:=hZ
 obtain⟨xa,e1,h⟩:=bnd h
 obtain⟨ds,e2,h⟩:=bnd h
 obtain⟨w,e3,h⟩:=bnd h
 obtain⟨d,e4,h⟩:=bnd h
 obtain⟨_,e5,h⟩:=bnd h
 cases h
 exact⟨xa,e1,ds,e2,w,e3,d,cy e4,gd_ok e5,q⟩
theorem yF:PDe X (.Dict [] [] pos) (aF C .dnew):=⟨_,qO,fun b F σ H ρ τ θ Qd Q hK R ⟨y,h,q⟩ k=>fun p hp=>by cases h;exact k _ _ _ _ (R.push (R.wd.newDic hp)) q⟩
end
end
section
section
variable{X:Cx}{K:PySem.W.Frag}
theorem rR(hc:X.calm=true):bo X (.builtin "any") (fun xs H Q=>∃(p:Addr) (bs:List Bool),xs=[.ref p]/\SqL X.K H p (bs.map V.bl)/\Q (.bl (bs.any id)) H):=by
 intro pins s σ H xs us Q I r h
 obtain⟨p,bs,rfl,hq,q⟩:=h
 obtain⟨u,rfl,rx⟩:=vals1 r
 cases rx
 obtain⟨its,r',pl,hz⟩:=I.list hq
 obtain⟨m,F⟩:=I.fr
 have hlt:p < s.heap.objs.size:=by obtain⟨_,_,e,_⟩:=pl;exact Heap.lt_size e
 have hb:=mT r'
 refine call_any_walk (wpAny_pyIter_list pl.isList ?_)
 refine⟨s.heap.objs.size,[s.heap.objs.size,p],[s.heap.objs.size],its.toArray.size,_,_,fun i=>(bs[i]?).getD false,rfl,Walks.list (A:=X.A.in1) (I.ok.hd hc) _ p (Nat.ne_of_lt hlt) its.toArray,
  ⟨⟨_,Heap.get?_push_size _ rfl,rfl,rfl⟩,pl.isList.push _⟩,fun i v s' Q' E' hP hQ=>?_,fun h' tk hk=>?_⟩
 ·obtain⟨b,e,rfl⟩:=hb.get i v (by simpa using hP)
  simp only[e,Option.getD_some]at hQ
  exact wpAny_truthy_bool hQ
 ·have e:((List.range its.toArray.size).any fun i=>(bs[i]?).getD false)=bs.any id:=by
   rw[List.size_toArray,hb.length];exact LSm.range_any bs
  rw[e]
  exact⟨.bl (bs.any id),H,I.kept (LSm.kept_iter hk),rfl,q⟩
theorem yG:bootBuiltins "any"=some (.builtin "any"):=by decide +kernel
theorem iU:bootBuiltins "sorted"=some (.builtin "sorted"):=by decide +kernel
def dAny:DRn:=fun ds Q=>∃es bs,ds=[.list es]/\allB es=some bs/\Q (.bool (bs.any id))
theorem sc_any:SndCB K (fun xs H Q=>∃(p:Addr) (bs:List Bool),xs=[.ref p]/\SqL K H p (bs.map V.bl)/\Q (.bl (bs.any id)) H) dAny:=by
 rintro H vs ds Qd Q hv ⟨es,bs,rfl,e,hq⟩ q
 have:=g7 e
 subst this
 cases hv with
 | cons h t =>
  cases t
  cases h with
  | lst s t=>rw[t.bls]at s;exact⟨_,bs,rfl,s,q _ _ (.bl _) hq⟩
theorem ints_vals:∀{ns:List Int} {us:List Value},Vals (ns.map V.int) us->IntsAre us ns
 | [],_,r=>by rw[List.map_nil]at r;cases r;exact .nil
 | n::ns,_,r=>by
  rw[List.map_cons]at r
  cases r with
  | cons r1 r2=>obtain⟨t,rfl⟩:=r1;exact .cons n t (ints_vals r2)
def ve(K:PySem.W.Frag):List V->Hp->VK->Prop:=fun xs H Q=>∃(p:Addr) (ns:List Int),xs=[.ref p]/\SqL K H p (ns.map V.int)/\ns.length < 64/\∀(ns':List Int) (a:Addr),ns'.Perm ns->ns'.Pairwise (·≤·)->H a=none->Q (.ref a) (upd H a (.lst (ns'.map V.int)))
theorem kF:bo X (.builtin "sorted") (ve X.K):=by
 intro pins s σ H xs us Q I r h
 obtain⟨p,ns,rfl,hq,hl,q⟩:=h
 obtain⟨u,rfl,rx⟩:=vals1 r
 cases rx
 obtain⟨its,r',pl,hz⟩:=I.list hq
 have hb:=ints_vals r'
 have hlen:its.length=ns.length:=by have:=r'.length;rw[List.length_map]at this;exact this.symm
 refine sorted_ints pl.isList hb (by omega) fun out ns' h1 h2 h3=>?_
 obtain⟨e,he⟩:=sortedAll_at s.heap its out
 have sl:64≤sizeLine:=by decide
 refine⟨.ref _,_,I.laid (t':=s.toks) (a:=s.heap.objs.size + 1) (o:=.lst (ns'.map V.int)) (fun b u hu=>sortedAll_old hu) (Nat.le_succ _) ⟨?_,out.toList,e,vals_ints h1,he⟩,rfl,q ns' _ h2 h3 (I.hok.fresh (Nat.le_succ _))⟩
 rw[List.length_map,h2.length_eq]
 omega
end
def ED(T:String):PyData->Bool
 | .bool _=>T == "bool" || T == "int"
 | .int _=>T == "int"
 | .str _=>T == "str"
 | .list _=>T == "list"
 | .tuple _=>T == "tuple"
 | _=>false
inductive KindT:String->Prop
 | int:KindT "int" | bool:KindT "bool" | str:KindT "str" | list:KindT "list" | tuple:KindT "tuple"
theorem Dt.kind{K:PySem.W.Frag}{H:Hp}{v:V}{d:PyData}{T:String}(h:Dt K H v d)(k:KindT T):∃n,Ty K H v n/\PySem.W.kitOne K (.type n) (.type T)=some (ED T d):=by
 cases h with
 | non=>exact⟨_,.non,by cases k<;>first | exact kit_ni K | exact kit_nb K | exact kit_ns K | exact kit_nl K | exact kit_nt K⟩
 | bl b=>exact⟨_,.bl b,by cases k<;>first | exact kit_bi K | exact kit_same K _ | exact kit_bs K | exact kit_bl K | exact kit_bt K⟩
 | int i=>exact⟨_,.int i,by cases k<;>first | exact kit_same K _ | exact kit_ib K | exact kit_is K | exact kit_il K | exact kit_it K⟩
 | str x=>exact⟨_,.str x,by cases k<;>first | exact kit_same K _ | exact kit_si K | exact kit_sb K | exact kit_sl K | exact kit_st K⟩
 | lst s t=>exact⟨_,.lst s,by cases k<;>first | exact kit_same K _ | exact kit_li K | exact kit_lb K | exact kit_ls K | exact kit_lt K⟩
 | tup s t=>exact⟨_,.tup s,by cases k<;>first | exact kit_same K _ | exact kit_ti K | exact kit_tb K | exact kit_ts K | exact kit_tl K⟩
def ET(f:Bl):DRn:=fun ds Q=>∃d,zM f ds=some d/\Q d
theorem SndCB.imp{K:PySem.W.Frag}{r2:List V->Hp->VK->Prop}{r r':DRn}(h:SndCB K r2 r)(f:∀ds Q,r' ds Q->r ds Q):SndCB K r2 r':=fun H vs ds Qd Q hv z q=>h H vs ds Qd Q hv (f _ _ z) q
theorem DtAll.ints'{K:PySem.W.Frag}{H:Hp}{vs:List V}{ns:List Int}(h:DtAll K H vs (ns.map PyData.int)):vs=ns.map V.int:=by
 induction ns generalizing vs with
 | nil=>cases h;rfl
 | cons n ns ih=>cases h with | cons r t=>cases r;rw[List.map_cons,ih t]
section
variable{X:Cx}{K:PySem.W.Frag}
theorem hV{ns:List Int}:∀{n:Nat},n≤ns.length->preSum (fun i=>(ns[i]?).getD 0) n=(ns.take n).sum
 | 0,_=>rfl
 | n + 1,h=>by
  have e:ns[n]?=some ns[n]:=List.getElem?_eq_getElem (by omega)
  have e2:ns.take (n + 1)=ns.take n++[ns[n]]:=by rw[List.take_succ,e];rfl
  rw[preSum,hV (n:=n) (by omega),e2,List.sum_append,e]
  simp
theorem sum_bound{ns:List Int}(h:∀n∈ns,qe n=true):∀{n:Nat},n≤ns.length->-(1000000000000 * (n:Int))≤preSum (fun i=>(ns[i]?).getD 0) n/\preSum (fun i=>(ns[i]?).getD 0) n≤1000000000000 * (n:Int)
 | 0,_=>by simp[preSum]
 | n + 1,hn=>by
  have ih:=sum_bound h (n:=n) (by omega)
  have e:ns[n]?=some ns[n]:=List.getElem?_eq_getElem (by omega)
  have hb:=h ns[n] (List.getElem_mem _)
  unfold qe at hb
  rw[Bool.and_eq_true,decide_eq_true_eq,decide_eq_true_eq]at hb
  rw[preSum,e]
  simp only[Option.getD_some]
  omega
theorem rS(hc:X.calm=true):bo X (.builtin "sum") (fun xs H Q=>∃(p:Addr) (ns:List Int),xs=[.ref p]/\SqL X.K H p (ns.map V.int)/\(∀n∈ns,qe n=true)/\ns.length≤1000000/\Q (.int ns.sum) H):=by
 intro pins s σ H xs us Q I r h
 obtain⟨p,ns,rfl,hq,hs,hl,q⟩:=h
 obtain⟨u,rfl,rx⟩:=vals1 r
 cases rx
 obtain⟨its,r',pl,hz⟩:=I.list hq
 obtain⟨m,F⟩:=I.fr
 have hlt:p < s.heap.objs.size:=by obtain⟨_,_,e,_⟩:=pl;exact Heap.lt_size e
 have hlen:its.length=ns.length:=by have:=r'.length;simpa using this.symm
 refine call_sum_walk (wpAny_pyIter_list pl.isList ?_)
 refine⟨s.heap.objs.size,[s.heap.objs.size,p],[s.heap.objs.size],its.toArray.size,_,_,fun i=>(ns[i]?).getD 0,rfl,Walks.list (A:=X.A.in1) (I.ok.hd hc) _ p (Nat.ne_of_lt hlt) its.toArray,
  ⟨⟨_,Heap.get?_push_size _ rfl,rfl,rfl⟩,pl.isList.push _⟩,fun b hb=>?_,fun i v hP=>?_,fun j hj=>?_,fun h' tk t' hk=>?_⟩
 ·simp at hb
  rcases hb with rfl | rfl
  ·simp[Heap.push]
  ·simp[Heap.push];exact Nat.lt_succ_of_lt hlt
 ·have hP':its[i]?=some v:=by simpa using hP
  have hi:i < ns.length:=by rw[<- hlen];exact (List.getElem?_eq_some_iff.mp hP').1
  have e3:ns[i]?=some ns[i]:=List.getElem?_eq_getElem hi
  obtain⟨u,e1,e2⟩:=Vals.get (i:=i) (x:=.int ns[i]) r' (by rw[List.getElem?_map,e3];rfl)
  rw[hP']at e1
  cases e1
  obtain⟨tk,rfl⟩:=e2
  simp only[e3,Option.getD_some]
  exact⟨tk,rfl⟩
 ·rw[List.size_toArray,hlen]at hj
  have b1:=sum_bound hs (n:=j + 1) hj
  have e:ns[j]?=some ns[j]:=List.getElem?_eq_getElem hj
  have hb:=hs ns[j] (List.getElem_mem _)
  unfold qe at hb
  rw[Bool.and_eq_true,decide_eq_true_eq,decide_eq_true_eq]at hb
  refine⟨?_,?_⟩
  ·simp only[e,Option.getD_some];unfold InLong;omega
  ·unfold InLong;omega
 ·have e:preSum (fun i=>(ns[i]?).getD 0) its.toArray.size=ns.sum:=by
   rw[List.size_toArray,hlen,hV (Nat.le_refl _),List.take_length]
  rw[e]
  exact⟨.int ns.sum,H,I.kept (LSm.kept_iter hk),⟨_,rfl⟩,q⟩
theorem pU(hc:X.calm=true):bo X (.builtin "sum") (fun xs H Q=>∃(p:Addr) (ns:List Int),xs=[.ref p]/\SqT X.K H p (ns.map V.int)/\(∀n∈ns,qe n=true)/\ns.length≤1000000/\Q (.int ns.sum) H):=by
 intro pins s σ H xs us Q I r h
 obtain⟨p,ns,rfl,hq,hs,hl,q⟩:=h
 obtain⟨u,rfl,rx⟩:=vals1 r
 cases rx
 obtain⟨its,r',pl,hz⟩:=I.tuple hq
 obtain⟨m,F⟩:=I.fr
 have pt:s.heap.IsTuple p its.toArray:=pl
 have hlt:p < s.heap.objs.size:=by obtain⟨_,e,_⟩:=pl;exact Heap.lt_size e
 have hlen:its.length=ns.length:=by have:=r'.length;simpa using this.symm
 refine call_sum_walk (wpAny_pyIter_tuple pt ?_)
 refine⟨s.heap.objs.size,[s.heap.objs.size,p],[s.heap.objs.size],its.toArray.size,_,_,fun i=>(ns[i]?).getD 0,rfl,Walks.tuple (A:=X.A.in1) (I.ok.hd hc) _ p (Nat.ne_of_lt hlt) its.toArray,
  ⟨⟨_,Heap.get?_push_size _ rfl,rfl,rfl⟩,pt.push _⟩,fun b hb=>?_,fun i v hP=>?_,fun j hj=>?_,fun h' tk t' hk=>?_⟩
 ·simp at hb
  rcases hb with rfl | rfl
  ·simp[Heap.push]
  ·simp[Heap.push];exact Nat.lt_succ_of_lt hlt
 ·have hP':its[i]?=some v:=by simpa using hP
  have hi:i < ns.length:=by rw[<- hlen];exact (List.getElem?_eq_some_iff.mp hP').1
  have e3:ns[i]?=some ns[i]:=List.getElem?_eq_getElem hi
  obtain⟨u,e1,e2⟩:=Vals.get (i:=i) (x:=.int ns[i]) r' (by rw[List.getElem?_map,e3];rfl)
  rw[hP']at e1
  cases e1
  obtain⟨tk,rfl⟩:=e2
  simp only[e3,Option.getD_some]
  exact⟨tk,rfl⟩
 ·rw[List.size_toArray,hlen]at hj
  have b1:=sum_bound hs (n:=j + 1) hj
  have e:ns[j]?=some ns[j]:=List.getElem?_eq_getElem hj
  have hb:=hs ns[j] (List.getElem_mem _)
  unfold qe at hb
  rw[Bool.and_eq_true,decide_eq_true_eq,decide_eq_true_eq]at hb
  refine⟨?_,?_⟩
  ·simp only[e,Option.getD_some];unfold InLong;omega
  ·unfold InLong;omega
 ·have e:preSum (fun i=>(ns[i]?).getD 0) its.toArray.size=ns.sum:=by
   rw[List.size_toArray,hlen,hV (Nat.le_refl _),List.take_length]
  rw[e]
  exact⟨.int ns.sum,H,I.kept (LSm.kept_iter hk),⟨_,rfl⟩,q⟩
theorem pV(hc:X.calm=true):bo X (.builtin "max") (fun xs H Q=>∃i j k,xs=[.int i,.int j,.int k]/\Q (.int (if j > i then (if k > j then k else j) else if k > i then k else i)) H):=by
 intro pins s σ H xs us Q I r h
 obtain⟨i,j,k,rfl,q⟩:=h
 cases r with
 | cons r1 r2 =>
  cases r2 with
  | cons r3 r4 =>
   cases r4 with
   | cons r5 r6 =>
    cases r6
    obtain⟨t,rfl⟩:=r1
    obtain⟨t',rfl⟩:=r3
    obtain⟨t'',rfl⟩:=r5
    refine max_three_ints (I.ok.hd hc) fun h' tk k'=>⟨_,H,I.kept k',?_,q⟩
    split<;>split<;>exact⟨_,rfl⟩
theorem rT:bootBuiltins "sum"=some (.builtin "sum"):=by decide +kernel
theorem dInts_map:∀{ds:List PyData} {ns:List Int},hJ ds=some ns->ds=ns.map PyData.int
 | [],_,h=>by cases h;rfl
 | d::ds,ns,h=>by
  obtain⟨i,e1,h⟩:=bnd h
  obtain⟨r,e2,h⟩:=bnd h
  cases h
  rw[aP e1,dInts_map e2,List.map_cons]
theorem sc_sum:SndCB K (fun xs H Q=>∃(p:Addr) (ns:List Int),xs=[.ref p]/\SqL K H p (ns.map V.int)/\(∀n∈ns,qe n=true)/\ns.length≤1000000/\Q (.int ns.sum) H) (fun ds Q=>∃es ns,ds=[.list es]/\hJ es=some ns/\(∀n∈ns,qe n=true)/\ns.length≤1000000/\Q (.int ns.sum)):=by
 rintro H vs ds Qd Q hv ⟨es,ns,rfl,e,h1,h2,hq⟩ q
 have:=dInts_map e
 subst this
 cases hv with
 | cons h t =>
  cases t
  cases h with
  | lst s t=>rw[DtAll.ints' t]at s;exact⟨_,ns,rfl,s,h1,h2,q _ _ (.int _) hq⟩
theorem sc_sumT:SndCB K (fun xs H Q=>∃(p:Addr) (ns:List Int),xs=[.ref p]/\SqT K H p (ns.map V.int)/\(∀n∈ns,qe n=true)/\ns.length≤1000000/\Q (.int ns.sum) H) (fun ds Q=>∃es ns,ds=[.tuple es]/\hJ es=some ns/\(∀n∈ns,qe n=true)/\ns.length≤1000000/\Q (.int ns.sum)):=by
 rintro H vs ds Qd Q hv ⟨es,ns,rfl,e,h1,h2,hq⟩ q
 have:=dInts_map e
 subst this
 cases hv with
 | cons h t =>
  cases t
  cases h with
  | tup s t=>rw[DtAll.ints' t]at s;exact⟨_,ns,rfl,s,h1,h2,q _ _ (.int _) hq⟩
theorem sc_max3:SndCB K (fun xs H Q=>∃i j k,xs=[.int i,.int j,.int k]/\Q (.int (if j > i then (if k > j then k else j) else if k > i then k else i)) H) (fun ds Q=>∃i j k,ds=[.int i,.int j,.int k]/\Q (.int (if j > i then (if k > j then k else j) else if k > i then k else i))):=by
 rintro H vs ds Qd Q hv ⟨i,j,k,rfl,hq⟩ q
 cases hv with | cons h t=>cases t with | cons h' t=>cases t with | cons h'' t=>cases t;cases h;cases h';cases h'';exact⟨i,j,k,rfl,q _ _ (.int _) hq⟩
end
def yH:Bl->Str
 | .sum=>"sum" | .mx3=>"max" | .smt=>"sum" | .len=>"len" | .abs=>"abs" | .max=>"max" | .min=>"min" | .int=>"int" | .all=>"all" | .any=>"any"
section
variable{X:Cx}{C:Ct}{a b c e:Expr}{es:List Expr}{ma mb mc:E}{mes:Es}{pos p p1 p2 p3:Pos}{x:Str}{i:Nat}
theorem Bg{f:Bl}(hc:X.calm=true)(hg:Gl X (yH f))(hm:X.mg (yH f)=none)(he:isStar e=false)(hes:es.any isStar=false)(h1:PDa X (e::es) (eG C mes)):PDe X (.Call (.Name (yH f) p) (e::es) [] pos) (aF C (.blt f mes)):=by
 have fin:PDe X (.Call (.Name (yH f) p) (e::es) [] pos) (CG (ET f) (eG C mes))->PDe X (.Call (.Name (yH f) p) (e::es) [] pos) (aF C (.blt f mes)):=fun h=>h.imp fun ρ Q ⟨y,h,q⟩=>by
  obtain⟨xa,e1,h⟩:=bnd h
  obtain⟨ds,e2,h⟩:=bnd h
  obtain⟨d,e3,h⟩:=bnd h
  cases h
  exact⟨xa,e1,ds,e2,d,e3,q⟩
 refine fin ?_
 cases f with
 | smt =>
  refine bw (pU hc) (sc_sumT.imp fun ds Q hZ=>?_) hg hm rT (by decide) (by decide) (ar he) (bh hes) h1
  obtain⟨d,h,q⟩:=hZ
  obtain⟨z,f1,h⟩:=bnd h
  obtain⟨es,f2,h⟩:=bnd h
  obtain⟨ns,e1,h⟩:=bnd h
  obtain⟨_,hc,h⟩:=bnd h
  cases h
  have hc:=gd_ok hc
  exact⟨es,ns,by rw[one1_ok f1,yC f2],e1,List.all_eq_true.mp hc.1,hc.2,q⟩
 | mx3 =>
  refine bw (pV hc) (sc_max3.imp fun ds Q hZ=>?_) hg hm qI (by decide) (by decide) (ar he) (bh hes) h1
  obtain⟨d,h,q⟩:=hZ
  obtain⟨z,f1,h⟩:=bnd h
  obtain⟨i,e1,h⟩:=bnd h
  obtain⟨j,e2,h⟩:=bnd h
  obtain⟨k,e3,h⟩:=bnd h
  cases h
  exact⟨i,j,k,by rw[thr3_ok f1,aP e1,aP e2,aP e3],q⟩
 | sum =>
  refine bw (rS hc) (sc_sum.imp fun ds Q hZ=>?_) hg hm rT (by decide) (by decide) (ar he) (bh hes) h1
  obtain⟨d,h,q⟩:=hZ
  obtain⟨z,f1,h⟩:=bnd h
  obtain⟨es,f2,h⟩:=bnd h
  obtain⟨ns,e1,h⟩:=bnd h
  obtain⟨_,hc,h⟩:=bnd h
  cases h
  have hc:=gd_ok hc
  exact⟨es,ns,by rw[one1_ok f1,hU f2],e1,List.all_eq_true.mp hc.1,hc.2,q⟩
 | len =>
  refine bw kf (sc_len.imp fun ds Q hZ=>?_) hg hm lJ (by decide) (by decide) (ar he) (bh hes) h1
  obtain⟨d,h,q⟩:=hZ
  obtain⟨z,f1,h⟩:=bnd h
  obtain⟨n,e1,h⟩:=bnd h
  cases h
  exact⟨z,n,one1_ok f1,e1,q⟩
 | abs =>
  refine bw qq (sc_abs.imp fun ds Q hZ=>?_) hg hm xX (by decide) (by decide) (ar he) (bh hes) h1
  obtain⟨d,h,q⟩:=hZ
  obtain⟨z,f1,h⟩:=bnd h
  obtain⟨i,e1,h⟩:=bnd h
  cases h
  exact⟨i,by rw[one1_ok f1,aP e1],q⟩
 | max =>
  refine bw (oV hc) (sc_max.imp fun ds Q hZ=>?_) hg hm qI (by decide) (by decide) (ar he) (bh hes) h1
  obtain⟨d,h,q⟩:=hZ
  obtain⟨z,f1,h⟩:=bnd h
  obtain⟨i,e1,h⟩:=bnd h
  obtain⟨j,e2,h⟩:=bnd h
  cases h
  exact⟨i,j,by rw[two2_ok f1,aP e1,aP e2],q⟩
 | min =>
  refine bw (oW hc) (sc_min.imp fun ds Q hZ=>?_) hg hm xY (by decide) (by decide) (ar he) (bh hes) h1
  obtain⟨d,h,q⟩:=hZ
  obtain⟨z,f1,h⟩:=bnd h
  obtain⟨i,e1,h⟩:=bnd h
  obtain⟨j,e2,h⟩:=bnd h
  cases h
  exact⟨i,j,by rw[two2_ok f1,aP e1,aP e2],q⟩
 | int =>
  refine rh oX (sc_int.imp fun ds Q hZ=>?_) hg hm qJ (by decide) (by decide) (ar he) (bh hes) h1
  obtain⟨d,h,q⟩:=hZ
  obtain⟨z,f1,h⟩:=bnd h
  obtain⟨n,e1,h⟩:=bnd h
  cases h
  exact⟨z,n,one1_ok f1,e1,q⟩
 | all =>
  refine bw (qG hc) (sc_all.imp fun ds Q hZ=>?_) hg hm xZ (by decide) (by decide) (ar he) (bh hes) h1
  obtain⟨d,h,q⟩:=hZ
  obtain⟨w,f1,h⟩:=bnd h
  obtain⟨z,f2,h⟩:=bnd h
  obtain⟨n,e1,h⟩:=bnd h
  cases h
  exact⟨z,n,by rw[one1_ok f1,hU f2],e1,q⟩
 | any =>
  refine bw (rR hc) (sc_any.imp fun ds Q hZ=>?_) hg hm yG (by decide) (by decide) (ar he) (bh hes) h1
  obtain⟨d,h,q⟩:=hZ
  obtain⟨w,f1,h⟩:=bnd h
  obtain⟨z,f2,h⟩:=bnd h
  obtain⟨n,e1,h⟩:=bnd h
  cases h
  exact⟨z,n,by rw[one1_ok f1,hU f2],e1,q⟩
theorem yI (hg:Gl X "list") (hm:X.mg "list"=none) (he:isStar e=false) (h1:PDe X e (aF C ma)):PDe X (.Call (.Name "list" p) [e] [] pos) (aF C (.bnw .list ma)):=by
 refine (pM hg hm jt (by decide) (by decide) (ar he) rfl (cQ he h1 fQ)).imp fun ρ Q hZ=>?_
 obtain⟨y,h,q⟩:=hZ
 obtain⟨xa,e1,h⟩:=bnd h
 obtain⟨ds,e2,h⟩:=bnd h
 cases h
 exact⟨([xa.1],xa.2),by simp only[evs,e1];rfl,xa.1,ds,rfl,e2,q⟩
theorem vf (hg:Gl X "tuple") (hm:X.mg "tuple"=none) (he:isStar e=false) (h1:PDe X e (aF C ma)):PDe X (.Call (.Name "tuple" p) [e] [] pos) (aF C (.bnw .tuple ma)):=by
 refine (rj hg hm gW (by decide) (by decide) (ar he) rfl (cQ he h1 fQ)).imp fun ρ Q hZ=>?_
 obtain⟨y,h,q⟩:=hZ
 obtain⟨xa,e1,h⟩:=bnd h
 obtain⟨ds,e2,h⟩:=bnd h
 cases h
 exact⟨([xa.1],xa.2),by simp only[evs,e1];rfl,xa.1,ds,rfl,e2,q⟩
theorem insI_perm(i:Int):∀l,(insI i l).Perm (i::l)
 | []=>.refl _
 | j::r=>by
  unfold insI
  split
  ·exact .refl _
  ·exact ((insI_perm i r).cons j).trans (List.Perm.swap _ _ _)
theorem kG(i:Int):∀{l:List Int},l.Pairwise (·≤·)->(insI i l).Pairwise (·≤·)
 | [],_=>by simp[insI]
 | j::r,h=>by
  obtain⟨h1,h2⟩:=List.pairwise_cons.mp h
  unfold insI
  split
  ·rename_i hij
   exact List.pairwise_cons.mpr ⟨fun k hk=>(List.mem_cons.mp hk).elim (fun e=>e ▸ hij) fun hk=>Int.le_trans hij (h1 k hk),h⟩
  ·rename_i hij
   refine List.pairwise_cons.mpr ⟨fun k hk=>?_,kG i h2⟩
   rcases List.mem_cons.mp ((insI_perm i r).mem_iff.mp hk) with rfl | hk
   ·omega
   ·exact h1 k hk
theorem sortI_perm:∀l,(sortI l).Perm l
 | []=>.refl _
 | i::r=>(insI_perm i _).trans ((sortI_perm r).cons i)
theorem dX:∀l,(sortI l).Pairwise (·≤·)
 | []=>.nil
 | i::r=>kG i (dX r)
theorem eU:∀{l l':List Int},l.Perm l'->l.Pairwise (·≤·)->l'.Pairwise (·≤·)->l=l'
 | [],l',p,_,_=>by have:=p.length_eq;cases l' with | nil=>rfl | cons _ _=>simp at this
 | a::l,[],p,_,_=>by have:=p.length_eq;simp at this
 | a::l,b::l',p,h,h'=>by
  obtain⟨h1,h2⟩:=List.pairwise_cons.mp h
  obtain⟨h3,h4⟩:=List.pairwise_cons.mp h'
  have e:a=b:=by
   have m1:a∈b::l':=p.mem_iff.mp List.mem_cons_self
   have m2:b∈a::l:=p.mem_iff.mpr List.mem_cons_self
   rcases List.mem_cons.mp m1 with e | m1
   ·exact e
   ·rcases List.mem_cons.mp m2 with e | m2
    ·exact e.symm
    ·have:=h1 b m2;have:=h3 a m1;omega
  subst e
  rw[eU (List.Perm.cons_inv p) h2 h4]
theorem rV (hg:Gl X "sorted") (hm:X.mg "sorted"=none) (he:isStar e=false) (h1:PDe X e (aF C ma)):PDe X (.Call (.Name "sorted" p) [e] [] pos) (aF C (.bnw .sorted ma)):=by
 obtain⟨te,h,s⟩:=h1
 refine⟨_,b9 kF hg hm iU (aK h aZ (ar he)) (by decide) (by decide) (ar he) rfl,fun b F σ H ρ τ θ Qd Q hK R ⟨y,h,q⟩ k=>?_⟩
 obtain⟨xa,e1,h⟩:=bnd h
 obtain⟨d,e2,h⟩:=bnd h
 obtain⟨ds,e4,h⟩:=bnd h
 obtain⟨ns,e3,h⟩:=bnd h
 obtain⟨_,hl,h⟩:=bnd h
 cases h
 have hl:=gd_ok hl
 rw[hU e4]at e2
 refine s b F σ H ρ τ θ (fun r ρ'=>r=xa.1/\ρ'=xa.2) _ hK R ⟨xa,e1,rfl,rfl⟩ fun v H' r ρ' R' hZ=>?_
 obtain⟨h1,h2⟩:=hZ
 subst h1 h2
 have hx:=dInts_map e3
 subst hx
 have hd:=R'.dt e2
 rw[hK]at hd
 cases hd with
 | lst s1 t1 =>
  rw[DtAll.ints' t1]at s1
  refine⟨_,ns,rfl,s1,hl,fun ns' a p1 p2 hp=>?_⟩
  have:ns'=sortI ns:=eU (p1.trans (sortI_perm ns).symm) p2 (dX ns)
  subst this
  refine k _ _ _ _ (R'.drop.push ?_) q
  have w:=R'.drop.wd.adds (vs:=(sortI ns).map V.int) (ds:=(sortI ns).map PyData.int) fun S _=>FzA.ints _
  have:=Wd.newLst w (by simp) hp
  rw[List.map_map]at this
  exact this
theorem ia {k:Knd} {T:String} (hT:match k with | .int=>T="int" | .bool=>T="bool" | .str=>T="str" | .list=>T="list" | .tuple=>T="tuple" | .seq=>False) (hy:PE X b (tC (.ty T))) (hg:Gl X "isinstance") (hm:X.mg "isinstance"=none) (ha:isStar a=false) (hb:isStar b=false)
  (h1:PDe X a (aF C ma)):PDe X (.Call (.Name "isinstance" p) [a,b] [] pos) (aF C (.isi k ma)):=by
 obtain⟨te,h,s⟩:=h1
 refine⟨_,b9 (qH T) hg hm en (aK h (aK hy aZ (ar hb)) (ar ha)) (by decide) (by decide) (ar ha) (bh (by simp[hb])),fun b F σ H ρ τ θ Qd Q hK R ⟨y,h,q⟩ kk=>?_⟩
 obtain⟨xa,e1,h⟩:=bnd h
 obtain⟨d,e2,h⟩:=bnd h
 cases h
 refine s b F σ H ρ τ θ (fun r ρ'=>r=xa.1/\ρ'=xa.2) _ hK R ⟨xa,e1,rfl,rfl⟩ fun v H' r ρ' R' hZ=>?_
 obtain⟨h1,h2⟩:=hZ
 subst h1 h2
 have hd:=R'.dt e2
 rw[hK]at hd
 have fin:∀(kt:KindT T),ED T d=uc k d->∃x n b,[v,V.ty T]=[x,V.ty T]/\Ty X.K H' x n/\PySem.W.kitOne X.K (.type n) (.type T)=some b/\Q (.bl b) H':=fun kt ek=>by
  obtain⟨n,ty,kq⟩:=hd.kind kt
  rw[ek]at kq
  exact⟨v,n,_,rfl,ty,kq,kk _ H' _ _ (R'.drop.sc (.bl _)) q⟩
 cases k with
 | int=>subst hT;exact fin .int (by cases d<;>rfl)
 | bool=>subst hT;exact fin .bool (by cases d<;>rfl)
 | str=>subst hT;exact fin .str (by cases d<;>rfl)
 | list=>subst hT;exact fin .list (by cases d<;>rfl)
 | tuple=>subst hT;exact fin .tuple (by cases d<;>rfl)
 | seq=>exact hT.elim
theorem Dt.kind2{K:PySem.W.Frag}{H:Hp}{v:V}{d:PyData}(h:Dt K H v d):∃n,Ty K H v n/\PySem.W.kitAny K (.type n) [.type "list",.type "tuple"]=some (uc .seq d):=by
 cases h with
 | non=>exact⟨_,.non,dR K (kit_nl K) (kit_nt K)⟩
 | bl b=>exact⟨_,.bl b,dR K (kit_bl K) (kit_bt K)⟩
 | int i=>exact⟨_,.int i,dR K (kit_il K) (kit_it K)⟩
 | str x=>exact⟨_,.str x,dR K (kit_sl K) (kit_st K)⟩
 | lst s t=>exact⟨_,.lst s,gV K (.inl (kit_same K _))⟩
 | tup s t=>exact⟨_,.tup s,gV K (.inr ⟨kit_tl K,kit_same K _⟩)⟩
theorem yJ {x1} (hy:PE X b (tC (.ty "list"))) (hz:PE X c (tC (.ty "tuple"))) (hg:Gl X "isinstance") (hm:X.mg "isinstance"=none) (ha:isStar a=false) (hb:isStar b=false) (hc:isStar c=false)
  (h1:PDe X a (aF C ma)):PDe X (.Call (.Name "isinstance" p) [a,.Tuple [b,c] x1 p1] [] pos) (aF C (.isi .seq ma)):=by
 obtain⟨te,h,s⟩:=h1
 refine⟨_,b9 (pD "list" "tuple") hg hm en (aK h (aK (gT (aK hy (aK hz aZ (ar hc)) (ar hb))) aZ (ar rfl)) (ar ha)) (by decide) (by decide) (ar ha) (bh rfl),fun b F σ H ρ τ θ Qd Q hK R ⟨y,h,q⟩ kk=>?_⟩
 obtain⟨xa,e1,h⟩:=bnd h
 obtain⟨d,e2,h⟩:=bnd h
 cases h
 refine s b F σ H ρ τ θ (fun r ρ'=>r=xa.1/\ρ'=xa.2) _ hK R ⟨xa,e1,rfl,rfl⟩ fun v H' r ρ' R' hZ=>?_
 obtain⟨h1,h2⟩:=hZ
 subst h1 h2
 refine⟨by show 2≤sizeLine;decide,fun pp hp=>?_⟩
 have R2:Rel b F σ (upd H' pp (.tup [.ty "list",.ty "tuple"])) xa.2 (v::τ) (xa.1::θ):=⟨R'.wf,R'.al,R'.wff,R'.wd.new hp⟩
 have hd:=R2.dt e2
 rw[hK]at hd
 obtain⟨n,ty1,ek⟩:=hd.kind2
 have kk':=kk (.bl (uc .seq d)) _ (.val (.fz (.bool (uc .seq d)))) _ (R2.drop.sc (.bl _)) q
 exact⟨v,_,_,pp,rfl,aj,ty1,ek,kk'⟩
end
end
section
def fR(t:Tg):DG:=fun x ρ Q=>∃ρ',bF t x ρ=some ρ'/\Q ρ'
structure Sto (X:Cx)(W:Nat->Prop)(m:Nat)(i:Nat)(x:Str):Prop where
 hN:X.N[i]?=some x
 loc:Loc X.env.scope x
 fn:X.fn x=true\/X.env.scope.names.lookup x=some .local
 lt:i < m
 nw:¬ W i
section
variable{X:Cx}{W:Nat->Prop}{m:Nat}{C:Ct}{a b c e:Expr}{es:List Expr}{ma mb mc:E}{mes:Es}{pos p p1 p2 p3:Pos}{x:Str}{i:Nat}
theorem PDg.imp{d d':DG}:PDg X W m e d->(∀x ρ Q,d' x ρ Q->d x ρ Q)->PDg X W m e d'
 | ⟨te,h,s⟩,f=>⟨te,h,fun b F σ H ρ τ θ v x Qd Q hK n R hd q=>s b F σ H ρ τ θ v x Qd Q hK n R (f _ _ _ hd) q⟩
theorem PDgs.imp{d d':DGs}:PDgs X W m es d->(∀x ρ Q,d' x ρ Q->d x ρ Q)->PDgs X W m es d'
 | ⟨te,h,s⟩,f=>⟨te,h,fun b F σ H ρ τ θ v x Qd Q hK n el R hd q=>s b F σ H ρ τ θ v x Qd Q hK n el R (f _ _ _ hd) q⟩
theorem PDg.or{d d':DG}:PDg X W m e d->PDg X W m e d'->PDg X W m e (fun x ρ Q=>d x ρ Q\/d' x ρ Q)
 | ⟨te,h,s⟩,⟨te',h',s'⟩=>⟨fun v σ H Q=>te v σ H Q\/te' v σ H Q,fun pins s σ H v u Q I r z=>z.elim (h pins s σ H v u Q I r) (h' pins s σ H v u Q I r),fun b F σ H ρ τ θ v x Qd Q hK n R hd q=>hd.imp (fun hd=>s b F σ H ρ τ θ v x Qd Q hK n R hd q) fun hd=>s' b F σ H ρ τ θ v x Qd Q hK n R hd q⟩
theorem Bh(hN:X.N.Nodup)(s:Sto X W m i x):PDg X W m (.Name x pos) (fR (.nm i)):=by
 refine (ky s.nw hN s.hN s.loc s.lt s.fn).imp fun y ρ Q hZ=>?_
 obtain⟨ρ',h,q⟩:=hZ
 obtain⟨_,hi,h⟩:=bnd h
 cases h
 exact⟨gd_ok hi,q⟩
inductive Stos (X:Cx)(W:Nat->Prop)(m:Nat):List Nat->List Expr->Prop
 | nil:Stos X W m [] []
 | cons {i is x pos es}:Sto X W m i x->Stos X W m is es->Stos X W m (i::is) (.Name x pos::es)
theorem lW(hN:X.N.Nodup):∀{ts:List Nat} {es:List Expr},Stos X W m ts es->PDgs X W m es (fun xs ρ Q=>xs.length=ts.length/\(∀i∈ts,i < ρ.length)/\Q (dD ts xs ρ))
 | [],_,.nil=>pdgs_nil.imp fun xs ρ Q ⟨h1,h2,q⟩=>by
   cases xs with
   | nil=>exact⟨rfl,q⟩
   | cons _ _=>simp at h1
 | i::is,_,.cons s t=>(fM rfl (ky s.nw hN s.hN s.loc s.lt s.fn) (lW hN t)).imp fun xs ρ Q ⟨h1,h2,q⟩=>by
   cases xs with
   | nil=>simp at h1
   | cons z zs=>exact⟨z,zs,rfl,h2 i List.mem_cons_self,by simpa using h1,fun j hj=>by rw[List.length_set];exact h2 j (List.mem_cons_of_mem _ hj),q⟩
theorem eV{ts:List Nat}(h:Stos X W m ts es):(assignEach es X.env).length=ts.length/\(assignEach es X.env).findIdx? (·.1)=none:=by
 induction h with
 | nil=>exact⟨rfl,rfl⟩
 | @cons i is x pos es s t ih =>
  have e:assignEach (.Name x pos::es) X.env=(false,assign (.Name x pos) X.env)::assignEach es X.env:=rfl
  rw[e]
  refine⟨by simp[ih.1],?_⟩
  rw[List.findIdx?_cons]
  simp[ih.2]
theorem kH{y:OD}{xs:List OD}(h:unpA y=some xs):unpT y=some xs\/unpL y=some xs:=by
 unfold unpA at h
 cases e1:unpT y with
 | some ys=>rw[e1]at h;exact .inl h
 | none=>rw[e1]at h;exact .inr h
theorem Bi{ts:List Nat}{k:Nat}(hc:X.calm=true)(hN:X.N.Nodup)(h:Stos X W m ts es):PDg X W m (.Tuple es k pos) (fR (.tp ts)):=by
 refine ((mZ hc (eV h).1 (eV h).2 (lW hN h)).or (m3 hc (eV h).1 (eV h).2 (lW hN h))).imp fun y ρ Q hZ=>?_
 obtain⟨ρ',h,q⟩:=hZ
 obtain⟨xs,e1,h⟩:=bnd h
 obtain⟨_,hi,h⟩:=bnd h
 cases h
 have hi:=gd_ok hi
 rcases kH e1 with e1 | e1
 ·exact .inl ⟨xs,e1,hi.1,hi.1,hi.2,q⟩
 ·exact .inr ⟨xs,e1,hi.1,hi.1,hi.2,q⟩
theorem DQ{ts:List Nat}{k k2:Nat}{p2:Pos}(hc:X.calm=true)(hN:X.N.Nodup)(s:Sto X W m i x)(h:Stos X W m ts es):PDg X W m (.Tuple [.Name x p,.Tuple es k p2] k2 pos) (fR (.tn i ts)):=by
 have hs:=fM (X:=X) (W:=W) (m:=m) (e:=.Name x p) (es:=[.Tuple es k p2]) rfl (Bh hN s) (fM rfl (Bi hc hN h) pdgs_nil)
 refine ((mZ (n:=2) hc rfl rfl hs).or (m3 (n:=2) hc rfl rfl hs)).imp fun y ρ Q hZ=>?_
 obtain⟨ρ',h,q⟩:=hZ
 obtain⟨xs,e1,h⟩:=bnd h
 obtain⟨z,e2,h⟩:=bnd h
 obtain⟨_,hi,h⟩:=bnd h
 rw[two2_ok e2]at e1
 have hd:lN (fR (.nm i)) (lN (fR (.tp ts)) dgNil) [z.1,z.2] ρ Q:=⟨z.1,[z.2],rfl,ρ.set i (some z.1),by show (gd _).bind _=_;rw[hi];rfl,z.2,[],rfl,ρ',h,rfl,q⟩
 rcases kH e1 with e1 | e1
 ·exact .inl ⟨_,e1,rfl,hd⟩
 ·exact .inr ⟨_,e1,rfl,hd⟩
theorem PI.or{tg:Expr}{t t':TI}(h:PI X tg e t)(h':PI X tg e t'):PI X tg e (fun σ H R=>t σ H R\/t' σ H R):=fun pins s σ H R I z=>z.elim (h pins s σ H R I) (h' pins s σ H R I)
theorem PDi.or{tg:Expr}{d d':DI}:PDi X tg e d->PDi X tg e d'->PDi X tg e (fun ρ Q=>d ρ Q\/d' ρ Q)
 | ⟨te,h,s⟩,⟨te',h',s'⟩=>⟨_,PI.or h h',fun b F σ H ρ τ θ Qd Q hK R hd q=>hd.imp (fun hd=>s b F σ H ρ τ θ Qd Q hK R hd q) fun hd=>s' b F σ H ρ τ θ Qd Q hK R hd q⟩
theorem yK{ρ:DEnv}{xa:OR × DEnv}(e1:ev C ma ρ=some xa):evs C (.cons ma .nil) ρ=some ([xa.1],xa.2):=by
 show ((ev C ma ρ).bind _)=_
 rw[e1];rfl
theorem DR{ρ:DEnv}{xa xb:OR × DEnv}(e1:ev C ma ρ=some xa)(e2:ev C mb xa.2=some xb):evs C (.cons ma (.cons mb .nil)) ρ=some ([xa.1,xb.1],xb.2):=by
 show ((ev C ma ρ).bind _)=_
 rw[e1]
 show ((evs C (.cons mb .nil) xa.2).bind _)=_
 rw[yK e2];rfl
theorem nj{ρ:DEnv}{r:OR}{d:PyData}(e:aN ρ r=some d):eh ρ [r]=some [d]:=by
 show ((aN ρ r).bind _)=_
 rw[e];rfl
theorem wy{ρ:DEnv}{r:OR}{z:PyData × DEnv}{d:PyData}(e:frz1 ρ r=some z)(h:z.1=d):frzL ρ [r]=some ([d],z.2):=by
 show ((frz1 ρ r).bind _)=_
 rw[e,<- h];rfl
theorem Bj{ρ:DEnv}{r r':OR}{z w:PyData × DEnv}(e:frz1 ρ r=some z)(e':frz1 z.2 r'=some w):frzL ρ [r,r']=some ([z.1,w.1],w.2):=by
 show ((frz1 ρ r).bind _)=_
 rw[e]
 show ((frzL z.2 [r']).map _)=_
 rw[wy e' rfl];rfl
theorem wz{d:PyData}{ds:List PyData}(h:rL d=some ds):∃l:Bool,AR d=some (l,ds):=(jE h).elim (fun h=>⟨true,h ▸ rfl⟩) fun h=>⟨false,h ▸ rfl⟩
theorem Bk{tg:Expr}(h1:PDe X e (aF C ma)):PDi X tg e (iK C (.seq ma)):=by
 refine ((rq h1).or (uX h1)).imp fun ρ Q hZ=>?_
 obtain⟨y,h,q⟩:=hZ
 obtain⟨xa,e1,h⟩:=bnd h
 obtain⟨z,e2,h⟩:=bnd h
 obtain⟨ds,e3,h⟩:=bnd h
 obtain⟨d,ρ'⟩:=z
 cases h
 rcases jE e3 with e3 | e3<;>simp only at e3<;>subst e3
 ·exact .inl ⟨xa,e1,_,_,e2,q⟩
 ·exact .inr ⟨xa,e1,_,_,e2,q⟩
theorem Bm {tg:Expr} (hg:Gl X "range") (hm:X.mg "range"=none) (hs:isStar a=false) (h1:PDe X a (aF C ma)):PDi X tg (.Call (.Name "range" p) [a] [] pos) (iK C (.rg1 ma)):=by
 refine (lO hg hm (ar hs) (cQ hs h1 fQ)).imp fun ρ Q hZ=>?_
 obtain⟨y,h,q⟩:=hZ
 obtain⟨xa,e1,h⟩:=bnd h
 obtain⟨d,e2,h⟩:=bnd h
 obtain⟨j,e3,h⟩:=bnd h
 obtain⟨_,hj,h⟩:=bnd h
 cases h
 have hj:=gd_ok hj
 rw[aP e3]at e2
 exact⟨([xa.1],xa.2),yK e1,j,nj e2,hj.1,hj.2,q⟩
theorem Bp {x1} {tpos:Pos} (hg:Gl X "enumerate") (hm:X.mg "enumerate"=none) (hs:isStar a=false) (h1:PDe X a (aF C ma)):PDi X (.Tuple es x1 tpos) (.Call (.Name "enumerate" p) [a] [] pos) (iK C (.enm ma)):=by
 refine (rA hg hm (ar hs) (cQ hs h1 fQ)).imp fun ρ Q hZ=>?_
 obtain⟨y,h,q⟩:=hZ
 obtain⟨xa,e1,h⟩:=bnd h
 obtain⟨z,e2,h⟩:=bnd h
 obtain⟨ds,e3,h⟩:=bnd h
 cases h
 exact⟨([xa.1],xa.2),yK e1,ds,z.2,wy e2 (hU e3),q⟩
theorem Bq {x1} {tpos:Pos} (hg:Gl X "zip") (hm:X.mg "zip"=none) (hs:isStar a=false) (hs2:isStar b=false) (h1:PDe X a (aF C ma)) (h2:PDe X b (aF C mb)):PDi X (.Tuple es x1 tpos) (.Call (.Name "zip" p) [a,b] [] pos) (iK C (.zip ma mb)):=by
 refine (uY hg hm (by rw[ar hs,ar hs2];rfl) (ar hs2) (cQ hs h1 (cQ hs2 h2 fQ))).imp fun ρ Q hZ=>?_
 obtain⟨y,h,q⟩:=hZ
 obtain⟨xa,e1,h⟩:=bnd h
 obtain⟨xb,e1',h⟩:=bnd h
 obtain⟨z,e2,h⟩:=bnd h
 obtain⟨w,e3,h⟩:=bnd h
 obtain⟨ds,e4,h⟩:=bnd h
 obtain⟨es,e5,h⟩:=bnd h
 cases h
 obtain⟨l1,g1⟩:=wz e4
 obtain⟨l2,g2⟩:=wz e5
 exact⟨_,DR e1 e1',_,_,l1,l2,ds,es,w.2,Bj e2 e3,g1,g2,q⟩
def bj(C:Ct)(tg:Tg)(ifs:Eo)(elt:E)(d:PyData)(ρ:DEnv):Option (List PyData × DEnv) :=
 (bF tg (.fz d) ρ).bind fun ρ1=>(CJ C ifs ρ1).bind fun k=>if k.1=true then (ev C elt k.2).bind fun y=>(frz1 y.2 y.1).bind fun q=>some ([q.1],q.2) else some ([],k.2)
def wA(C:Ct)(ifs:Eo)(elt:E):DC:=fun ρ Q=>∃w,((CJ C ifs ρ).bind fun k=>if k.1=true then (ev C elt k.2).bind fun y=>(frz1 y.2 y.1).bind fun q=>some (([q.1]:List PyData),q.2) else some ([],k.2))=some w/\Q w.1 w.2
theorem PDc.imp{Y:Cx}{ifs:List Expr}{elt:Expr}{d d':DC}:PDc Y ifs elt d->(∀ρ Q,d' ρ Q->d ρ Q)->PDc Y ifs elt d'
 | ⟨te,h,s⟩,f=>⟨te,h,fun b F σ H ρ vs rs D out Qd Q hK el hz R hd q=>s b F σ H ρ vs rs D out Qd Q hK el hz R (f _ _ hd) q⟩
theorem vg{Y:Cx}{elt:Expr}{me:E}(h1:PDe Y elt (aF C me)):PDc Y [] elt (wA C .none me):=(pS h1).imp fun ρ Q ⟨w,h,q⟩=>by
 have h:((ev C me ρ).bind fun y=>(frz1 y.2 y.1).bind fun q=>some (([q.1]:List PyData),q.2))=some w:=h
 obtain⟨y,e1,h⟩:=bnd h
 obtain⟨z,e2,h⟩:=bnd h
 cases h
 exact⟨y,e1,z.1,z.2,e2,q⟩
theorem yL{Y:Cx}{c elt:Expr}{mc me:E}(h0:PDt Y c (gF C mc))(h1:PDe Y elt (aF C me)):PDc Y [c] elt (wA C (.some mc) me):=(rG h0 h1).imp fun ρ Q ⟨w,h,q⟩=>by
 obtain⟨k,e0,h⟩:=bnd h
 refine⟨k,e0,?_⟩
 by_cases hk:k.1=true
 ·rw[if_pos hk]at h ⊢
  obtain⟨y,e1,h⟩:=bnd h
  obtain⟨z,e2,h⟩:=bnd h
  cases h
  exact⟨y,e1,z.1,z.2,e2,q⟩
 ·rw[if_neg hk]at h ⊢
  cases h
  exact q
theorem kI(step:PyData->DEnv->Option (List PyData × DEnv))(ds:List PyData)(w:List PyData × DEnv)(k:Nat){d:PyData}{out:List PyData}{ρ:DEnv}(hd:ds[k]?=some d)(h:bc step (ds.drop k) out ρ=some w):∃z,step d ρ=some z/\bc step (ds.drop (k + 1)) (out++z.1) z.2=some w:=by
 have hk:=(List.getElem?_eq_some_iff.mp hd).1
 have e:ds.drop k=d::ds.drop (k + 1):=by
  rw[List.drop_eq_getElem_cons hk,(List.getElem?_eq_some_iff.mp hd).2]
 rw[e]at h
 exact bnd h
theorem nk(C:Ct){nt:Nat}{fr:List Nat}{mi:It'}{mt:Tg}{mif:Eo}{me:E}:∀ρ Q,aF C (.comp nt fr mi mt mif me) ρ Q->m5 (iK C mi) nt fr (fR mt) (wA C mif me) ρ Q:=fun ρ Q ⟨y,h,q⟩=>by
 obtain⟨x,e1,h⟩:=bnd h
 obtain⟨_,hz,h⟩:=bnd h
 obtain⟨z,e2,h⟩:=bnd h
 obtain⟨w,e3,h⟩:=bnd h
 cases h
 refine⟨x,e1,gd_ok hz,z.1,z.2,e2,fun k out ρ=>bc (bj C mt mif me) (x.1.drop k) out ρ=some w,e3,fun k d out ρ hd iv=>?_,fun out ρ iv=>?_⟩
 ·obtain⟨u,hu,iv'⟩:=kI _ _ _ k hd iv
  obtain⟨ρ1,e4,hu⟩:=bnd hu
  exact⟨ρ1,e4,u,hu,iv'⟩
 ·have iv:bc (bj C mt mif me) (x.1.drop x.1.length) out ρ=some w:=iv
  rw[List.drop_length]at iv
  cases iv
  exact q
theorem yM{N:List Str}{nt:Nat}{fr:List Nat}{scope:Scope}{elt iter tg:Expr}{ifs:List Expr}{mi:It'}{mt:Tg}{mif:Eo}{me:E}(hc:X.calm=true)(S:CompScope N nt fr X.N scope X.env.scope)(hs:∀x,foldedSetIterable iter X.env x=pure x)(hi:PDi X tg iter (iK C mi))(hg:∀c:CC,PDg (fJ X N scope c) Ff nt tg (fR mt))(ha:∀c:CC,PDc (fJ X N scope c) ifs elt (wA C mif me)) :
  PDe X (.ListComp elt [⟨tg,iter,ifs,0⟩] scope pos) (aF C (.comp nt fr mi mt mif me)):=(u6 hc S hs hi hg ha).imp (nk C)
end
end
section
def Br(D:DEnds)(ρ:DEnv):Fl->Prop
 | .nx=>D.nx ρ | .bk=>D.bk ρ | .ct=>D.ct ρ | .rt x=>D.rt x ρ
def gG(C:Ct)(s:S'):DS:=fun D ρ=>∃x,dw C s ρ=some x/\Br D x.2 x.1
def ib(C:Ct)(s:Ss):DS:=fun D ρ=>∃x,aD C s ρ=some x/\Br D x.2 x.1
section
variable{b:Bs}{F:List Fr}{σ:St}{H H':Hp}{ρ:DEnv}{τ us:List V}{θ:List OR}{zs:List OD}{v u:V}{x y:OD}{i:Nat}{ks:List Nat}
theorem Rel.open(R:Rel b F σ H ρ (us++τ) (zs.map OR.val++θ))(el:us.length=zs.length)(e:ρ[i]?.join=some x):∃v,σ[i]?=some (some v)/\Wd b H (us.zip zs++((v,x)::(stk τ θ++(flat σ (ρ.set i none)++ff F)))):=by
 obtain⟨v,ev,w⟩:=R.slot (join_some e)
 refine⟨v,ev,w.perm ?_⟩
 rw[aA (by simpa using el),cf el,List.append_assoc]
 exact List.perm_middle.symm
theorem Rel.close(R:Rel b F σ H ρ τ θ)(ev:σ[i]?=some (some v))(w:Wd b H' ((v,x)::(stk τ θ++(flat σ (ρ.set i none)++ff F)))):Rel b F σ H' (ρ.set i (some x)) τ θ:=Rel.back R.wf R.al R.wff ev w
theorem Rel.rest(R:Rel b F σ H ρ (us++τ) (zs.map OR.val++θ))(el:us.length=zs.length):Rel b F σ H ρ τ θ:=R.drops (by simpa using el)
end
section
variable{X:Cx}{W:Nat->Prop}{m:Nat}{C:Ct}{a b c e:Expr}{es:List Expr}{sts s1 s2:List Stmt}{st:Stmt}{ma mb mc:E}{mes:Es}{ms:S'}{mss ma' mb':Ss}{pos p p1 p2 p3 pos':Pos}{x:Str}{i:Nat}
theorem PDs.imp{d d':DS}:PDs X W st d->(∀D ρ,d' D ρ->d D ρ)->PDs X W st d'
 | ⟨te,h,s⟩,f=>⟨te,h,fun b F σ H ρ τ θ Dd D hK n R hd E=>s b F σ H ρ τ θ Dd D hK n R (f _ _ hd) E⟩
theorem PDss.imp{d d':DS}:PDss X W sts d->(∀D ρ,d' D ρ->d D ρ)->PDss X W sts d'
 | ⟨te,h,s⟩,f=>⟨te,h,fun b F σ H ρ τ θ Dd D hK n R hd E=>s b F σ H ρ τ θ Dd D hK n R (f _ _ hd) E⟩
theorem yN:PDss X W [] (ib C .nil):=pdss_nil.imp fun D ρ ⟨y,h,q⟩=>by cases h;exact q
theorem vh(h1:PDs X W st (gG C ms))(h2:PDss X W sts (ib C mss)):PDss X W (st::sts) (ib C (.cons ms mss)):=by
 refine (pN h1 h2).imp fun D ρ hZ=>?_
 obtain⟨y,h,q⟩:=hZ
 obtain⟨z,e1,h⟩:=bnd h
 obtain⟨fl,ρ1⟩:=z
 refine⟨fun ρ'=>fl=.nx/\ρ'=ρ1,fun ρ' ⟨h1,h2⟩=>?_,?_⟩
 ·subst h1 h2;exact⟨y,h,q⟩
 ·cases fl
  ·exact⟨_,e1,rfl,rfl⟩
  ·cases h;exact⟨_,e1,q⟩
  ·cases h;exact⟨_,e1,q⟩
  ·cases h;exact⟨_,e1,q⟩
theorem yO:PDs X W (.Continue pos) (gG C .cont):=pds_cont.imp fun D ρ ⟨y,h,q⟩=>by cases h;exact q
theorem Bt:PDs X W (.Break pos) (gG C .brk):=pds_brk.imp fun D ρ ⟨y,h,q⟩=>by cases h;exact q
def dG:Expr->Bool
 | .ListComp _ _ _ _=>true | .SetComp _ _ _ _=>true | .DictComp _ _ _ _ _=>true
 | _=>false
theorem fS{t:Option Expr}{l:Nat}{env:Env}(h:dG e=false):swapsWith e t l env=pure false:=by cases e<;>first | rfl | cases h
theorem DU(hs:dG e=false)(h1:PDe X e (aF C ma)):PDs X W (.Expr e pos) (gG C (.ex ma)):=by
 refine (rk (fS hs) h1).imp fun D ρ hZ=>?_
 obtain⟨y,h,q⟩:=hZ
 obtain⟨z,e1,h⟩:=bnd h
 cases h
 exact⟨z,e1,q⟩
theorem Bu(h1:PDe X e (aF C ma)):PDs X W (.Return (some e) pos) (gG C (.ret ma)):=by
 refine (uT h1).imp fun D ρ hZ=>?_
 obtain⟨y,h,q⟩:=hZ
 obtain⟨z,e1,h⟩:=bnd h
 obtain⟨w,e2,h⟩:=bnd h
 cases h
 exact⟨z,e1,w.1,w.2,e2,q⟩
theorem DV(h0:PDt X c (gF C mc))(h1:PDss X W s1 (ib C ma'))(h2:PDss X W s2 (ib C mb')):PDs X W (.If c s1 s2 pos) (gG C (.iff mc ma' mb')):=by
 refine (yr h0 h1 h2).imp fun D ρ hZ=>?_
 obtain⟨y,h,q⟩:=hZ
 obtain⟨z,e1,h⟩:=bnd h
 refine⟨z,e1,?_⟩
 by_cases hk:z.1=true
 ·rw[if_pos hk]at h ⊢;exact⟨y,h,q⟩
 ·rw[if_neg hk]at h ⊢;exact⟨y,h,q⟩
theorem wB(hN:X.N.Nodup)(s:Sto X W m i x)(hs:swapsWith e (some (.Name x pos')) pos.line X.env=pure false)(h1:PDe X e (aF C ma)):PDs X W (.Assign [.Name x pos'] e pos) (gG C (.set i ma)):=by
 refine (uU s.nw hN s.hN s.loc hs s.fn h1).imp fun D ρ hZ=>?_
 obtain⟨y,h,q⟩:=hZ
 obtain⟨z,e1,h⟩:=bnd h
 obtain⟨w,e2,h⟩:=bnd h
 obtain⟨_,hi,h⟩:=bnd h
 cases h
 exact⟨z,e1,w.1,w.2,e2,gd_ok hi,q⟩
theorem Bv{tg:Expr}{t:Tg}(hs:swapsWithSole [tg] e pos.line X.env=pure false)(hw:swappedStores [tg] e X.env=pure none)(h0:isStar tg=false)(h1:PDe X e (aF C ma))(h2:PDg X W m tg (fR t)):PDs X W (.Assign [tg] e pos) (gG C (.asg t ma)):=by
 refine (uW hs hw (by cases tg<;>first | rfl | cases h0) h1 h2).imp fun D ρ hZ=>?_
 obtain⟨y,h,q⟩:=hZ
 obtain⟨z,e1,h⟩:=bnd h
 obtain⟨w,e2,h⟩:=bnd h
 obtain⟨ρ1,e3,h⟩:=bnd h
 cases h
 exact⟨z,e1,w.1,w.2,e2,ρ1,e3,q⟩
theorem Bw{tg iter:Expr}{mi:It'}{t:Tg}(hp:PassesOwn (model X.prog X.w) X.A X.env X.xe)(hc:X.calm=true)(hs:∀x,foldedSetIterable iter X.env x=pure x)(hi:PDi X tg iter (iK C mi))(hg:PDg X W m tg (fR t))(hb:PDss X W sts (ib C mss)):PDs X W (.For tg iter sts [] pos) (gG C (.fr t mi mss)):=by
 obtain⟨_,h1,s1⟩:=hi
 obtain⟨_,h2,s2⟩:=hg
 obtain⟨_,h3,s3⟩:=hb
 refine⟨_,xA hp hc h1 h2 h3 hs,fun b F σ H ρ τ θ Dd D hK n R ⟨y,h,q⟩ E=>?_⟩
 obtain⟨x,e1,h⟩:=bnd h
 refine s1 b F σ H ρ τ θ (fun ds ρ'=>ds=x.1/\ρ'=x.2) _ hK R ⟨x,e1,rfl,rfl⟩ fun J H1 ds ρ1 vs rs el nr R1 it hZ=>?_
 obtain⟨h1,h2⟩:=hZ
 subst h1 h2
 refine⟨fun i mm σ H=>mm=x.1.length - i/\i≤x.1.length/\∃ρ,Rel b F σ H ρ (vs++τ) (rs++θ)/\cv (fun d ρ'=>(bF t (.fz d) ρ').bind fun ρ1=>aD C mss ρ1) (x.1.drop i) ρ=some y,⟨_,rfl,Nat.zero_le _,_,R1,h⟩,?_⟩
 rintro i mm σ2 H2 ⟨rfl,hi,ρ2,R2,w2⟩
 obtain⟨go,stop⟩:=it F σ2 H2 ρ2 τ θ R2 i
 by_cases hlt:i < x.1.length
 ·obtain⟨g1,g2⟩:=go hlt
  have ed:x.1[i]?=some x.1[i]:=List.getElem?_eq_getElem hlt
  have ee:x.1.drop i=x.1[i]::x.1.drop (i + 1):=List.drop_eq_getElem_cons hlt
  rw[ee]at w2
  obtain⟨w,e2,w2⟩:=bnd w2
  obtain⟨ρ3,e3,e2⟩:=bnd e2
  obtain⟨fl,ρ4⟩:=w
  refine .inr ⟨g1,fun σ' H'=>∃ρ',Rel b F σ' H' ρ' (vs++τ) (rs++θ)/\cv (fun d ρ'=>(bF t (.fz d) ρ').bind fun ρ1=>aD C mss ρ1) (x.1.drop (i + 1)) ρ'=some y,fun σ' H' ⟨ρ',R',w'⟩=>⟨_,by omega,rfl,hlt,ρ',R',w'⟩,fun z H3 hy=>?_⟩
  have R3:=g2 z H3 x.1[i] hy ed
  refine s2 b F σ2 H3 ρ2 (vs++τ) (rs++θ) z _ (fun ρ'=>ρ'=ρ3) _ hK (NoRf.app nr.weak n) R3 ⟨ρ3,e3,rfl⟩ fun σ4 H4 ρ' R4 _ h4=>?_
  subst h4
  refine s3 b F σ4 H4 _ (vs++τ) (rs++θ) ⟨fun ρ'=>fl=.nx/\ρ'=ρ4,fun o ρ'=>fl=.rt o/\ρ'=ρ4,fun ρ'=>fl=.bk/\ρ'=ρ4,fun ρ'=>fl=.ct/\ρ'=ρ4⟩ _ hK (NoRf.app nr.weak n) R4 ⟨_,e2,by cases fl<;>exact⟨rfl,rfl⟩⟩ ⟨fun σ' H' ρ' R' ⟨h1,h2⟩=>?_,fun σ' H' ρ' R' ⟨h1,h2⟩=>?_,fun σ' H' ρ' R' ⟨h1,h2⟩=>?_,fun σ' H' ρ' v o R' ⟨h1,h2⟩=>?_⟩
  ·subst h1 h2;exact⟨_,R',w2⟩
  ·subst h1 h2;cases w2;exact E.nx σ' H' _ (R'.drops el) q
  ·subst h1 h2;exact⟨_,R',w2⟩
  ·subst h1 h2
   cases w2
   exact E.rt σ' H' _ v o (Rel.drops (vs:=vs) (rs:=rs) (τ:=v::τ) (θ:=.val o::θ) (Rel.tor R' el) el) q
 ·have e:i=x.1.length:=by omega
  subst e
  rw[List.drop_length]at w2
  cases w2
  exact .inl ⟨stop rfl,E.nx σ2 H2 ρ2 (R2.drops el) q⟩
end
end
section
section
variable{X:Cx}{W:Nat->Prop}{m:Nat}{C:Ct}{a b c e:Expr}{es:List Expr}{sts s1 s2:List Stmt}{st:Stmt}{ma mb mc:E}{mes:Es}{ms:S'}{mss ma' mb':Ss}{pos p p1 p2 p3 pos' apos cpos:Pos}{x:Str}{i:Nat}
theorem By{o:Bo}(hN:X.N.Nodup)(s:Sto X W m i x)(h1:PDe X e (aF C ma)):PDs X W (.AugAssign (.Name x pos') (opOf o) e pos) (gG C (.aug i o ma)):=by
 have key:∀(op:Operator) (g:Int->Int->Int),CB X op (C3 g)->(∀a d r,lV o a d=some r->∃k,d=.int k/\r=g a k)->PDs X W (.AugAssign (.Name x pos') op e pos) (gG C (.aug i o ma)):=fun op g ho hg=>by
  obtain⟨_,h,s1⟩:=h1
  refine⟨_,xu hN s.hN s.loc h ho s.fn,fun b F σ H ρ τ θ Dd D hK n R ⟨y,h,q⟩ E=>?_⟩
  obtain⟨x0,e0,h⟩:=bnd h
  obtain⟨d0,f0,h⟩:=bnd h
  obtain⟨n0,g0,h⟩:=bnd h
  rw[cy f0,aP g0]at e0
  ·obtain⟨z,e1,h⟩:=bnd h
   obtain⟨dk,ek,h⟩:=bnd h
   obtain⟨r,er,h⟩:=bnd h
   cases h
   obtain⟨k,rfl,rfl⟩:=hg _ _ _ er
   obtain⟨v,ev,w⟩:=R.slot (join_some e0)
   have hv:=w.dt (d:=.int n0) rfl
   cases hv
   have hi:i < ρ.length:=(List.getElem?_eq_some_iff.mp (join_some e0)).1
   refine⟨_,ev,s1 b F σ H ρ τ θ (fun r ρ'=>r=z.1/\ρ'=z.2) _ hK R ⟨z,e1,rfl,rfl⟩ fun v H1 r ρ1 R1 hZ=>?_⟩
   obtain⟨h1,h2⟩:=hZ
   subst h1 h2
   have hm:=R1.dt ek
   cases hm
   have hl:i < z.2.length:=by rw[<- R1.wf.len,R.wf.len];exact hi
   exact⟨n0,k,rfl,rfl,E.nx _ H1 _ ((R1.drop.sc (.int (g n0 k))).store n hl s.nw) q⟩
 have nil:∀op,(∀a d,lV o a d=none)->PDs X W (.AugAssign (.Name x pos') op e pos) (gG C (.aug i o ma)):=fun op hn=>by
  refine⟨_,kb,fun b F σ H ρ τ θ Dd D hK n R ⟨y,h,q⟩ E=>?_⟩
  obtain⟨x0,e0,h⟩:=bnd h
  obtain⟨d0,f0,h⟩:=bnd h
  obtain⟨n0,g0,h⟩:=bnd h
  obtain⟨z,e1,h⟩:=bnd h
  obtain⟨dk,ek,h⟩:=bnd h
  rw[hn]at h
  cases h
 cases o with
 | add=>exact key _ _ xw fun a d r h=>by cases d<;>cases h;exact⟨_,rfl,rfl⟩
 | sub=>exact key _ _ xx fun a d r h=>by cases d<;>cases h;exact⟨_,rfl,rfl⟩
 | _=>exact nil _ fun a d=>rfl
end
end
section
section
variable{b:Bs}{S S':Addr->Prop}{H H1 H':Hp}{L L':List (V × OD)}{v u u' w w':V}{x y z z' y':OD}{d:PyData}{ks:List Nat}{k:Nat}
theorem Chn.det{ks:List Nat}{v:V}{x:OD}{u u':V}{y y':OD}(h:Chn b H v x ks u y)(h':Chn b H v x ks u' y'):u=u'/\y=y':=by
 induction ks generalizing v x with
 | nil=>cases h;cases h';exact⟨rfl,rfl⟩
 | cons k ks ih =>
  cases h with
  | cons c1 c2 =>
   cases h' with
   | cons d1 d2 =>
    obtain⟨e1,e2⟩:=Chd.det c1 d1
    subst e1 e2
    exact ih c2 d2
theorem Chn.snoc{ks:List Nat}{v:V}{x:OD}(h:Chn b H v x ks u y)(c:Chd b H u y k w z):Chn b H v x (ks++[k]) w z:=by
 induction ks generalizing v x with
 | nil=>cases h;exact .cons c .nil
 | cons k ks ih=>cases h with | cons c1 c2=>exact .cons c1 (ih c2)
theorem Chn.unsnoc{ks:List Nat}{v:V}{x:OD}(h:Chn b H v x (ks++[k]) w z):∃u y,Chn b H v x ks u y/\Chd b H u y k w z:=by
 induction ks generalizing v x with
 | nil=>cases h with | cons c t=>cases t;exact⟨_,_,.nil,c⟩
 | cons k ks ih =>
  cases h with
  | cons c1 c2 =>
   obtain⟨u,y,h1,h2⟩:=ih c2
   exact⟨u,y,.cons c1 h1,h2⟩
theorem OD.at_snoc:∀{ks:List Nat} {x:OD},x.at ks=some y->y.kids[k]?=some z->x.at (ks++[k])=some z
 | [],x,e,h=>by simp only[OD.at]at e;cases e;simp[OD.at,h]
 | j::ks,x,e,h=>by
  simp only[OD.at,List.cons_append]at e ⊢
  cases ez:x.kids[j]? with
  | none=>rw[ez]at e;cases e
  | some q=>rw[ez]at e;exact OD.at_snoc e h
theorem setKid_self{x z:OD}(h:x.kids[k]?=some z):OD.setKid k z x=x:=by
 cases x<;>simp only[OD.kids]at h<;>first | (simp at h;done) | (simp only[OD.setKid];rw[bt h])
theorem OD.put_self:∀{ks:List Nat} {x:OD},x.at ks=some y->OD.put y ks x=x
 | [],x,e=>by simp only[OD.at]at e;cases e;rfl
 | j::ks,x,e=>by
  simp only[OD.at,OD.put]at e ⊢
  cases ez:x.kids[j]? with
  | none=>rfl
  | some q =>
   rw[ez]at e
   simp only
   rw[OD.put_self e]
   exact setKid_self ez
theorem path_at:∀{ps:List Acc} {ρ:DEnv} {i:Nat} {p:OD × List Nat × OD},ah ρ i ps=some p->ρ[i]?.join=some p.1/\p.1.at p.2.1=some p.2.2
 | [],ρ,i,p,h=>by
  obtain⟨x,e1,h⟩:=bnd h
  cases h
  exact⟨e1,rfl⟩
 | a::ps,ρ,i,p,h=>by
  obtain⟨q,e1,h⟩:=bnd h
  obtain⟨k,e2,h⟩:=bnd h
  obtain⟨z,e3,h⟩:=bnd h
  cases h
  obtain⟨h1,h2⟩:=path_at e1
  exact⟨h1,OD.at_snoc h2 e3⟩
theorem Wd.way(w:Wd b H ((v,x)::L))(e:x.at ks=some y):∃u,Chn b H v x ks u y:=by
 obtain⟨A0,h0,nd,new⟩:=w.out
 cases h0 with
 | cons r t =>
  obtain⟨u,B,A',ch,_⟩:=Ow.path r e
  exact⟨u,ch⟩
theorem Wd.kidAt(w:Wd b H ((v,x)::L))(e:x.at ks=some y)(ch:Chn b H v x ks u y)(ek:y.kids[k]?=some z):∃q,Chd b H u y k q z:=by
 obtain⟨q,c⟩:=w.way (OD.at_snoc e ek)
 obtain⟨u',y',h1,h2⟩:=Chn.unsnoc c
 obtain⟨e1,e2⟩:=Chn.det ch h1
 subst e1 e2
 exact⟨q,h2⟩
def Ext(H H':Hp):Prop:=∀a o,H a=some o->H' a=some o
theorem Ext.refl(H:Hp):Ext H H:=fun _ _ h=>h
theorem Ext.trans(h:Ext H H1)(h':Ext H1 H'):Ext H H':=fun a o e=>h' a o (h a o e)
theorem Ext.upd{p:Addr}{o:HO}(e:H p=none):Ext H (upd H p o):=fun a q h=>by
 by_cases z:a=p
 ·subst z;rw[e]at h;cases h
 ·rw[upd_ne z];exact h
theorem Chd.ext(E:Ext H H')(h:Chd b H v x k w z):Chd b H' v x k w z:=by
 cases h with
 | lst e1 e2 e3 e4=>exact .lst (E _ _ e1) e2 e3 e4
 | tup e1 e2 e3 e4=>exact .tup (E _ _ e1) e2 e3 e4
 | dic e1 e2 e5 e3 e4=>exact .dic (E _ _ e1) e2 e5 e3 e4
 | obj e1 e2 e5 e3 e4=>exact .obj (E _ _ e1) e2 e5 e3 e4
theorem Chn.ext(E:Ext H H'){ks:List Nat}{v:V}{x:OD}(h:Chn b H v x ks u y):Chn b H' v x ks u y:=by
 induction ks generalizing v x with
 | nil=>cases h;exact .nil
 | cons k ks ih=>cases h with | cons c1 c2=>exact .cons (c1.ext E) (ih c2)
end
def DW(K:PySem.W.Frag)(te:TE)(i:Nat)(ps:List Acc):Prop:=∀(b:Bs) (F:List Fr) (σ:St) (H:Hp) (ρ:DEnv) (τ:List V) (θ:List OR) (Q:VK) (p:OD × List Nat × OD),b.K=K->Rel b F σ H ρ τ θ->ah ρ i ps=some p->(∀v u,σ[i]?=some (some v)->Chn b H v p.1 p.2.1 u p.2.2->Q u H)->te σ H Q
inductive PDp (X:Cx)(e:Expr)(i:Nat)(ps:List Acc):Prop | mk (te:TE) (h:PE X e te) (s:DW X.K te i ps)
inductive PX (X:Cx)(e:Expr)(f:St->Option V):Prop | mk (te:TE) (h:PE X e te) (s:∀σ H (Q:VK) v,f σ=some v->Q v H->te σ H Q)
section
variable{X:Cx}{C:Ct}{a e e2:Expr}{es:List Expr}{ma mb:E}{mes:Es}{pos p p1 p2:Pos}{x:Str}{i j:Nat}{ps:List Acc}{k:Int}
theorem Bz{j:Nat}:PX X (.Constant (.int k) j pos) (fun _=>some (.int k)):=⟨_,gK,fun σ H Q v e q=>by cases e;exact q⟩
theorem DX (hN:X.N[i]?=some x) (hv:Vis X.env.scope x) (hd:(x == ("__debug__":Str))=false) (hcd:(x == ("__classdict__":Str))=false):PX X (.Name x pos) (fun σ=>σ[i]?.join):=⟨_,aX hN hv hd hcd,fun σ H Q v e q=>⟨v,join_some e,q⟩⟩
theorem DY (hN:X.N[i]?=some x) (hv:Vis X.env.scope x) (hd:(x == ("__debug__":Str))=false) (hcd:(x == ("__classdict__":Str))=false):PDp X (.Name x pos) i [] :=
 ⟨_,aX hN hv hd hcd,fun b F σ H ρ τ θ Q p hK R h q=>by
  obtain⟨y,e1,h⟩:=bnd h
  cases h
  obtain⟨v,ev⟩:=R.wf.get (join_some e1)
  exact⟨v,ev,q v v ev .nil⟩⟩
theorem lookup_at{f:Str}:∀{fs:List (Str × V)} {k:Nat} {w:V},(fs.map (·.1)).findIdx? (fun g=>decide (g=f))=some k->(fs[k]?).map (·.2)=some w->fs.lookup f=some w
 | [],_,_,e,_=>by simp at e
 | (g,q)::fs,k,w,e,h=>by
  rw[List.map_cons,List.findIdx?_cons]at e
  by_cases hg:g=f
  ·subst hg
   simp at e
   subst e
   simp at h
   subst h
   simp[List.lookup]
  ·simp[hg]at e
   obtain⟨k',e1,e2⟩:=e
   subst e2
   have e3:(fs.map (·.1)).findIdx? (fun g=>decide (g=f))=some k':=by rw[List.findIdx?_map];exact e1
   have:=lookup_at e3 (by simpa using h)
   have hb:(f == g)=false:=by simpa using fun z=>hg z.symm
   simp[List.lookup,hb,this]
theorem BA{ρ:DEnv}{y:OD}{c f:Str}{k:Nat}(h:accN ρ y (.fld c f)=some k):∃ns xs,y=.obj c ns xs/\ns.findIdx? (fun g=>decide (g=f))=some k:=by
 obtain⟨q,e1,h⟩:=bnd h
 obtain⟨_,e2,h3⟩:=bnd h
 exact⟨q.2.1,q.2.2,by rw[jD e1,gd_ok e2],h3⟩
theorem BB{c f:Str}(hb:attributeBase e f X.env (eval e X.env)=eval e X.env)(hc:Cls X.K (aq X.K c))(hn:NoAttr X.K (aq X.K c) f):PDp X e i ps->PDp X (.Attribute e f pos) i (.fld c f::ps)
 | ⟨te,h,s⟩=>⟨_,xM h hb,fun b F σ H ρ τ θ Q p hK R hp q=>by
  obtain⟨r,e1,hp⟩:=bnd hp
  obtain⟨k,e2,hp⟩:=bnd hp
  obtain⟨z,e3,hp⟩:=bnd hp
  cases hp
  refine s b F σ H ρ τ θ _ r hK R e1 fun v u ev ch=>?_
  obtain⟨h1,h2⟩:=path_at e1
  obtain⟨v',ev',w⟩:=R.slot (join_some h1)
  rw[ev]at ev'
  cases ev'
  obtain⟨q',cd⟩:=w.kidAt h2 ch e3
  obtain⟨ns,xs,ey,e2⟩:=BA e2
  rw[ey]at cd ch
  cases cd with
  | @obj a dx _ fs _ _ _ _ _ f1 f2 f5 f3 f4=>exact⟨a,_,dx,fs,q',rfl,f1,hK ▸ hc,hK ▸ hn,lookup_at (by rw[f2];exact e2) f3,q v q' ev (ch.snoc (.obj f1 f2 f5 f3 f4))⟩⟩
theorem rW{α:Type}{xs:List α}{n:Nat}{i:Int}{k:Nat}{y:α}(hn:xs.length=n)(h:ixN n i=some k)(e:xs[k]?=some y):atI xs i=some y:=by
 subst hn
 unfold atI
 rw[h]
 exact e
theorem BC{ac:Acc}{f:St->Option V}(hs:PlainIx e2)(hf:∀{b:Bs} {F:List Fr} {σ:St} {H:Hp} {ρ:DEnv} {τ:List V} {θ:List OR} {x:OD} {k:Nat},Rel b F σ H ρ τ θ->accN ρ x ac=some k->∃n,f σ=some (.int n)/\((∃xs,x=.lst xs/\ixN xs.length n=some k)\/∃xs,x=.tup xs/\ixN xs.length n=some k)):PDp X e i ps->PX X e2 f->PDp X (.Subscript e e2 pos) i (ac::ps)
 | ⟨te,h,s⟩,⟨_,h2,s2⟩=>⟨_,qy lA h h2 hs,fun b F σ H ρ τ θ Q p hK R hp q=>by
  obtain⟨r,e1,hp⟩:=bnd hp
  obtain⟨k,e2,hp⟩:=bnd hp
  obtain⟨z,e3,hp⟩:=bnd hp
  cases hp
  refine s b F σ H ρ τ θ _ r hK R e1 fun v u ev ch=>?_
  obtain⟨h1,h2⟩:=path_at e1
  obtain⟨v',ev',w⟩:=R.slot (join_some h1)
  rw[ev]at ev'
  cases ev'
  obtain⟨q',cd⟩:=w.kidAt h2 ch e3
  obtain⟨n,fn,cs⟩:=hf R e2
  refine s2 σ H _ _ fn ?_
  obtain⟨r1,r2,r3⟩:=r
  simp only at *
  rcases cs with ⟨xs,rfl,hx⟩ | ⟨xs,rfl,hx⟩
  ·cases cd with
   | @lst a vs _ _ _ _ f1 f2 f3 f4=>exact .inl ⟨a,vs,n,q',rfl,rfl,SqL.of f1,rW f2 hx f3,q v q' ev (ch.snoc (.lst f1 f2 f3 f4))⟩
  ·cases cd with
   | @tup a vs _ _ _ _ f1 f2 f3 f4=>exact .inr (.inl ⟨a,vs,n,q',rfl,rfl,SqT.of f1,rW f2 hx f3,q v q' ev (ch.snoc (.tup f1 f2 f3 f4))⟩)⟩
theorem DZ(hs:PlainIx e2)(h:PDp X e i ps)(h2:PX X e2 (fun _=>some (.int k))):PDp X (.Subscript e e2 pos) i (.ix k::ps) :=
 BC hs (fun {b F σ H ρ τ θ x n} R hk=>by
  obtain⟨xs,e1,hk⟩:=bnd hk
  exact⟨k,rfl,(yB e1).imp (fun e=>⟨xs,e,hk⟩) fun e=>⟨xs,e,hk⟩⟩) h h2
theorem Rel.keyS{b:Bs}{F:List Fr}{σ:St}{H:Hp}{ρ:DEnv}{τ:List V}{θ:List OR}{d:PyData}{k:Key}(R:Rel b F σ H ρ τ θ)(e:ρ[j]?.join=some (.fz d))(hk:keyOf d=some k):σ[j]?.join=some (kV k):=by
 obtain⟨v,ev,w⟩:=R.slot (join_some e)
 have hv:=w.dt (d:=d) rfl
 rw[ev]
 cases d<;>cases hk<;>cases hv<;>rfl
theorem nq{k:Key}:∀{ws:List (Key × V)} {n:Nat} {w:V},(ws.map (·.1)).findIdx? (fun q=>decide (q=k))=some n->(ws[n]?).map (·.2)=some w->valV ws k=some w
 | [],_,_,e,_=>by simp at e
 | (g,q)::ws,n,w,e,h=>by
  rw[List.map_cons,List.findIdx?_cons]at e
  by_cases hg:g=k
  ·subst hg
   simp at e
   subst e
   simp at h
   subst h
   exact eP rfl
  ·simp[hg]at e
   obtain⟨k',e1,e2⟩:=e
   subst e2
   have e3:(ws.map (·.1)).findIdx? (fun q=>decide (q=k))=some k':=by rw[List.findIdx?_map];exact e1
   have:=nq e3 (by simpa using h)
   simp only[valV]at this ⊢
   rw[List.find?_cons]
   simp only[hg,decide_false]
   exact this
theorem BD(hu:X.A.units + 1 < cLine)(hs:NoSl e2):PDp X e i ps->PX X e2 (fun σ=>σ[j]?.join)->PDp X (.Subscript e e2 pos) i (.key j::ps)
 | ⟨te,h,s⟩,⟨_,h2,s2⟩=>⟨_,uB hu h h2 hs,fun b F σ H ρ τ θ Q p hK R hp q=>by
  obtain⟨r,e1,hp⟩:=bnd hp
  obtain⟨k,e2,hp⟩:=bnd hp
  obtain⟨z,e3,hp⟩:=bnd hp
  cases hp
  refine s b F σ H ρ τ θ _ r hK R e1 fun v u ev ch=>?_
  obtain⟨h1,h2⟩:=path_at e1
  obtain⟨v',ev',w⟩:=R.slot (join_some h1)
  rw[ev]at ev'
  cases ev'
  obtain⟨q',cd⟩:=w.kidAt h2 ch e3
  obtain⟨r1,r2,r3⟩:=r
  simp only at *
  obtain⟨y,e0,e2⟩:=bnd e2
  obtain⟨d,g1,e2⟩:=bnd e2
  obtain⟨uu,g2,e2⟩:=bnd e2
  obtain⟨kk,e4,e2⟩:=bnd e2
  rw[cy g1]at e0
  refine s2 σ H _ _ (R.keyS e0 e4) ?_
  cases cd with
  | @dic a ws _ _ _ _ _ f1 f2 f5 f3 f4 =>
   cases g2
   refine⟨a,q',rfl,?_,q v q' ev (ch.snoc (.dic f1 f2 f5 f3 f4))⟩
   have:=DGet.k (k:=kk) f1
   rw[nq (by rw[f2];exact e2) f3]at this
   exact this
  | _=>cases g2⟩
end
section
variable{b:Bs}{F:List Fr}{σ:St}{H H':Hp}{ρ:DEnv}{τ us:List V}{θ:List OR}{v u:V}{i:Nat}{ps:List Acc}{p:OD × List Nat × OD}{d:PyData}
theorem Rel.part(R:Rel b F σ H ρ τ θ)(e:ah ρ i ps=some p)(ev:σ[i]?=some (some v))(ch:Chn b H v p.1 p.2.1 u p.2.2)(ed:p.2.2.dat=some d):Rel b F σ H (ρ.set i (some (OD.put (.fz d) p.2.1 p.1))) (u::τ) (.val (.fz d)::θ):=by
 obtain⟨h1,h2⟩:=path_at e
 obtain⟨v',ev',w⟩:=R.slot (join_some h1)
 rw[ev]at ev'
 cases ev'
 obtain⟨u',ch',w2⟩:=w.frzAt h2 ed
 obtain⟨e1,_⟩:=Chn.det ch ch'
 subst e1
 exact Rel.back (τ:=u::τ) (θ:=.val (.fz d)::θ) R.wf R.al R.wff ev (w2.perm (List.Perm.swap _ _ _))
theorem Rel.partF(R:Rel b F σ H ρ τ θ)(e:ah ρ i ps=some p)(ev:σ[i]?=some (some v))(ch:Chn b H v p.1 p.2.1 u p.2.2)(ed:p.2.2=.fz d):Rel b F σ H ρ (u::τ) (.val (.fz d)::θ):=by
 obtain⟨h1,h2⟩:=path_at e
 have:=R.part e ev ch (d:=d) (by rw[ed];rfl)
 rw[<- ed,OD.put_self h2,set_self (join_some h1)]at this
 rw[ed]at this
 exact this
theorem Rel.partD(R:Rel b F σ H ρ τ θ)(e:ah ρ i ps=some p)(ev:σ[i]?=some (some v))(ch:Chn b H v p.1 p.2.1 u p.2.2)(ed:p.2.2.dat=some d):Dt b.K H u d:=(R.part e ev ch ed).dt rfl
end
end
section
section
variable{X:Cx}{C:Ct}{a e e2:Expr}{es:List Expr}{ma mb:E}{mes:Es}{pos p p1 p2:Pos}{x:Str}{i j:Nat}{ps:List Acc}{k:Int}
theorem D0:PDp X e i ps->PDe X e (aF C (.pg i ps))
 | ⟨te,h,s⟩=>⟨te,h,fun b F σ H ρ τ θ Qd Q hK R ⟨y,h,q⟩ k=>by
  obtain⟨r,e1,h⟩:=bnd h
  refine s b F σ H ρ τ θ _ r hK R e1 fun v u ev ch=>?_
  obtain⟨d,ed,h⟩:=bnd h
  cases h
  exact k u H _ _ (R.partF e1 ev ch (cy ed)) q⟩
theorem D1:PDp X e i ps->PDe X e (aF C (.pf i ps))
 | ⟨te,h,s⟩=>⟨te,h,fun b F σ H ρ τ θ Qd Q hK R ⟨y,h,q⟩ k=>by
  obtain⟨r,e1,h⟩:=bnd h
  obtain⟨d,e2,h⟩:=bnd h
  cases h
  exact s b F σ H ρ τ θ _ r hK R e1 fun v u ev ch=>k u H _ _ (R.part e1 ev ch e2) q⟩
theorem D2 (hg:Gl X "len") (hm:X.mg "len"=none) (he:isStar e=false):PDp X e i ps->PDe X (.Call (.Name "len" p) [e] [] pos) (aF C (.pl i ps))
 | ⟨te,h,s⟩=>⟨_,b9 kf hg hm lJ (aK h aZ (ar he)) (by decide) (by decide) (ar he) (bh rfl),fun b F σ H ρ τ θ Qd Q hK R ⟨y,h,q⟩ k=>by
  obtain⟨r,e1,h⟩:=bnd h
  obtain⟨d,e2,h⟩:=bnd h
  obtain⟨n,e3,h⟩:=bnd h
  cases h
  refine s b F σ H ρ τ θ _ r hK R e1 fun v u ev ch=>?_
  refine sc_len (K:=X.K) H [u] [d] (fun d=>d=.int n) _ (.cons (hK ▸ R.partD e1 ev ch e2) .nil) ⟨d,n,rfl,e3,rfl⟩ fun w d' sc hd=>?_
  subst hd
  exact k w H _ _ (R.sc sc) q⟩
theorem D3(he:plainT e=true):PDp X e i ps->PDt X e (gF C (.pt i ps))
 | ⟨te,h,s⟩=>⟨_,kc h (plainT_ok he),fun b F σ H ρ τ θ Qd Q hK R ⟨y,h,q⟩ k=>by
  obtain⟨r,e1,h⟩:=bnd h
  obtain⟨d,e2,h⟩:=bnd h
  obtain⟨t,e3,h⟩:=bnd h
  cases h
  refine s b F σ H ρ τ θ _ r hK R e1 fun v u ev ch=>?_
  exact⟨t,ni (hK ▸ R.partD e1 ev ch e2) e3,k _ _ _ R q⟩⟩
theorem vj{m:E}(hm:bf C m=(vt (ev C m)).2)(hb:∀ρ x,ev C m ρ=some x->∃k,x.1=.val (.fz (.bool k))):∀ρ Q,gF C m ρ Q->gj (aF C m) ρ Q:=fun ρ Q ⟨y,h,q⟩=>by
 have h':((ev C m ρ).bind fun x=>(aN x.2 x.1).bind fun d=>(kC d).bind fun k=>some (k,x.2))=some y:=by rw[<- h,hm];rfl
 obtain⟨z,e1,h'⟩:=bnd h'
 obtain⟨k,ek⟩:=hb ρ z e1
 rw[ek]at h'
 cases h'
 exact⟨z,e1,k,by rw[ek];rfl,q⟩
theorem SndT.imp{K:PySem.W.Frag}{te:TT}{d d':DT}(s:SndT K te d)(f:∀ρ Q,d' ρ Q->d ρ Q):SndT K te d':=fun b F σ H ρ τ θ Qd Q hK R hd q=>s b F σ H ρ τ θ Qd Q hK R (f _ _ hd) q
theorem rX{neg:Bool}(hu:X.A.units + 64 < cLine)(hm:behindInMarks (coOf (if neg then .nin else .inn)) e=false):PDe X a (aF C ma)->PDp X e i ps->PDe X (.Compare a [coOf (if neg then .nin else .inn)] [e] pos) (aF C (.pin neg ma i ps))/\PDt X (.Compare a [coOf (if neg then .nin else .inn)] [e] pos) (gF C (.pin neg ma i ps))
 | ⟨ta,h1,s1⟩,⟨te,h,s⟩=>by
  obtain⟨r2,ho,hr⟩:=rQ hu (if neg then .nin else .inn)
  have S:dA X.K (wc r2 ta te) (aF C (.pin neg ma i ps)):=by
   refine fun b F σ H ρ τ θ Qd Q hK R ⟨y,h,q⟩ k=>?_
   obtain⟨z,e0,h⟩:=bnd h
   obtain⟨dx,e1,h⟩:=bnd h
   obtain⟨r,e2,h⟩:=bnd h
   obtain⟨d,e3,h⟩:=bnd h
   obtain⟨t,e4,h⟩:=bnd h
   cases h
   refine s1 b F σ H ρ τ θ (fun r ρ'=>r=z.1/\ρ'=z.2) _ hK R ⟨z,e0,rfl,rfl⟩ fun v H' r' ρ' R' hZ=>?_
   obtain⟨h1,h2⟩:=hZ
   subst h1 h2
   refine s b F σ H' _ _ _ _ r hK R' e2 fun v' u ev ch=>?_
   refine hr H' v u dx d (fun d=>d=.bool t) _ (hK ▸ R'.dt e1) (hK ▸ R'.partD e2 ev ch e3) ⟨t,e4,rfl⟩ fun w d' sc hd=>?_
   subst hd
   exact k w H' _ _ (R'.drop.sc sc) q
  refine⟨⟨_,jh ho h1 h hm,S⟩,⟨_,ji ho h1 h hm,(gY S).imp (vj rfl fun ρ x h=>?_)⟩⟩
  obtain⟨z,e0,h⟩:=bnd h
  obtain⟨dx,e1,h⟩:=bnd h
  obtain⟨r,e2,h⟩:=bnd h
  obtain⟨d,e3,h⟩:=bnd h
  obtain⟨t,e4,h⟩:=bnd h
  cases h
  exact⟨t,rfl⟩
end
def D4(K:PySem.W.Frag)(te:TE)(f:DEnv->Option PyData):Prop:=∀(b:Bs) (F:List Fr) (σ:St) (H:Hp) (ρ:DEnv) (τ:List V) (θ:List OR) (Q:VK) (d:PyData),b.K=K->Rel b F σ H ρ τ θ->f ρ=some d->(∀v H',Ext H H'->Rel b F σ H' ρ (v::τ) (.val (.fz d)::θ)->Q v H')->te σ H Q
inductive PDq (X:Cx)(e:Expr)(f:DEnv->Option PyData):Prop | mk (te:TE) (h:PE X e te) (s:D4 X.K te f)
def BE(K:PySem.W.Frag)(te:TA)(f:DEnv->Option (List PyData)):Prop:=∀(b:Bs) (F:List Fr) (σ:St) (H:Hp) (ρ:DEnv) (τ:List V) (θ:List OR) (Q:List V->Hp->Prop) (ds:List PyData),b.K=K->Rel b F σ H ρ τ θ->f ρ=some ds->(∀vs H',Ext H H'->vs.length=ds.length->Rel b F σ H' ρ (vs++τ) (ds.map (fun d=>OR.val (.fz d))++θ)->Q vs H')->te σ H Q
inductive PDqs (X:Cx)(es:List Expr)(f:DEnv->Option (List PyData)):Prop | mk (te:TA) (h:PA X es te) (s:BE X.K te f)
section
variable{X:Cx}{C:Ct}{a e e2:Expr}{es:List Expr}{ma mb:E}{mes:Es}{pos p p1 p2:Pos}{x:Str}{i j:Nat}{ps:List Acc}{k:Int}
theorem D5 (hN:X.N[i]?=some x) (hv:Vis X.env.scope x) (hd:(x == ("__debug__":Str))=false) (hcd:(x == ("__classdict__":Str))=false):PDq X (.Name x pos) (iI C (.nm i)) :=
 ⟨_,aX hN hv hd hcd,fun b F σ H ρ τ θ Q d hK R h q=>by
  obtain⟨x0,e0,h⟩:=bnd h
  rw[cy h]at e0
  obtain⟨v,ev⟩:=R.wf.get (join_some e0)
  exact⟨v,ev,q v H (.refl H) (R.dupS (join_some e0) ev)⟩⟩
theorem BF{j:Nat}:PDq X (.Constant (.int k) j pos) (iI C (.int k)):=⟨_,gK,fun b F σ H ρ τ θ Q d hK R h q=>by
  cases h
  exact q _ H (.refl H) (R.sc (.int k))⟩
theorem D6:PDp X e i ps->PDq X e (iI C (.pg i ps))
 | ⟨te,h,s⟩=>⟨te,h,fun b F σ H ρ τ θ Q d hK R h q=>by
  obtain⟨r,e1,h⟩:=bnd h
  refine s b F σ H ρ τ θ _ r hK R e1 fun v u ev ch=>?_
  exact q u H (.refl H) (R.partF e1 ev ch (cy h))⟩
theorem D7(hs:PlainIx e2):PDq X e (iI C ma)->PDq X e2 (iI C mb)->PDq X (.Subscript e e2 pos) (iI C (.ix ma mb))
 | ⟨_,h1,s1⟩,⟨_,h2,s2⟩=>⟨_,qy lA h1 h2 hs,fun b F σ H ρ τ θ Q d hK R h q=>by
  obtain⟨dx,e1,h⟩:=bnd h
  obtain⟨dy,e2,h⟩:=bnd h
  refine s1 b F σ H ρ τ θ _ dx hK R e1 fun v H1 E1 R1=>s2 b F σ H1 ρ _ _ _ dy hK R1 e2 fun u H2 E2 R2=>?_
  have w:=R2.drop2.drop
  have go:∀(l:Bool) (ds:List PyData) (n:Int),dx=(if l then .list ds else .tuple ds)->dy=.int n->atI ds n=some d->wc (Eu X.K) (fun _ _ Q=>Q v H2) (fun _ _ Q=>Q u H2) σ H Q:=fun l ds n hx hy ha=>by
   subst hx hy
   have hu:=R2.dt (d:=.int n) rfl
   cases hu
   obtain⟨pp,vs,u',rfl,hsq,hat,w2⟩:=Wd.itemF (l:=l) R2.drop.wd ha
   have hR:Rel b F σ H2 ρ (u'::τ) (.val (.fz d)::θ):=Rel.push R2.drop.drop w2
   rcases hsq with z | z
   ·exact .inl ⟨pp,vs,n,u',rfl,rfl,hK ▸ z,hat,q u' H2 (E1.trans E2) hR⟩
   ·exact .inr (.inl ⟨pp,vs,n,u',rfl,rfl,hK ▸ z,hat,q u' H2 (E1.trans E2) hR⟩)
  obtain⟨ds,f1,h⟩:=bnd h
  obtain⟨n,f2,h⟩:=bnd h
  rcases jE f1 with f1 | f1
  ·exact go true ds n f1 (aP f2) h
  ·exact go false ds n f1 (aP f2) h⟩
theorem yP:PDqs X [] (lU C .nil):=⟨_,aZ,fun b F σ H ρ τ θ Q d hK R h q=>by
 cases h
 exact q [] H (.refl H) rfl R⟩
theorem vk(hs:isStar e=false):PDq X e (iI C ma)->PDqs X es (lU C mes)->PDqs X (e::es) (lU C (.cons ma mes))
 | ⟨_,h1,s1⟩,⟨_,h2,s2⟩=>⟨_,aK h1 h2 (ar hs),fun b F σ H ρ τ θ Q d hK R h q=>by
  obtain⟨dx,e1,h⟩:=bnd h
  obtain⟨dy,e2,h⟩:=bnd h
  cases h
  refine s1 b F σ H ρ τ θ _ dx hK R e1 fun v H1 E1 R1=>s2 b F σ H1 ρ _ _ _ dy hK R1 e2 fun vs H2 E2 el R2=>q (v::vs) H2 (E1.trans E2) (by simp[el]) ?_
  exact Rel.rot R2 (by simp[el])⟩
theorem BG{x1}:PDqs X es (lU C mes)->PDq X (.Tuple es x1 pos) (iI C (.tup mes))
 | ⟨_,h1,s1⟩=>⟨_,gT h1,fun b F σ H ρ τ θ Q d hK R h q=>by
  obtain⟨ds,e1,h⟩:=bnd h
  obtain⟨_,hz,h⟩:=bnd h
  have hz:=gd_ok hz
  ·cases h
   refine s1 b F σ H ρ τ θ _ ds hK R e1 fun vs H1 E1 el R1=>⟨Nat.le_trans (by omega:_≤1000000) (by decide),fun p hp=>q _ _ (E1.trans (.upd hp)) ?_⟩
   have e2:ds.map (fun d=>OR.val (.fz d))=(ds.map OD.fz).map OR.val:=by simp
   rw[e2]at R1
   have w:=R1.vals (by simpa using el)
   have w2:=ku w (by simpa using el) hp
   have e3:mkTup (ds.map OD.fz)=.fz (.tuple ds):=by simp only[mkTup,fL]
   rw[e3]at w2
   exact Rel.push (R1.drops (by simpa using el)) w2⟩
end
theorem nv:∀{vs:List Value} {ns:List Int},vs.length=ns.length->(∀(j:Nat) (v:Value) (n:Int),vs[j]?=some v->ns[j]?=some n->∃t,v=.int n t)->IntsAre vs ns
 | [],[],_,_=>.nil
 | v::vs,n::ns,e,h=>by
  obtain⟨t,rfl⟩:=h 0 v n rfl rfl
  exact .cons n t (nv (by simpa using e) fun j v n a b=>h (j + 1) v n a b)
theorem rY:∀{kvs:List (Key × V)} {vs:List (Key × Value)},KV kvs vs->vs.map (·.1)=kvs.map (·.1)
 | _,_,.nil=>rfl
 | _,_,.cons r t=>by rw[List.map_cons,List.map_cons,rY t,r.1]
section
variable{X:Cx}
theorem lX(hc:X.calm=true):bo X (.builtin "sorted") (fun xs H Q=>∃(p:Addr) (kvs:List (Key × V)) (ns:List Int),xs=[.ref p]/\H p=some (.dK kvs)/\kvs.map (·.1)=ns.map Sum.inl/\ns.length < 64/\∀(ns':List Int) (a:Addr),ns'.Perm ns->ns'.Pairwise (·≤·)->H a=none->Q (.ref a) (upd H a (.lst (ns'.map V.int)))):=by
 intro pins s σ H xs us Q I r h
 obtain⟨p,kvs,ns,rfl,hp,hk,hl,q⟩:=h
 obtain⟨u,rfl,rx⟩:=vals1 r
 cases rx
 obtain⟨hz,lo,vs,kv,hD⟩:=I.hok p _ hp
 obtain⟨ep,hat⟩:=hD.dictAt
 have ek:=(rY kv).trans hk
 have kl:kvs.length=vs.length:=Paired.length kv
 have kn:kvs.length=ns.length:=by have:=congrArg List.length hk;simpa using this
 refine Calls.call_function_entry kind_sorted plain_sorted entry_sorted (args_sorted1 _) ?_
 unfold Builtin.«sorted»
 refine wpAny_bind (m:=checkCount "sorted" 1 1 _) (wpAny_pure (wpAny_bind (PySem.W.kdu_collect (A:=X.A.in1) (PySem.W.kdl_dict (knd:=aT X.prog X.w) (kvs:=vs) (ep:=ep) lo) (I.ok.hd hc) hat (by rw[<- kl];exact hz) fun h' tk acc hk' hacc=>?_)))
 have al:acc.toList.length=ns.length:=by rw[Array.length_toList,hacc.1,<- kl,kn]
 have hI:IntsAre acc.toList ns:=nv al fun j v n hv hn=>by
  obtain⟨k,x,hx,hi⟩:=hacc.2 j v (by rw[<- Array.getElem?_toList];exact hv)
  have e:(vs.map (·.1))[j]?=some k:=by rw[List.getElem?_map,hx];rfl
  rw[ek,List.getElem?_map,hn]at e
  cases e
  rcases aL (k:=.inl n) (v:=v) hi with ⟨i,t,e1,e2⟩ | ⟨y,t,e1,_⟩
  ·cases e1;exact⟨t,e2⟩
  ·cases e1
 have sl:64≤sizeLine:=by decide
 refine wpAny_bind (wpAny_newList ?_ (by rw[al];omega))
 have hoL:(h'.push (seqObj "list" acc.toList.toArray 0)).get? h'.objs.size=some (seqObj "list" acc.toList.toArray 0):=Heap.get?_push_size _ rfl
 refine wpAny_bind (wpAny_holding (wpAny_call_entry slot_list_sort ⟨_,hoL,rfl⟩ entry_list_sort (list_sort_tree hoL hI (by omega) fun out ns' a1 a2 a3=>⟨_,rfl,wpAny_pure ⟨_,rfl,?_⟩⟩) (args_list_sort _)))
 obtain⟨e,he⟩:=sortedHeap_at (out:=out) hoL
 have I1:Inv X pins σ H { s with heap:=h',toks:=tk }:=I.kept hk'
 refine⟨.ref _,_,I1.laid (t':=tk) (a:=h'.objs.size) (o:=.lst (ns'.map V.int)) (fun b u hu=>?_) (Nat.le_refl _) ⟨?_,out.toList,e,vals_ints a1,he⟩,rfl,q ns' _ a2 a3 (I1.hok.fresh (Nat.le_refl _))⟩
 ·have hlt:=Heap.lt_size hu
  rw[sortedHeap_old (Nat.ne_of_lt hlt) (by rw[size_push'];exact Nat.lt_succ_of_lt hlt),Heap.get?_push_ne _ _ _ (Nat.ne_of_lt hlt)]
  exact hu
 ·rw[List.length_map,a2.length_eq];omega
end
theorem kJ:∀{ks:List Key} {ns:List Int},kD ks=some ns->ks=ns.map Sum.inl
 | [],ns,h=>by cases h;rfl
 | .inl i::ks,ns,h=>by
  obtain⟨r,e,h⟩:=bnd h
  cases h
  rw[kJ e];rfl
 | .inr _::_,_,h=>by cases h
section
variable{X:Cx}{C:Ct}{x:Str}{p p1 pos:Pos}{i:Nat}
theorem BH (hc:X.calm=true) (hg:Gl X "sorted") (hm:X.mg "sorted"=none) (hN:X.N[i]?=some x) (hv:Vis X.env.scope x) (hd:(x == ("__debug__":Str))=false) (hcd:(x == ("__classdict__":Str))=false):PDe X (.Call (.Name "sorted" p) [.Name x p1] [] pos) (aF C (.sdd i)):=by
 refine⟨_,b9 (lX hc) hg hm iU (aK (aX hN hv hd hcd) aZ (ar rfl)) (by decide) (by decide) (ar rfl) rfl,fun b F σ H ρ τ θ Qd Q hK R ⟨y,h,q⟩ k=>?_⟩
 obtain⟨x0,e0,h⟩:=bnd h
 obtain⟨z,e1,h⟩:=bnd h
 obtain⟨ns,e2,h⟩:=bnd h
 obtain⟨_,hl,h⟩:=bnd h
 cases h
 rw[lQ e1]at e0
 obtain⟨v,ev,w⟩:=Rel.open (us:=[]) (zs:=[]) R rfl e0
 obtain⟨l,ws,ch,hH,hks,_,_⟩:=w.mutD (ks:=[]) rfl rfl
 cases ch
 refine⟨_,ev,l,ws,ns,rfl,hH,by rw[hks];exact kJ e2,gd_ok hl,fun ns' a p1 p2 hp=>?_⟩
 have:ns'=sortI ns:=eU (p1.trans (sortI_perm ns).symm) p2 (dX ns)
 subst this
 refine k _ _ _ _ (R.push ?_) q
 have w:=R.wd.adds (vs:=(sortI ns).map V.int) (ds:=(sortI ns).map PyData.int) fun S _=>FzA.ints _
 have:=Wd.newLst w (by simp) hp
 rw[List.map_map]at this
 exact this
end
section
variable{X:Cx}{C:Ct}{x:Str}{p p1 pos:Pos}{i:Nat}
theorem rZ(hu:X.A.units + 64 < cLine):OpR X (compareOp .NotEq) (fun x y H Q=>∃p q xs,x=.ref p/\y=.ref q/\SqL X.K H p xs/\SqL X.K H q []/\Q (.bl (!xs.isEmpty)) H):=by
 intro pins s σ H x y v u Q I rx ry h
 obtain⟨p,q,xs,rfl,rfl,h1,h2,k⟩:=h
 cases rx
 cases ry
 obtain⟨its,r1,l1,_⟩:=I.list h1
 obtain⟨its2,r2,l2,_⟩:=I.list h2
 cases r2
 have hl:=r1.length
 cases xs with
 | nil =>
  obtain rfl:its=[]:=List.length_eq_zero_iff.mp hl.symm
  exact SeqAt.RcNeAt.lists (e:=fun _=>true) l1.isList l2.isList rfl (by omega) (fun j h=>absurd h (Nat.not_lt_zero _)) X.prog X.w _ _ ⟨.bl false,H,I,rfl,k⟩
 | cons z zs =>
  exact SeqAt.RcNeAt.lists_lengths l1.isList l2.isList (by rw[List.size_toArray,<- hl];rfl) (by omega) X.prog X.w _ _ ⟨.bl true,H,I,rfl,k⟩
theorem Rel.lsAt{b:Bs}{F:List Fr}{σ:St}{H:Hp}{ρ:DEnv}{τ:List V}{θ:List OR}{xs:List OD}(R:Rel b F σ H ρ τ θ)(e:ρ[i]?.join=some (.lst xs)):∃l vs,σ[i]?=some (some (.ref l))/\H l=some (.lst vs)/\vs.length=xs.length:=by
 obtain⟨v,ev,w⟩:=Rel.open (us:=[]) (zs:=[]) R rfl e
 obtain⟨l,vs,ch,hH,hl,_⟩:=w.mutL (ks:=[]) rfl rfl
 cases ch
 exact⟨l,vs,ev,hH,hl⟩
theorem D8 (hg:Gl X "len") (hm:X.mg "len"=none) (hN:X.N[i]?=some x) (hv:Vis X.env.scope x) (hd:(x == ("__debug__":Str))=false) (hcd:(x == ("__classdict__":Str))=false):PDe X (.Call (.Name "len" p) [.Name x p1] [] pos) (aF C (.ln i)):=by
 refine⟨_,b9 jo hg hm lJ (aK (aX hN hv hd hcd) aZ (ar rfl)) (by decide) (by decide) (ar rfl) rfl,fun b F σ H ρ τ θ Qd Q hK R ⟨y,h,q⟩ k=>?_⟩
 obtain⟨x0,e0,h⟩:=bnd h
 obtain⟨xs,e1,h⟩:=bnd h
 cases h
 rw[cP e1]at e0
 obtain⟨l,vs,ev,hH,hl⟩:=R.lsAt e0
 exact⟨_,ev,l,vs,rfl,.inl (SqL.of hH),by rw[hl];exact k _ H _ _ (R.sc (.int _)) q⟩
theorem ny{K:PySem.W.Frag}:dA K (wc (fun x y H Q=>∃p q xs,x=.ref p/\y=.ref q/\SqL K H p xs/\SqL K H q []/\Q (.bl (!xs.isEmpty)) H) (tVar i) (Ah tNil)) (aF C (.nen i)):=fun b F σ H ρ τ θ Qd Q hK R ⟨y,h,q⟩ k=>by
 obtain⟨x0,e0,h⟩:=bnd h
 obtain⟨xs,e1,h⟩:=bnd h
 cases h
 rw[cP e1]at e0
 obtain⟨l,vs,ev,hH,hl⟩:=R.lsAt e0
 refine⟨_,ev,Nat.zero_le _,fun l2 h2=>⟨l,l2,vs,rfl,rfl,SqL.of (by rw[upd_ne (ak hH h2)];exact hH),SqL.of aj,?_⟩⟩
 have:vs.isEmpty=xs.isEmpty:=by rw[Bool.eq_iff_iff,List.isEmpty_iff,List.isEmpty_iff,<- List.length_eq_zero_iff,<- List.length_eq_zero_iff,hl]
 rw[this]
 have R2:Rel b F σ (upd H l2 (.lst [])) ρ τ θ:=⟨R.wf,R.al,R.wff,R.wd.new h2⟩
 exact k _ _ _ _ (R2.sc (.bl _)) q
theorem BI (hu:X.A.units + 64 < cLine) (hN:X.N[i]?=some x) (hv:Vis X.env.scope x) (hd:(x == ("__debug__":Str))=false) (hcd:(x == ("__classdict__":Str))=false):PDe X (.Compare (.Name x p) [.NotEq] [.List [] p1] pos) (aF C (.nen i)):=⟨_,jh (rZ hu) (aX hN hv hd hcd) (jl aZ) (nobehind _ (by decide) (by decide)),ny⟩
theorem BJ (hu:X.A.units + 64 < cLine) (hN:X.N[i]?=some x) (hv:Vis X.env.scope x) (hd:(x == ("__debug__":Str))=false) (hcd:(x == ("__classdict__":Str))=false):PDt X (.Compare (.Name x p) [.NotEq] [.List [] p1] pos) (gF C (.nen i)):=by
 refine PDt.imp (d:=gj (aF C (.nen i))) ⟨_,ji (rZ hu) (aX hN hv hd hcd) (jl aZ) (nobehind _ (by decide) (by decide)),gY ny⟩ fun ρ Q ⟨y,h,q⟩=>?_
 obtain⟨z,h,h'⟩:=bnd h
 have h0:=h
 obtain⟨x0,e0,h⟩:=bnd h
 obtain⟨xs,e1,h⟩:=bnd h
 cases h
 cases h'
 exact⟨_,h0,_,rfl,q⟩
end
end
section
section
variable{b:Bs}{S:Addr->Prop}{H:Hp}{vs us:List V}{xs zs:List OD}{A B C:List Addr}{v:V}{z:OD}
theorem Ows.addA(nt:∀c xs,H c=some (.tup xs)->¬ S c)(h1:Ows b S H vs xs A)(h2:Ows b S H us zs C)(nd:(A++C).Nodup):∃D,Ows b S H (vs++us) (xs++zs) D/\D.Nodup/\∀c∈D,c∈A\/c∈C:=⟨A++C,Ows.append h1 h2,nd,fun c hc=>List.mem_append.mp hc⟩
theorem Ows.one(h:Ows b S H [v] [z] C):Ow b S H v z C:=by
 cases h with
 | cons r t=>cases t;rw[List.append_nil];exact r
theorem Ows.setA{j:Nat}(hj:j < xs.length)(h1:Ows b S H vs xs A)(h2:Ows b S H [v] [z] C)(nd:(A++C).Nodup):∃D,Ows b S H (vs.set j v) (xs.set j z) D/\D.Nodup/\∀c∈D,c∈A\/c∈C:=by
 obtain⟨q,A1,B,A2,e1,rfl,e3,e4⟩:=h1.zip (k:=j) (List.getElem?_eq_getElem hj)
 refine⟨A1++(C++A2),e4 h2.one fun _ h=>h,?_,fun c hc=>?_⟩
 ·have p:((A1++(B++A2))++C).Perm (B++(A1++(C++A2))):=by
   refine ((bM A1 B A2).append_right C).trans ?_
   rw[List.append_assoc]
   refine List.Perm.append_left B ?_
   rw[List.append_assoc]
   exact List.Perm.append_left A1 List.perm_append_comm
  exact (List.nodup_append.mp (p.nodup_iff.mp nd)).2.1
 ·simp only[List.mem_append]at hc ⊢
  rcases hc with hc | hc | hc
  ·exact .inl (.inl hc)
  ·exact .inr hc
  ·exact .inl (.inr (.inr hc))
theorem jH{f:Str}:∀{fs:List (Str × V)} {xs:List OD},fs.length=xs.length->(bZ f v fs).map (·.1)=(bp f z (fs.map (·.1)) xs).1
 | [],[],_=>rfl
 | (g,q)::fs,x::xs,e=>by
  simp only[bZ,bp,List.map_cons]
  by_cases hg:g=f
  ·rw[if_pos hg,if_pos hg];rfl
  ·rw[if_neg hg,if_neg hg,List.map_cons,jH (fs:=fs) (xs:=xs) (by simpa using e)]
 | [],_::_,e=>by simp at e
 | _::_,[],e=>by simp at e
theorem ic{f:Str}:∀{fs:List (Str × V)} {xs:List OD} {A:List Addr},Ows b S H (fs.map (·.2)) xs A->Ow b S H v z C->(A++C).Nodup->∃D,Ows b S H ((bZ f v fs).map (·.2)) (bp f z (fs.map (·.1)) xs).2 D/\D.Nodup/\∀c∈D,c∈A\/c∈C
 | [],_,_,.nil,h2,nd=>⟨C++[],.cons h2 .nil,by simpa using nd,fun c hc=>.inr (by simpa using hc)⟩
 | (g,q)::fs,x::xs,_,.cons (A:=A1) (B:=A2) r t,h2,nd=>by
  simp only[bZ,bp,List.map_cons]
  by_cases hg:g=f
  ·rw[if_pos hg,if_pos hg]
   refine⟨C++A2,.cons h2 t,?_,fun c hc=>?_⟩
   ·rw[List.append_assoc]at nd
    exact (List.perm_append_comm.nodup_iff.mp (List.nodup_append.mp nd).2.1)
   ·rcases List.mem_append.mp hc with h | h
    ·exact .inr h
    ·exact .inl (List.mem_append_right _ h)
  ·rw[if_neg hg,if_neg hg]
   rw[List.append_assoc]at nd
   obtain⟨n1,n2,n3⟩:=List.nodup_append.mp nd
   obtain⟨D,hD,nD,sD⟩:=ic (f:=f) t h2 n2
   refine⟨A1++D,.cons r hD,List.nodup_append.mpr ⟨n1,nD,fun c hc c' hc' e=>n3 c hc c' (List.mem_append.mpr (sD c' hc')) e⟩,fun c hc=>?_⟩
   rcases List.mem_append.mp hc with h | h
   ·exact .inl (List.mem_append_left _ h)
   ·exact (sD c h).imp (List.mem_append_right _) id
theorem nz{k:Key}{d:PyData}{ws:List (Key × V)}{xs:List OD}(e:ws.length=xs.length):(putK ws k v).map (·.1)=(bQ k d (ws.map (·.1)) xs).1:=by
 unfold putK bQ
 rw[List.any_map]
 have hh:((fun q=>decide (q=k)) ∘ fun x:Key × V=>x.1)=fun kv=>decide (kv.1=k):=rfl
 rw[hh]
 by_cases hk:(ws.any fun kv=>decide (kv.1=k))=true
 ·rw[if_pos hk,if_pos hk,List.map_map]
  refine List.map_congr_left fun q _=>?_
  simp only[Function.comp]
  split<;>rfl
 ·rw[if_neg hk,if_neg hk,List.map_append];rfl
theorem kK{k:Key}{d:PyData}(hv:Fz b.K S H v d):∀{ws:List (Key × V)} {xs:List OD} {A:List Addr},Ows b S H (ws.map (·.2)) xs A->∃D,Ows b S H ((ws.map (fun kv=>if kv.1=k then (kv.1,v) else kv)).map (·.2)) (List.zipWith (fun q x=>if q=k then .fz d else x) (ws.map (·.1)) xs) D/\D.Sublist A
 | [],_,_,.nil=>⟨[],.nil,List.Sublist.refl _⟩
 | (g,q)::ws,x::xs,_,.cons (A:=A1) (B:=A2) r t=>by
  obtain⟨D,hD,sD⟩:=kK hv t
  simp only[List.map_cons,List.zipWith_cons_cons]
  by_cases hg:g=k
  ·rw[if_pos hg,if_pos hg]
   exact⟨[]++D,.cons (.fz hv) hD,(List.nil_append D).symm ▸ sD.trans (List.sublist_append_right _ _)⟩
  ·rw[if_neg hg,if_neg hg]
   exact⟨A1++D,.cons r hD,(List.Sublist.refl A1).append sD⟩
theorem kL{k:Key}{d:PyData}{ws:List (Key × V)}(h1:Ows b S H (ws.map (·.2)) xs A)(h2:Ows b S H [v] [.fz d] C)(nd:(A++C).Nodup):∃D,Ows b S H ((putK ws k v).map (·.2)) (bQ k d (ws.map (·.1)) xs).2 D/\D.Nodup/\∀c∈D,c∈A\/c∈C:=by
 have hf:Fz b.K S H v d:=by cases h2 with | cons r t=>cases r with | fz f=>exact f
 have nA:=(List.nodup_append.mp nd).1
 unfold putK bQ
 rw[List.any_map]
 have hh:((fun q=>decide (q=k)) ∘ fun x:Key × V=>x.1)=fun kv=>decide (kv.1=k):=rfl
 rw[hh]
 by_cases hk:(ws.any fun kv=>decide (kv.1=k))=true
 ·rw[if_pos hk,if_pos hk]
  obtain⟨D,hD,sD⟩:=kK hf h1 (k:=k)
  exact⟨D,hD,sD.nodup nA,fun c hc=>.inl (sD.subset hc)⟩
 ·rw[if_neg hk,if_neg hk,List.map_append]
  exact⟨A++[],Ows.append h1 (.cons (A:=[]) (.fz hf) .nil),by simpa using nA,fun c hc=>.inl (by simpa using hc)⟩
end
section
variable{X:Cx}{W:Nat->Prop}{m:Nat}{C:Ct}{a b c e e2 kx:Expr}{es:List Expr}{sts s1 s2:List Stmt}{st:Stmt}{ma mb mc mk':E}{mes:Es}{ms:S'}{mss ma' mb':Ss}{pos p p1 p2 p3 pos' apos cpos:Pos}{x:Str}{i j:Nat}{ps:List Acc}
theorem yQ{o i:Expr}{env:Env}(h:isSlice i=false):∀v,assign (.Subscript o i pos) env v=(do
   let ov <- holding [v] (eval o env)
   let iv <- holding [v,ov] (eval i env)
   standAt pos
   holding [v,ov,iv] (setItem ov iv v)
   release [v,ov,iv] []):=by
 cases i<;>first | (intro _;rfl) | cases h
theorem yR{env:Env}(h:isStar e=false):((backTo cpos (starEach [e] env)).all (fun x=>!x.1) && (backToKw cpos (keywordEach [] env)).all (fun x=>x.1.isSome)
   && decide ([e].length + ([]:List Keyword).length + (if ([]:List Keyword).isEmpty then 0 else 1) < 30))=true:=by
 cases e<;>first | rfl | cases h
theorem Rel.cell{b:Bs}{F:List Fr}{σ:St}{H:Hp}{ρ:DEnv}{τ:List V}{θ:List OR}{x:OD}{ks:List Nat}{xs:List OD}{v u:V}(R:Rel b F σ H ρ τ θ)(g1:ρ[i]?.join=some x)(g2:x.at ks=some (.lst xs))(ev:σ[i]?=some (some v))(ch:Chn b H v x ks u (.lst xs)):∃l vs,u=.ref l/\H l=some (.lst vs):=by
 obtain⟨v',ev',w0⟩:=R.slot (join_some g1)
 rw[ev]at ev'
 cases ev'
 obtain⟨l0,vs0,ch0,hH0,_,_⟩:=Wd.mutL (us:=[]) (zs:=[]) w0 rfl g2
 exact⟨l0,vs0,(Chn.det ch ch0).1,hH0⟩
theorem Rel.cell0{b:Bs}{F:List Fr}{σ:St}{H:Hp}{ρ:DEnv}{τ:List V}{θ:List OR}{xs:List OD}(R:Rel b F σ H ρ τ θ)(g1:ρ[i]?.join=some (.lst xs)):∃v,σ[i]?=some (some v)/\∃l vs,v=.ref l/\H l=some (.lst vs):=by
 obtain⟨v,ev⟩:=R.wf.get (join_some g1)
 exact⟨v,ev,R.cell (ks:=[]) g1 rfl ev .nil⟩
theorem Rel.addAt{b:Bs}{F:List Fr}{σ:St}{H:Hp}{ρ:DEnv}{τ:List V}{θ:List OR}{x o:OD}{ks:List Nat}{xs:List OD}{v v1:V}{l:Addr}(R:Rel b F σ H ρ (v1::τ) (.val o::θ))(g1:ρ[i]?.join=some x)(g2:x.at ks=some (.lst xs))(ev:σ[i]?=some (some v))(ch:Chn b H v x ks (.ref l) (.lst xs))(hz:xs.length < 1000000) :
  ∃vs,H l=some (.lst vs)/\vs.length < sizeLine/\Rel b F σ (upd H l (.lst (vs++[v1]))) (ρ.set i (some (OD.put (.lst (xs++[o])) ks x))) τ θ:=by
 obtain⟨v',ev',w⟩:=Rel.open (us:=[v1]) (zs:=[o]) R rfl g1
 rw[ev]at ev'
 cases ev'
 obtain⟨l',vs,ch',hH,hl,go⟩:=w.mutL rfl g2
 obtain⟨e6,_⟩:=Chn.det ch ch'
 cases e6
 exact⟨vs,hH,Nat.lt_of_lt_of_le (by omega) (by decide:1000001≤sizeLine),Rel.close (Rel.rest (us:=[v1]) (zs:=[o]) R rfl) ev (go (vs++[v1]) (xs++[o]) fun S H A C nt h1 h2 nd=>Ows.addA nt h1 h2 nd)⟩
theorem BK (hN:X.N[i]?=some x) (hv:Vis X.env.scope x) (hd:(x == ("__debug__":Str))=false) (hcd:(x == ("__classdict__":Str))=false) (hline:(apos.endLine == cpos.line)=true) (hs:isStar e=false) :
  PDe X e (aF C ma)->PDs X W (.Expr (.Call (.Attribute (.Name x pos') "append" apos) [e] [] cpos) pos) (gG C (.app i ma))
 | ⟨_,h,s⟩=>⟨_,gH (qA PySem.F.plainAttrs_list PySem.F.slot_list_append PySem.F.type_list_append dP (aX hN hv hd hcd) (aK h aZ (ar hs)) rfl (yR hs) hline (ar hs) (bh rfl)) rfl,fun b F σ H ρ τ θ Dd D hK n R ⟨y,h,q⟩ E=>by
  obtain⟨x0,e0,h⟩:=bnd h
  obtain⟨xs0,f0,h⟩:=bnd h
  obtain⟨z,e1,h⟩:=bnd h
  obtain⟨o,e2,h⟩:=bnd h
  obtain⟨x1,ex,h⟩:=bnd h
  obtain⟨xs,f1,h⟩:=bnd h
  obtain⟨_,hz,h⟩:=bnd h
  cases h
  rw[cP f0]at e0
  rw[cP f1]at ex
  obtain⟨v,ev,l0,vs0,rfl,hH0⟩:=R.cell0 e0
  refine⟨.ref l0,ev,.inl ⟨rfl,vs0,SqL.of hH0⟩,?_⟩
  refine s b F σ H ρ τ θ (fun r ρ'=>r=z.1/\ρ'=z.2) _ hK R ⟨z,e1,rfl,rfl⟩ fun v1 H1 r ρ1 R1 hZ=>?_
  obtain⟨h1,h2⟩:=hZ
  subst h1 h2
  obtain⟨vs,hH,hl,R3⟩:=Rel.addAt (R1.own1 e2) ex rfl ev .nil (gd_ok hz)
  exact⟨l0,vs,v1,rfl,rfl,hH,hl,E.nx σ _ _ R3 q⟩⟩
theorem BL (hb:attributeBase e "append" X.env (eval e X.env)=eval e X.env) (hline:(apos.endLine == cpos.line)=true) (hs:isStar a=false) :
  PDp X e i ps->PDq X a (iI C ma)->PDs X W (.Expr (.Call (.Attribute e "append" apos) [a] [] cpos) pos) (gG C (.apd i ps ma))
 | ⟨_,h0,s0⟩,⟨_,h,s⟩=>⟨_,gH (qA PySem.F.plainAttrs_list PySem.F.slot_list_append PySem.F.type_list_append dP h0 (aK h aZ (ar hs)) hb (yR hs) hline (ar hs) (bh rfl)) rfl,fun b F σ H ρ τ θ Dd D hK n R ⟨y,h,q⟩ E=>by
  obtain⟨r,e1,h⟩:=bnd h
  obtain⟨d,e2,h⟩:=bnd h
  obtain⟨xs,ex,h⟩:=bnd h
  obtain⟨_,hz,h⟩:=bnd h
  cases h
  obtain⟨g1,g2⟩:=path_at e1
  refine s0 b F σ H ρ τ θ _ r hK R e1 fun v u ev ch=>?_
  rw[cP ex]at g2 ch
  obtain⟨l0,vs0,rfl,hH0⟩:=R.cell g1 g2 ev ch
  refine⟨.inl ⟨rfl,vs0,SqL.of hH0⟩,s b F σ H ρ τ θ _ d hK R e2 fun v1 H1 E1 R1=>?_⟩
  obtain⟨vs,hH,hl,R3⟩:=Rel.addAt R1 g1 g2 ev (ch.ext E1) (gd_ok hz)
  exact⟨l0,vs,v1,rfl,rfl,hH,hl,E.nx σ _ _ R3 q⟩⟩
theorem Rel.moved{b:Bs}{F:List Fr}{σ:St}{H:Hp}{ρ:DEnv}{τ:List V}{θ:List OR}{y:OD}(R:Rel b F σ H ρ τ θ)(e:ρ[j]?.join=some y):∃v,σ[j]?=some (some v)/\Rel b F σ H (ρ.set j none) (v::τ) (.val y::θ):=by
 obtain⟨v,ev⟩:=R.wf.get (join_some e)
 have R0:Rel b F σ H ρ (v::τ) (.rf j::θ):=⟨R.wf,⟨ev,R.al⟩,R.wff,R.wd⟩
 obtain⟨_,_,w⟩:=R.slot (join_some e)
 rename_i v' ev'
 rw[ev]at ev'
 cases ev'
 exact⟨v,ev,⟨R.wf.off,R.al,R.wff,w⟩⟩
theorem BM (hN:X.N[i]?=some x) (hv:Vis X.env.scope x) (hd:(x == ("__debug__":Str))=false) (hcd:(x == ("__classdict__":Str))=false) (hk:isSlice kx=false) (hs:swapsWith e (some (.Subscript (.Name x pos') kx p2)) pos.line X.env=pure false) (hw:swappedStores [.Subscript (.Name x pos') kx p2] e X.env=pure none) :
  PDe X e (aF C ma)->PDe X kx (aF C mk')->PDs X W (.Assign [.Subscript (.Name x pos') kx p2] e pos) (gG C (.sti i mk' ma))
 | ⟨_,h1,s1⟩,⟨_,h2,s2⟩=>⟨_,ll h1 (xo (aX hN hv hd hcd) h2 set_list (yQ hk)) hs hw rfl,fun b F σ H ρ τ θ Dd D hK n R ⟨y,h,q⟩ E=>by
  obtain⟨z,e1,h⟩:=bnd h
  obtain⟨o,e2,h⟩:=bnd h
  refine s1 b F σ H ρ τ θ (fun r ρ'=>r=z.1/\ρ'=z.2) _ hK R ⟨z,e1,rfl,rfl⟩ fun v1 H1 r ρ1 R1 hZ=>?_
  obtain⟨h1,h2⟩:=hZ
  subst h1 h2
  have R2:=R1.own1 e2
  obtain⟨x0,e0,h⟩:=bnd h
  obtain⟨xs0,f0,h⟩:=bnd h
  obtain⟨t,e3,h⟩:=bnd h
  obtain⟨dk,ek,h⟩:=bnd h
  obtain⟨k,fk,h⟩:=bnd h
  obtain⟨x1,ex,h⟩:=bnd h
  obtain⟨xs,f1,h⟩:=bnd h
  obtain⟨jj,ej,h⟩:=bnd h
  rw[aP fk]at ek
  rw[cP f1]at ex
  ·obtain⟨v,ev⟩:=R2.wf.get (join_some e0)
   refine⟨v,ev,s2 b F σ H1 _ _ _ (fun r ρ'=>r=t.1/\ρ'=t.2) _ hK R2 ⟨t,e3,rfl,rfl⟩ fun v2 H2 r ρ2 R3 hZ=>?_⟩
   obtain⟨h1,h2⟩:=hZ
   subst h1 h2
   ·cases h
    have hk:=R3.dt ek
    cases hk
    obtain⟨v',ev',w⟩:=Rel.open (us:=[v1]) (zs:=[o.1]) R3.drop rfl ex
    rw[ev]at ev'
    cases ev'
    obtain⟨l,vs,ch,hH,hl,go⟩:=w.mutL (ks:=[]) rfl rfl
    cases ch
    refine⟨l,vs,k,jj,rfl,rfl,hH,by rw[hl];exact ej,?_⟩
    exact E.nx σ _ _ (Rel.close (Rel.rest (us:=[v1]) (zs:=[o.1]) R3.drop rfl) ev (go (vs.set jj v1) (xs.set jj o.1) fun S H A C nt h1 h2 nd=>Ows.setA (yo ej) h1 h2 nd)) q⟩
theorem BN (hu:X.A.units + 1 < cLine) (hN:X.N[i]?=some x) (hv:Vis X.env.scope x) (hd:(x == ("__debug__":Str))=false) (hcd:(x == ("__classdict__":Str))=false) (hs:swapsWith e (some (.Subscript (.Name x pos') kx p2)) pos.line X.env=pure false) :
  PDe X e (aF C ma)->PDe X kx (aF C mk')->PDs X W (.Assign [.Subscript (.Name x pos') kx p2] e pos) (gG C (.sdk i mk' ma))
 | ⟨_,h1,s1⟩,⟨_,h2,s2⟩=>⟨_,mV hu (aX hN hv hd hcd) h2 h1 hs,fun b F σ H ρ τ θ Dd D hK n R ⟨y,h,q⟩ E=>by
  obtain⟨z,e1,h⟩:=bnd h
  obtain⟨o,e2,h⟩:=bnd h
  refine s1 b F σ H ρ τ θ (fun r ρ'=>r=z.1/\ρ'=z.2) _ hK R ⟨z,e1,rfl,rfl⟩ fun v1 H1 r ρ1 R1 hZ=>?_
  obtain⟨h1,h2⟩:=hZ
  subst h1 h2
  have R2:=R1.frz1 e2
  obtain⟨x0,e0,h⟩:=bnd h
  obtain⟨_,f0,h⟩:=bnd h
  obtain⟨t,e3,h⟩:=bnd h
  obtain⟨kd,e4,h⟩:=bnd h
  obtain⟨kk,e5,h⟩:=bnd h
  obtain⟨x1,ex,h⟩:=bnd h
  obtain⟨uu,f1,h⟩:=bnd h
  obtain⟨_,hz,h⟩:=bnd h
  have hz:=gd_ok hz
  rw[lQ f1]at ex
  ·obtain⟨v,ev⟩:=R2.wf.get (join_some e0)
   refine⟨v,ev,s2 b F σ H1 _ _ _ (fun r ρ'=>r=t.1/\ρ'=t.2) _ hK R2 ⟨t,e3,rfl,rfl⟩ fun v2 H2 r ρ2 R3 hZ=>?_⟩
   obtain⟨h1,h2⟩:=hZ
   subst h1 h2
   ··cases h
     have hk:=R3.dt e4
     have hk':v2=kV kk:=by cases kd<;>cases e5<;>cases hk<;>rfl
     subst hk'
     obtain⟨v',ev',w⟩:=Rel.open (us:=[v1]) (zs:=[.fz o.1]) R3.drop rfl ex
     rw[ev]at ev'
     cases ev'
     obtain⟨l,ws,ch,hH,hks,hl,go⟩:=w.mutD (ks:=[]) rfl rfl
     cases ch
     obtain⟨ks,xs⟩:=uu
     simp only at hks hl q go hz
     subst hks
     refine⟨l,_,rfl,DPut.k hH (Nat.lt_of_lt_of_le (by omega) (by decide:1000001≤sizeLine)),?_⟩
     exact E.nx σ _ _ (Rel.close (Rel.rest (us:=[v1]) (zs:=[.fz o.1]) R3.drop rfl) ev (go (putK ws kk v1) _ _ (nz hl) fun S H A C nt h1 h2 nd=>kL h1 h2 nd)) q⟩
theorem BO(hu:X.A.units + 1 < cLine)(hs:swapsWith a (some (.Subscript e e2 p2)) pos.line X.env=pure false) :
  PDp X e i ps->PX X e2 (fun σ=>σ[j]?.join)->PDe X a (aF C ma)->PDs X W (.Assign [.Subscript e e2 p2] a pos) (gG C (.std i ps j ma))
 | ⟨_,h0,s0⟩,⟨_,h2,s2⟩,⟨_,h1,s1⟩=>⟨_,mV hu h0 h2 h1 hs,fun b F σ H ρ τ θ Dd D hK n R ⟨y,h,q⟩ E=>by
  obtain⟨z,e1,h⟩:=bnd h
  obtain⟨o,e2,h⟩:=bnd h
  obtain⟨r,e3,h⟩:=bnd h
  refine s1 b F σ H ρ τ θ (fun r ρ'=>r=z.1/\ρ'=z.2) _ hK R ⟨z,e1,rfl,rfl⟩ fun v1 H1 r' ρ1 R1 hZ=>?_
  obtain⟨h1,h2⟩:=hZ
  subst h1 h2
  have R2:=R1.frz1 e2
  obtain⟨x0,e4,h⟩:=bnd h
  obtain⟨kd,f0,h⟩:=bnd h
  obtain⟨kk,e5,h⟩:=bnd h
  obtain⟨uu,ex,h⟩:=bnd h
  obtain⟨_,hz,h⟩:=bnd h
  have hz:=gd_ok hz
  have ex:=lQ ex
  rw[cy f0]at e4
  obtain⟨ks,xs⟩:=uu
  simp only at hz ex h
  ···cases h
     obtain⟨g1,g2⟩:=path_at e3
     refine s0 b F σ H1 _ _ _ _ r hK R2 e3 fun v u ev ch=>s2 σ H1 _ _ (R2.keyS e4 e5) ?_
     obtain⟨v',ev',w⟩:=Rel.open (us:=[v1]) (zs:=[.fz o.1]) R2 rfl g1
     rw[ev]at ev'
     cases ev'
     rw[ex]at g2 ch
     obtain⟨l,ws,ch2,hH,hks,hl,go⟩:=w.mutD rfl g2
     obtain⟨e6,_⟩:=Chn.det ch ch2
     subst e6 hks
     refine⟨l,_,rfl,DPut.k hH (Nat.lt_of_lt_of_le (by omega) (by decide:1000001≤sizeLine)),?_⟩
     exact E.nx σ _ _ (Rel.close (Rel.rest (us:=[v1]) (zs:=[.fz o.1]) R2 rfl) ev (go (putK ws kk v1) _ _ (nz hl) fun S H A C nt h1 h2 nd=>kL h1 h2 nd)) q⟩
theorem BP {c f:Str} (hN:X.N[i]?=some x) (hv:Vis X.env.scope x) (hd:(x == ("__debug__":Str))=false) (hcd:(x == ("__classdict__":Str))=false) (hc:Cls X.K (aq X.K c)) (hn:NoAttr X.K (aq X.K c) f) (hs:swapsWith e (some (.Attribute (.Name x pos') f p2)) pos.line X.env=pure false) :
  PDe X e (aF C ma)->PDs X W (.Assign [.Attribute (.Name x pos') f p2] e pos) (gG C (.stf i c f ma))
 | ⟨_,h1,s1⟩=>⟨_,xN (aX hN hv hd hcd) h1 hs,fun b F σ H ρ τ θ Dd D hK n R ⟨y,h,q⟩ E=>by
  obtain⟨z,e1,h⟩:=bnd h
  obtain⟨o,e2,h⟩:=bnd h
  refine s1 b F σ H ρ τ θ (fun r ρ'=>r=z.1/\ρ'=z.2) _ hK R ⟨z,e1,rfl,rfl⟩ fun v1 H1 r ρ1 R1 hZ=>?_
  obtain⟨h1,h2⟩:=hZ
  subst h1 h2
  have R2:=R1.own1 e2
  obtain⟨x0,ex,h⟩:=bnd h
  obtain⟨uu,f0,h⟩:=bnd h
  obtain⟨_,hz,h⟩:=bnd h
  have hz:=gd_ok hz
  rw[jD f0]at ex
  obtain⟨c',ns,xs⟩:=uu
  simp only at hz ex h
  ··cases h
    obtain⟨hcc,hz⟩:=hz
    subst hcc
    obtain⟨v,ev,w⟩:=Rel.open (us:=[v1]) (zs:=[o.1]) R2 rfl ex
    obtain⟨l,dx,fs,ch,hH,hks,hl,go⟩:=w.mutO (ks:=[]) rfl rfl
    cases ch
    subst hks
    refine⟨.ref l,ev,l,_,dx,fs,rfl,hH,hK ▸ hc,hK ▸ hn,by omega,?_⟩
    exact E.nx σ _ _ (Rel.close (Rel.rest (us:=[v1]) (zs:=[o.1]) R2 rfl) ev (go (bZ f v1 fs) _ _ (jH hl) fun S H A C nt h1 h2 nd=>ic h1 h2.one nd)) q⟩
theorem BQ {o:Bo} {c f:Str} (hN:X.N[i]?=some x) (hv:Vis X.env.scope x) (hd:(x == ("__debug__":Str))=false) (hcd:(x == ("__classdict__":Str))=false) (hc:Cls X.K (aq X.K c)) (hn:NoAttr X.K (aq X.K c) f) (h1:PDe X e (aF C ma)) :
  PDs X W (.AugAssign (.Attribute (.Name x pos') f p2) (opOf o) e pos) (gG C (.agf i c f o ma)):=by
 have key:∀(op:Operator) (g:Int->Int->Int),ur X op (fun x y H Q=>∃i j,x=.int i/\y=.int j/\Q (.int (g i j)) H)->(∀a d r,lV o a d=some r->∃k,d=.int k/\r=g a k)->PDs X W (.AugAssign (.Attribute (.Name x pos') f p2) op e pos) (gG C (.agf i c f o ma)):=fun op g ho hg=>by
  obtain⟨_,h,s1⟩:=h1
  refine⟨_,pb (aX hN hv hd hcd) h ho,fun b F σ H ρ τ θ Dd D hK n R ⟨y,h,q⟩ E=>?_⟩
  obtain⟨r,e1,h⟩:=bnd h
  obtain⟨d0,f0,h⟩:=bnd h
  obtain⟨n0,f1,h⟩:=bnd h
  obtain⟨z,e2,h⟩:=bnd h
  obtain⟨d,e3,h⟩:=bnd h
  obtain⟨nr,e4,h⟩:=bnd h
  obtain⟨x1,ex,h⟩:=bnd h
  obtain⟨uu,f5,h⟩:=bnd h
  obtain⟨_,hz,h⟩:=bnd h
  have hz:=gd_ok hz
  rw[jD f5]at ex
  obtain⟨c2,ns2,xs2⟩:=uu
  simp only at hz ex h
  have e0:=cy f0
  rw[aP f1]at e0
  cases h
  ·have hg4:=hg
   obtain⟨k,rfl,rfl⟩:=hg _ _ _ e4
   obtain⟨g1,g2⟩:=path_at e1
   obtain⟨v,ev,w0⟩:=R.slot (join_some g1)
   obtain⟨u,ch⟩:=w0.way g2
   have hu:=R.partD e1 ev ch (d:=.int n0) (by rw[e0];rfl)
   obtain⟨r0,f1,e1⟩:=bnd e1
   obtain⟨k0,f2,e1⟩:=bnd e1
   obtain⟨z0,f3,e1⟩:=bnd e1
   obtain⟨x0,f4,f1⟩:=bnd f1
   cases f1
   cases e1
   simp only[List.nil_append]at ch g2 e0 f2 f3 g1
   obtain⟨ns,xs,ey,f7⟩:=BA f2
   subst ey
   cases ch with
   | cons cd cn =>
    cases cn
    cases cd with
    | @obj l dx c' fs _ _ _ _ _ q1 q2 q5 q3 q4 =>
     ·cases hu
      refine⟨_,ev,l,_,dx,fs,.int n0,rfl,q1,hK ▸ hc,hK ▸ hn,lookup_at (by rw[q2];exact f7) q3,?_⟩
      refine s1 b F σ H ρ τ θ (fun r ρ'=>r=z.1/\ρ'=z.2) _ hK R ⟨z,e2,rfl,rfl⟩ fun v1 H1 r ρ1 R1 hZ=>?_
      obtain⟨h1,h2⟩:=hZ
      subst h1 h2
      have hv1:=R1.dt e3
      cases hv1
      refine⟨n0,k,rfl,rfl,?_⟩
      ··obtain⟨hcc,hz⟩:=hz
        subst hcc
        have R2:Rel b F σ H1 z.2 (.int (g n0 k)::τ) (.val (.fz (.int (g n0 k)))::θ):=R1.drop.sc (.int _)
        obtain⟨v',ev',w⟩:=Rel.open (us:=[.int (g n0 k)]) (zs:=[.fz (.int (g n0 k))]) R2 rfl ex
        rw[ev]at ev'
        cases ev'
        obtain⟨l2,dx2,fs2,ch2,hH,hks,hl,go⟩:=w.mutO (ks:=[]) rfl rfl
        cases ch2
        subst hks
        refine⟨dx2,fs2,hH,by omega,?_⟩
        exact E.nx σ _ _ (Rel.close R1.drop ev (go (bZ f _ fs2) _ _ (jH hl) fun S H A C nt h1 h2 nd=>ic h1 h2.one nd)) q
 have nil:∀op,(∀a d,lV o a d=none)->PDs X W (.AugAssign (.Attribute (.Name x pos') f p2) op e pos) (gG C (.agf i c f o ma)):=fun op hn=>by
  refine⟨_,kb,fun b F σ H ρ τ θ Dd D hK n R ⟨y,h,q⟩ E=>?_⟩
  obtain⟨r,e1,h⟩:=bnd h
  obtain⟨d0,f0,h⟩:=bnd h
  obtain⟨n0,f1,h⟩:=bnd h
  obtain⟨z,e2,h⟩:=bnd h
  obtain⟨dk,ek,h⟩:=bnd h
  rw[hn]at h
  cases h
 cases o with
 | add=>exact key _ _ xO fun a d r h=>by cases d<;>cases h;exact⟨_,rfl,rfl⟩
 | sub=>exact key _ _ xP fun a d r h=>by cases d<;>cases h;exact⟨_,rfl,rfl⟩
 | _=>exact nil _ fun a d=>rfl
end
end
section
section
variable{X:Cx}{C:Ct}{a e e2:Expr}{es:List Expr}{ma mb:E}{mes:Es}{pos p p1 p2 apos:Pos}{x:Str}{i j:Nat}{k n:Nat}{f:Addr}{fd:FuncData}{ps:List Str}{sp:DSp}{c m:Str}{ff:Nat}
theorem pW{b:Bs}{F:List Fr}{σ:St}{H:Hp}{ρ1 ρ2:DEnv}{τ vs:List V}{θ rs:List OR}{xs:List OD}{ios:List Bool}{Q:VK}{P:OD->List OD->Prop}{E:XK}(mono:qQ sp)(el:vs.length=rs.length)(R1:Rel b F σ H ρ1 (vs++τ) (rs++θ))(e1:bx ios ρ1 rs=some (xs,ρ2))(h:sp xs P)
  (q:∀x ys v H',P x ys->Rel b F σ H' (dF ios rs ys ρ2) (v::τ) (.val x::θ)->Q v H'):toSp b.K sp vs H Q E:=by
 obtain⟨R2,e2⟩:=argsR_ok R1 el e1
 have al:=((aO el).mp R1.al).1
 have w:=R2.vals e2
 refine w.call e2 mono (mono _ _ _ (fun x ys hx eys v H' w'=>q x ys v H' hx ?_) h)
 have R3:Rel b F σ H' ρ2 (v::(vs++τ)) (.val x::(ys.map OR.val++θ)):=by
  have R0:=R2.drops (by simpa using e2)
  refine⟨R0.wf,(aO (σ:=σ) (vs:=vs) (rs:=ys.map OR.val) (by simpa using eys)).mpr ⟨eR eys,R0.al⟩,R0.wff,?_⟩
  show Wd b H' ((v,x)::(stk (vs++τ) (ys.map OR.val++θ)++_))
  rw[aA (by simpa using eys),cf eys,List.append_assoc]
  exact w'
 exact bN (τ:=v::τ) (θ:=.val x::θ) al eys (Rel.tor (vs:=vs) (rs:=ys.map OR.val) R3 (by simpa using eys))
def spC(g:List OD->Option (OD × List OD)):DSp:=fun xs Q=>∃w,g xs=some w/\Q w.1 w.2
theorem r9(g:List OD->Option (OD × List OD)):qQ (spC g):=fun xs P R h ⟨w,e,q⟩=>⟨w,e,h _ _ q⟩
theorem iV{f:Str}:∀{fs:List (Str × V)},f ∉ fs.map (·.1)->fs.lookup f=none
 | [],_=>rfl
 | (g,q)::fs,h=>by
  have h1:f≠g:=fun e=>h (by simp[e])
  have hb:(f == g)=false:=by simpa using h1
  have:=iV (f:=f) (fs:=fs) fun z=>h (by rw[List.map_cons];exact List.mem_cons_of_mem _ z)
  simp[List.lookup,hb,this]
theorem kM{ta:TA}(G:FnD X.prog X.w X.K X.mg X.base k f fd ps (spC (C.call ff)))(s1:qR X.K ta (eG C mes)):dA X.K (qu (aq X.K c) m (toSp X.K (spC (C.call ff))) [] E0 (tVar i) ta) (aF C (.meth c m ff i mes)):=fun b F σ H ρ τ θ Qd Q hK R ⟨y,h,q⟩ kk=>by
 obtain⟨x0,e0,h⟩:=bnd h
 obtain⟨uu,f0,h⟩:=bnd h
 obtain⟨_,hz,h⟩:=bnd h
 obtain⟨hcc,hz⟩:=gd_ok hz
 rw[jD f0,hcc]at e0
 ··obtain⟨z,e1,h⟩:=bnd h
   obtain⟨o,e2,h⟩:=bnd h
   obtain⟨w,e3,h⟩:=bnd h
   cases h
   obtain⟨v,ev,w0⟩:=R.slot (join_some e0)
   obtain⟨l,dx,fs,ch,hH,hks,hl,go⟩:=Wd.mutO (us:=[]) (zs:=[]) (ks:=[]) w0 rfl rfl
   cases ch
   rw[<- hks]at hz
   refine⟨.ref l,ev,l,dx,fs,rfl,hK ▸ hH,iV hz,?_⟩
   have R0:Rel b F σ H ρ (.ref l::τ) (.rf i::θ):=⟨R.wf,⟨ev,R.al⟩,R.wff,R.wd⟩
   refine s1 b F σ H ρ _ _ (fun r ρ'=>r=z.1/\ρ'=z.2) _ hK R0 ⟨z,e1,rfl,rfl⟩ fun vs H1 rs ρ1 el R1 hZ=>?_
   obtain⟨h1,h2⟩:=hZ
   subst h1 h2
   rw[List.append_nil,<- hK]
   refine pW (vs:=.ref l::vs) (rs:=.rf i::z.1) (P:=fun x ys=>x=w.1/\ys=w.2) G.mono (by simp[el]) (Rel.rot R1 el) e2 ⟨w,e3,rfl,rfl⟩ fun x ys v H' hx R'=>?_
   obtain⟨h1,h2⟩:=hx
   subst h1 h2
   exact kk v H' _ _ R' q
theorem D9{o:Expr}{name:Str}{env:Env}{ov:Value}{n:Nat}{args:List (Bool × Sem Value)}{kws:List (Option Str × Sem Value)}(hf:methodCallForm n args kws=true)(hl:(apos.endLine == pos.line)=true) :
  methodCall o name apos pos env ov n args kws=(do let (f,first) <- holding [ov] (getMethod ov name (do return (<- importBound o env).getD true));callWith pos f first args kws):=by
 unfold methodCall calleeOf methodCallPos
 rw[hf,hl]
 rfl
theorem sd{env:Env}(h:es.any isStar=false)(hn:decide (es.length < 30)=true)(hl:(apos.endLine == pos.line)=true) :
  eval (.Call (.Attribute (.Name x p1) m apos) es [] pos) env=(do
   let ov <- eval (.Name x p1) env
   standAt apos.atName
   let (f,first) <- holding [ov] (getMethod ov m (do return (<- importBound (.Name x p1) env).getD true))
   callWith pos f first (backTo pos (starEach es env)) (backToKw pos (keywordEach [] env))):=by
 have hf:methodCallForm (es.length + ([]:List Keyword).length) (backTo pos (starEach es env)) (backToKw pos (keywordEach [] env))=true:=by
  have h1:(backTo pos (starEach es env)).all (fun z=>!z.1)=true:=by
   have:=bh (pos:=pos) (env:=env) h
   rw[List.all_eq_true]
   intro z hz
   rw[List.any_eq_false]at this
   have:=this z hz
   simpa using this
  unfold methodCallForm
  rw[h1]
  simpa [keywordEach,backToKw] using hn
 show (eval (.Name x p1) env >>= fun ov=>standAt apos.atName >>= fun _=>methodCall (.Name x p1) m apos pos env ov (es.length + ([]:List Keyword).length) (backTo pos (starEach es env)) (backToKw pos (keywordEach [] env)))=_
 simp only[D9 hf hl]
theorem yS(hc:Cls X.K (aq X.K c))(hm:Meth X.K (aq X.K c) m f)(G:FnD X.prog X.w X.K X.mg X.base k f fd ps (spC (C.call ff)))(hr:Room k X.A)(hb:Binds X.K fd ps [])
  (hN:X.N[i]?=some x) (hv:Vis X.env.scope x) (hd:(x == ("__debug__":Str))=false) (hcd:(x == ("__classdict__":Str))=false) (he:isStar e=false) (hes:es.any isStar=false) (hn:decide ((e::es).length < 30)=true) (hl:(apos.endLine == pos.line)=true) :
  PDa X (e::es) (eG C mes)->PDe X (.Call (.Attribute (.Name x p1) m apos) (e::es) [] pos) (aF C (.meth c m ff i mes))
 | ⟨_,h1,s1⟩=>⟨_,uw (E:=E0) (aX hN hv hd hcd) hc hm G.ok hr hb .nil kh h1 (ar he) (bh hes) (sd (by rw[List.any_cons,he,hes];rfl) hn hl),kM G s1⟩
theorem vl(hc:Cls X.K (aq X.K c))(hm:Meth X.K (aq X.K c) m f)(G:FnD X.prog X.w X.K X.mg X.base k f fd ps (spC (C.call ff)))(hr:Room k X.A)(hb:Binds X.K fd ps [])
  (hN:X.N[i]?=some x) (hv:Vis X.env.scope x) (hd:(x == ("__debug__":Str))=false) (hcd:(x == ("__classdict__":Str))=false) (hl:(apos.endLine == pos.line)=true) :
  PDe X (.Call (.Attribute (.Name x p1) m apos) [] [] pos) (aF C (.meth c m ff i .nil)) :=
 ⟨_,qw (E:=E0) (aX hN hv hd hcd) hc hm G.ok hr hb .nil kh (sd rfl rfl hl),kM (ta:=tNil) G fun b F σ H ρ τ θ Qd Q hK R ⟨y,h,q⟩ kk=>by
  cases h
  exact kk [] H [] ρ rfl R q⟩
theorem Wd.newObj{b:Bs}{H:Hp}{L:List (V × OD)}{p dx:Addr}(w:Wd b H L)(hp:H p=none)(hx:H dx=none)(ne:dx≠p):Wd b (upd (upd H dx (.own p)) p (.ins (aq b.K c) dx [])) ((.ref p,.obj c [] [])::L):=by
 obtain⟨A,h0,nd,new⟩:=w.out
 have np:=w.al h0 hp
 have nx:=w.al h0 hx
 have nt:=w.nt' h0
 have w1:=w.new hx (o:=.own p)
 have hp1:upd H dx (.own p) p=none:=by rw[upd_ne (fun e=>ne e.symm)];exact hp
 have w':=w1.new hp1 (o:=.ins (aq b.K c) dx [])
 have k1:Kp (fun c=>c∈A\/b.S0 c) H (upd (upd H dx (.own p)) p (.ins (aq b.K c) dx [])):=⟨fun c o e _=>by
   rw[upd_ne (fun z=>by subst z;rw[hp]at e;cases e),upd_ne (fun z=>by subst z;rw[hx]at e;cases e)];exact e,fun c e=>by
   by_cases z:c=p
   ·subst z;exact hp
   ·rw[upd_ne z]at e
    by_cases z2:c=dx
    ·subst z2;exact hx
    ·rw[upd_ne z2]at e;exact e⟩
 have n:∀c,(c∈p::dx::A\/b.S0 c)->(c∈A\/b.S0 c)\/H c=none:=fun c z=>by
  rcases z with z | z
  ·rcases List.mem_cons.mp z with rfl | z
   ·exact .inr hp
   ·rcases List.mem_cons.mp z with rfl | z
    ·exact .inr hx
    ·exact .inl (.inl z)
  ·exact .inl (.inr z)
 refine⟨⟨p::dx::A,Ows.cons (A:=[p,dx]) (.obj aj (by rw[upd_ne ne];exact aj) rfl rfl .nil) (Ows.step k1 n nt (fun a ha=>?_) h0),List.nodup_cons.mpr ⟨fun z=>?_,List.nodup_cons.mpr ⟨fun z=>nx (.inl z),nd⟩⟩,fun a ha=>?_⟩,w'.fr,w'.s0,w'.nt⟩
 ·have e1:a≠p:=fun e=>np (.inl (e ▸ ha))
  have e2:a≠dx:=fun e=>nx (.inl (e ▸ ha))
  rw[upd_ne e1,upd_ne e2]
 ·rcases List.mem_cons.mp z with z | z
  ·exact ne z.symm
  ·exact np (.inl z)
 ·rcases List.mem_cons.mp ha with rfl | ha
  ·exact .inl (w.newC hp)
  ·rcases List.mem_cons.mp ha with rfl | ha
   ·exact .inl (w.newC hx)
   ·exact new a ha
theorem se{ta:TA}(G:FnD X.prog X.w X.K X.mg X.base k f fd ps (spC (C.mak ff)))(s1:qR X.K ta (eG C mes)):dA X.K (wo (aq X.K c) (toSp X.K (spC (C.mak ff))) [] E0 ta) (aF C (.make c ff mes)):=fun b F σ H ρ τ θ Qd Q hK R ⟨y,h,q⟩ kk=>by
 obtain⟨z,e1,h⟩:=bnd h
 obtain⟨o,e2,h⟩:=bnd h
 obtain⟨w,e3,h⟩:=bnd h
 refine s1 b F σ H ρ _ _ (fun r ρ'=>r=z.1/\ρ'=z.2) _ hK R ⟨z,e1,rfl,rfl⟩ fun vs H1 rs ρ1 el R1 hZ=>?_
 obtain⟨h1,h2⟩:=hZ
 subst h1 h2
 intro pp dx hp hx ne
 obtain⟨R2,el2⟩:=argsR_ok R1 el e2
 have al:=((aO el).mp R1.al).1
 have w0:=Wd.newObj (c:=c) R2.wd hp hx ne
 have R3:Rel b F σ _ o.2 (.ref pp::(vs++τ)) (.val (.obj c [] [])::(o.1.map OR.val++θ)):=Rel.push R2 w0
 rw[List.append_nil,<- hK]
 have e4:vs.length=o.1.length:=el2
 have w1:=Rel.vals (vs:=.ref pp::vs) (xs:=.obj c [] []::o.1) R3 (by simp[e4])
 obtain⟨yy,ew,h⟩:=bnd h
 obtain⟨ew1,ew2⟩:=yD ew
 obtain⟨y',ys'⟩:=yy
 simp only at ew2
 ·cases h
  refine w1.call (by simp[e4]) G.mono ⟨w,e3,fun eys v H' w'=>?_⟩
  rw[ew1,ew2]at w'
  rw[ew2]at eys
  have eys':vs.length=ys'.length:=by simpa using eys
  have R0:=R2.drops (by simpa using e4)
  have R4:Rel b F σ H' o.2 (v::(.ref pp::(vs++τ))) (.val (.fz .none)::.val y'::(ys'.map OR.val++θ)):=by
   refine⟨R0.wf,(aO (σ:=σ) (vs:=vs) (rs:=ys'.map OR.val) (by simpa using eys')).mpr ⟨eR eys',R0.al⟩,R0.wff,?_⟩
   show Wd b H' ((v,.fz .none)::(.ref pp,y')::(stk (vs++τ) (ys'.map OR.val++θ)++_))
   rw[aA (by simpa using eys'),cf eys',List.append_assoc]
   exact w'
  have hv:=R4.dt (d:=.none) rfl
  cases hv
  refine⟨rfl,kk _ H' _ _ ?_ q⟩
  exact bN (τ:=.ref pp::τ) (θ:=.val y'::θ) al eys' (Rel.tor (vs:=vs) (rs:=ys'.map OR.val) R4.drop (by simpa using eys'))
theorem yT (M:Mk X.K (aq X.K c) f) (G:FnD X.prog X.w X.K X.mg X.base k f fd ps (spC (C.mak ff))) (hr:Room (k + 1) X.A) (hg:Gl X x) (hm:X.mg x=some (.ref (aq X.K c))) (hb:Binds X.K fd ps []) (hdb:(x == ("__debug__":Str))=false)
  (he:isStar e=false) (hes:es.any isStar=false):PDa X (e::es) (eG C mes)->PDe X (.Call (.Name x p) (e::es) [] pos) (aF C (.make c ff mes))
 | ⟨_,h1,s1⟩=>⟨_,ux (E:=E0) M G.ok hr hg hm hb .nil kh h1 hdb (ar he) (bh hes),se G s1⟩
end
theorem sf(b:Bs)(a:Addr)(ds:List PyData):jy b (z6 b.K a) [.ref a] [.val (.lst (ds.map OD.fz))] ds:=fun F σ H ρ τ θ R k=>by
 have hl:listOf (.lst (ds.map OD.fz))=some ds:=fL ds
 obtain⟨a',us,e,el,hs,w'⟩:=R.wd.lsItems cC hl
 cases e
 refine⟨fun h=>⟨⟨us,us[k]'(by omega),hs,List.getElem?_eq_getElem _⟩,fun x H2 d ⟨e1,e2⟩ hd=>?_⟩,fun e=>⟨us,hs,by omega⟩⟩
 subst e1
 refine Rel.push R (w'.pick (cp (e2 us hs) ?_))
 rw[List.getElem?_map,hd];rfl
section
variable{X:Cx}{C:Ct}{pos p:Pos}{x:Str}{i:Nat}
theorem vm {N:List Str} {nt:Nat} {fr:List Nat} {scope:Scope} {elt tg:Expr} {ifs:List Expr} {mt:Tg} {mif:Eo} {me:E} (n:X.N[i]?=some x) (hv:Vis X.env.scope x) (hd:(x == ("__debug__":Str))=false) (hcd:(x == ("__classdict__":Str))=false) (hc:X.calm=true) (S:CompScope N nt fr X.N scope X.env.scope) (hg:∀c:CC,PDg (fJ X N scope c) Ff nt tg (fR mt)) (ha:∀c:CC,PDc (fJ X N scope c) ifs elt (wA C mif me)) :
  PDe X (.ListComp elt [⟨tg,.Name x p,ifs,0⟩] scope pos) (aF C (.compB i nt fr mt mif me)):=by
 obtain⟨g,hg'⟩:=PDg.ex (K:=X.K) (Y:=fun c=>fJ X N scope c) (fun _=>rfl) hg
 obtain⟨tc,hc'⟩:=PDc.ex (K:=X.K) (Y:=fun c=>fJ X N scope c) (fun _=>rfl) ha
 refine⟨_,mS hc S (mL (aX n hv hd hcd)) (fun c=>(hg' c).1) (fun c D=>(hc' c).1 D) (fun _=>rfl),fun b F σ H ρ τ θ Qd Q hK R ⟨y,h,q⟩ k=>?_⟩
 obtain⟨x0,e0,h⟩:=bnd h
 obtain⟨xs,f0,h⟩:=bnd h
 obtain⟨ds,e1,h⟩:=bnd h
 obtain⟨_,hz,h⟩:=bnd h
 have hz:=gd_ok hz
 rw[cP f0]at e0
 ··obtain⟨z,e2,h⟩:=bnd h
   obtain⟨w,e3,h⟩:=bnd h
   cases h
   have exs:=fzL_map e1
   subst exs
   obtain⟨v,ev,R1⟩:=R.moved e0
   obtain⟨a,us,rfl,el,hs,_⟩:=R1.wd.lsItems (v:=v) (x:=.lst (ds.map OD.fz)) (List.mem_append_left _ List.mem_cons_self) (fL ds)
   rw[hK]at hs
   refine⟨_,ev,a,rfl,⟨us,hs⟩,?_⟩
   have B:=iT (K:=X.K) (J:=z6 b.K a) (ds:=ds) (vs:=[.ref a]) (rs:=[.val (.lst (ds.map OD.fz))]) (τ:=τ) (θ:=θ) (Iv:=fun k out ρ=>bc (bj C mt mif me) (ds.drop k) out ρ=some w) (Q:=Q) (fun c=>(hg' c).2) (fun c=>(hc' c).2) hK rfl (fun r hr=>.inl ⟨_,List.mem_singleton.mp hr⟩) R1 (sf b a ds) hz e2 e3 (fun k d out ρ hd iv=>by
    obtain⟨u,hu,iv'⟩:=kI _ _ _ k hd iv
    obtain⟨ρ1,e4,hu⟩:=bnd hu
    exact⟨ρ1,e4,u,hu,iv'⟩) fun H' D out ρ' R' iv=>by
    have iv:bc (bj C mt mif me) (ds.drop ds.length) out ρ'=some w:=iv
    rw[List.drop_length]at iv
    cases iv
    exact k _ H' _ _ (Rel.give (τ:=.ref D::τ) (θ:=.val (.lst (out.map OD.fz))::θ) (Rel.rot (vs:=[.ref D]) (rs:=[.val (.lst (out.map OD.fz))]) R' rfl) ev) q
   rw[hK]at B
   exact B
end
end
section
def bC(e:PySem.Expr):Option (Str):=if h:e.ctorIdx=23 then some (@PySem.Expr.Name.elim (fun _=>Str) e h fun x _=>x) else none
theorem asNm_ok{e:PySem.Expr}{z:Str}(h:bC e=some z):∃p,e=.Name z p:=by
 by_cases hc:e.ctorIdx=23
 ·revert h
  exact @PySem.Expr.Name.elim (fun e=>bC e=some z->∃p,e=.Name z p) e hc fun x p h=>by cases h;exact⟨p,rfl⟩
 ·rw[bC,dif_neg hc]at h;cases h
def ie(e:PySem.Expr):Option (Const):=if h:e.ctorIdx=19 then some (@PySem.Expr.Constant.elim (fun _=>Const) e h fun c _ _=>c) else none
theorem eW{e:PySem.Expr}{z:Const}(h:ie e=some z):∃j p,e=.Constant z j p:=by
 by_cases hc:e.ctorIdx=19
 ·revert h
  exact @PySem.Expr.Constant.elim (fun e=>ie e=some z->∃j p,e=.Constant z j p) e hc fun c j p h=>by cases h;exact⟨j,p,rfl⟩
 ·rw[ie,dif_neg hc]at h;cases h
def nF(e:PySem.Expr):Option (Expr × Operator × Expr):=if h:e.ctorIdx=2 then some (@PySem.Expr.BinOp.elim (fun _=>Expr × Operator × Expr) e h fun x o y _=>(x,o,y)) else none
theorem si{e:PySem.Expr}{z:Expr × Operator × Expr}(h:nF e=some z):∃p,e=.BinOp z.1 z.2.1 z.2.2 p:=by
 by_cases hc:e.ctorIdx=2
 ·revert h
  exact @PySem.Expr.BinOp.elim (fun e=>nF e=some z->∃p,e=.BinOp z.1 z.2.1 z.2.2 p) e hc fun x o y p h=>by cases h;exact⟨p,rfl⟩
 ·rw[nF,dif_neg hc]at h;cases h
def nG(e:PySem.Expr):Option (Expr × List CmpOp × List Expr):=if h:e.ctorIdx=15 then some (@PySem.Expr.Compare.elim (fun _=>Expr × List CmpOp × List Expr) e h fun x os ys _=>(x,os,ys)) else none
theorem asCmp_ok{e:PySem.Expr}{z:Expr × List CmpOp × List Expr}(h:nG e=some z):∃p,e=.Compare z.1 z.2.1 z.2.2 p:=by
 by_cases hc:e.ctorIdx=15
 ·revert h
  exact @PySem.Expr.Compare.elim (fun e=>nG e=some z->∃p,e=.Compare z.1 z.2.1 z.2.2 p) e hc fun x os ys p h=>by cases h;exact⟨p,rfl⟩
 ·rw[nG,dif_neg hc]at h;cases h
def vn(e:PySem.Expr):Option (BoolOp × List Expr × Pos):=if h:e.ctorIdx=0 then some (@PySem.Expr.BoolOp.elim (fun _=>BoolOp × List Expr × Pos) e h fun o xs p=>(o,xs,p)) else none
theorem vo{e:PySem.Expr}{z:BoolOp × List Expr × Pos}(h:vn e=some z):e=.BoolOp z.1 z.2.1 z.2.2:=by
 by_cases hc:e.ctorIdx=0
 ·revert h
  exact @PySem.Expr.BoolOp.elim (fun e=>vn e=some z->e=.BoolOp z.1 z.2.1 z.2.2) e hc fun o xs p h=>by cases h;exact rfl
 ·rw[vn,dif_neg hc]at h;cases h
def sm(e:PySem.Expr):Option (UnaryOp × Expr):=if h:e.ctorIdx=3 then some (@PySem.Expr.UnaryOp.elim (fun _=>UnaryOp × Expr) e h fun o x _=>(o,x)) else none
theorem nH{e:PySem.Expr}{z:UnaryOp × Expr}(h:sm e=some z):∃p,e=.UnaryOp z.1 z.2 p:=by
 by_cases hc:e.ctorIdx=3
 ·revert h
  exact @PySem.Expr.UnaryOp.elim (fun e=>sm e=some z->∃p,e=.UnaryOp z.1 z.2 p) e hc fun o x p h=>by cases h;exact⟨p,rfl⟩
 ·rw[sm,dif_neg hc]at h;cases h
def so(e:PySem.Expr):Option (Expr × Expr × Expr):=if h:e.ctorIdx=5 then some (@PySem.Expr.IfExp.elim (fun _=>Expr × Expr × Expr) e h fun c a b _=>(c,a,b)) else none
theorem nI{e:PySem.Expr}{z:Expr × Expr × Expr}(h:so e=some z):∃p,e=.IfExp z.1 z.2.1 z.2.2 p:=by
 by_cases hc:e.ctorIdx=5
 ·revert h
  exact @PySem.Expr.IfExp.elim (fun e=>so e=some z->∃p,e=.IfExp z.1 z.2.1 z.2.2 p) e hc fun c a b p h=>by cases h;exact⟨p,rfl⟩
 ·rw[so,dif_neg hc]at h;cases h
def bD(e:PySem.Expr):Option (List Expr):=if h:e.ctorIdx=25 then some (@PySem.Expr.Tuple.elim (fun _=>List Expr) e h fun xs _ _=>xs) else none
theorem asTup_ok{e:PySem.Expr}{z:List Expr}(h:bD e=some z):∃k p,e=.Tuple z k p:=by
 by_cases hc:e.ctorIdx=25
 ·revert h
  exact @PySem.Expr.Tuple.elim (fun e=>bD e=some z->∃k p,e=.Tuple z k p) e hc fun xs k p h=>by cases h;exact⟨k,p,rfl⟩
 ·rw[bD,dif_neg hc]at h;cases h
def iW(e:PySem.Expr):Option (List Expr):=if h:e.ctorIdx=24 then some (@PySem.Expr.List.elim (fun _=>List Expr) e h fun xs _=>xs) else none
theorem ig{e:PySem.Expr}{z:List Expr}(h:iW e=some z):∃p,e=.List z p:=by
 by_cases hc:e.ctorIdx=24
 ·revert h
  exact @PySem.Expr.List.elim (fun e=>iW e=some z->∃p,e=.List z p) e hc fun xs p h=>by cases h;exact⟨p,rfl⟩
 ·rw[iW,dif_neg hc]at h;cases h
def eA(e:PySem.Expr):Option (Expr × Expr):=if h:e.ctorIdx=21 then some (@PySem.Expr.Subscript.elim (fun _=>Expr × Expr) e h fun x y _=>(x,y)) else none
theorem cj{e:PySem.Expr}{z:Expr × Expr}(h:eA e=some z):∃p,e=.Subscript z.1 z.2 p:=by
 by_cases hc:e.ctorIdx=21
 ·revert h
  exact @PySem.Expr.Subscript.elim (fun e=>eA e=some z->∃p,e=.Subscript z.1 z.2 p) e hc fun x y p h=>by cases h;exact⟨p,rfl⟩
 ·rw[eA,dif_neg hc]at h;cases h
def fT(e:PySem.Expr):Option (Expr × List Expr × List Keyword × Pos):=if h:e.ctorIdx=16 then some (@PySem.Expr.Call.elim (fun _=>Expr × List Expr × List Keyword × Pos) e h fun f xs ks p=>(f,xs,ks,p)) else none
theorem fU{e:PySem.Expr}{z:Expr × List Expr × List Keyword × Pos}(h:fT e=some z):e=.Call z.1 z.2.1 z.2.2.1 z.2.2.2:=by
 by_cases hc:e.ctorIdx=16
 ·revert h
  exact @PySem.Expr.Call.elim (fun e=>fT e=some z->e=.Call z.1 z.2.1 z.2.2.1 z.2.2.2) e hc fun f xs ks p h=>by cases h;exact rfl
 ·rw[fT,dif_neg hc]at h;cases h
def gm(e:PySem.Expr):Option (Expr × Str × Pos):=if h:e.ctorIdx=20 then some (@PySem.Expr.Attribute.elim (fun _=>Expr × Str × Pos) e h fun o f p=>(o,f,p)) else none
theorem asAtt_ok{e:PySem.Expr}{z:Expr × Str × Pos}(h:gm e=some z):e=.Attribute z.1 z.2.1 z.2.2:=by
 by_cases hc:e.ctorIdx=20
 ·revert h
  exact @PySem.Expr.Attribute.elim (fun e=>gm e=some z->e=.Attribute z.1 z.2.1 z.2.2) e hc fun o f p h=>by cases h;exact rfl
 ·rw[gm,dif_neg hc]at h;cases h
def nJ(e:PySem.Expr):Option (List (Option Expr) × List Expr):=if h:e.ctorIdx=6 then some (@PySem.Expr.Dict.elim (fun _=>List (Option Expr) × List Expr) e h fun ks vs _=>(ks,vs)) else none
theorem sq{e:PySem.Expr}{z:List (Option Expr) × List Expr}(h:nJ e=some z):∃p,e=.Dict z.1 z.2 p:=by
 by_cases hc:e.ctorIdx=6
 ·revert h
  exact @PySem.Expr.Dict.elim (fun e=>nJ e=some z->∃p,e=.Dict z.1 z.2 p) e hc fun ks vs p h=>by cases h;exact⟨p,rfl⟩
 ·rw[nJ,dif_neg hc]at h;cases h
def lY(e:PySem.Expr):Option (Expr × List Comprehension × Scope × Pos):=if h:e.ctorIdx=8 then some (@PySem.Expr.ListComp.elim (fun _=>Expr × List Comprehension × Scope × Pos) e h fun x gs s p=>(x,gs,s,p)) else none
theorem nK{e:PySem.Expr}{z:Expr × List Comprehension × Scope × Pos}(h:lY e=some z):e=.ListComp z.1 z.2.1 z.2.2.1 z.2.2.2:=by
 by_cases hc:e.ctorIdx=8
 ·revert h
  exact @PySem.Expr.ListComp.elim (fun e=>lY e=some z->e=.ListComp z.1 z.2.1 z.2.2.1 z.2.2.2) e hc fun x gs s p h=>by cases h;exact rfl
 ·rw[lY,dif_neg hc]at h;cases h
def Ea:Const->Option Int | .int k=>some k | _=>none
def Eb:Const->Option Str | .str k=>some k | _=>none
def Ec:Const->Option Bool | .bool k=>some k | _=>none
def Ed:Const->Bool | .none=>true | _=>false
def iX(e:Expr):Option Int:=(ie e).bind Ea
def wC(e:Expr):Option Str:=(ie e).bind Eb
def BR(e:Expr):Option Bool:=(ie e).bind Ec
def wD(e:Expr):Bool:=(ie e).any Ed
def wG(e:Expr):Bool:=(nJ e).any fun z=>z.1.isEmpty && z.2.isEmpty
def isTup(e:Expr):Bool:=(bD e).isSome
theorem anyT{α:Type}{o:Option α}{p:α->Bool}(h:o.any p=true):∃a,o=some a/\p a=true:=by
 cases o with
 | none=>cases h
 | some a=>exact⟨a,rfl,h⟩
theorem an2{a b:Bool}(h:(a && b)=true):a=true/\b=true:=Bool.and_eq_true_iff.mp h
section
variable{e:Expr}
theorem asInt_ok{k:Int}(h:iX e=some k):∃j p,e=.Constant (.int k) j p:=by
 obtain⟨c,h1,h⟩:=bnd h
 obtain⟨j,p,rfl⟩:=eW h1
 cases c<;>cases h
 exact⟨j,p,rfl⟩
theorem asStr_ok{k:Str}(h:wC e=some k):∃j p,e=.Constant (.str k) j p:=by
 obtain⟨c,h1,h⟩:=bnd h
 obtain⟨j,p,rfl⟩:=eW h1
 cases c<;>cases h
 exact⟨j,p,rfl⟩
theorem asBl_ok{k:Bool}(h:BR e=some k):∃j p,e=.Constant (.bool k) j p:=by
 obtain⟨c,h1,h⟩:=bnd h
 obtain⟨j,p,rfl⟩:=eW h1
 cases c<;>cases h
 exact⟨j,p,rfl⟩
theorem kN(h:wD e=true):∃j p,e=.Constant .none j p:=by
 obtain⟨c,h1,h⟩:=anyT h
 obtain⟨j,p,rfl⟩:=eW h1
 cases c<;>cases h
 exact⟨j,p,rfl⟩
theorem sr(h:wG e=true):∃p,e=.Dict [] [] p:=by
 obtain⟨z,h1,h⟩:=anyT h
 obtain⟨p,rfl⟩:=sq h1
 obtain⟨h2,h3⟩:=an2 h
 rw[List.isEmpty_iff]at h2 h3
 exact⟨p,by rw[h2,h3]⟩
theorem eX(h:isTup e=true):∃xs k p,e=.Tuple xs k p:=by
 obtain⟨z,h1⟩:=Option.isSome_iff_exists.mp h
 obtain⟨k,p,rfl⟩:=asTup_ok h1
 exact⟨z,k,p,rfl⟩
end
theorem an3{a b c:Bool}(h:(a && b && c)=true):a=true/\b=true/\c=true:=⟨(an2 (an2 h).1).1,(an2 (an2 h).1).2,(an2 h).2⟩
theorem an4{a b c d:Bool}(h:(a && b && c && d)=true):a=true/\b=true/\c=true/\d=true:=⟨(an3 (an2 h).1).1,(an3 (an2 h).1).2.1,(an3 (an2 h).1).2.2,(an2 h).2⟩
theorem an5{a b c d e:Bool}(h:(a && b && c && d && e)=true):a=true/\b=true/\c=true/\d=true/\e=true:=⟨(an4 (an2 h).1).1,(an4 (an2 h).1).2.1,(an4 (an2 h).1).2.2.1,(an4 (an2 h).1).2.2.2,(an2 h).2⟩
theorem bz{a:Bool}(h:(!a)=true):a=false:=by cases a<;>first | rfl | cases h
def jI{α:Type}:List α->Option (α × List α) | x::xs=>some (x,xs) | _=>none
theorem con1_ok{α:Type}{l:List α}{x:α × List α}(h:jI l=some x):l=x.1::x.2:=by cases l<;>cases h;rfl
structure Tb where
 fn:Nat->Option Str
 me:Nat->Option (Str × Str)
 mk':Nat->Option Str
 gc:Nat->Option Str
 nog:Str->Bool
 fld:Str->Str->Bool
structure Cy (t:Tb)(C:Ct)(X:Cx):Prop where
 calm:X.calm=true
 units:X.A.units + 64 < cLine
 hfn:∀j nm,t.fn j=some nm->∃k fa fd ps,FnD X.prog X.w X.K X.mg X.base k fa fd ps (spC (C.call j))/\Room k X.A/\X.mg nm=some (.ref fa)/\PySem.W.keepIn X.K (.ref fa)=true/\Binds X.K fd ps []
 hme:∀j c m,t.me j=some (c,m)->Cls X.K (aq X.K c)/\∃k fa fd ps,Meth X.K (aq X.K c) m fa/\FnD X.prog X.w X.K X.mg X.base k fa fd ps (spC (C.call j))/\Room k X.A/\Binds X.K fd ps []
 hmk:∀j c,t.mk' j=some c->∃k fa fd ps,Mk X.K (aq X.K c) fa/\FnD X.prog X.w X.K X.mg X.base k fa fd ps (spC (C.mak j))/\Room (k + 1) X.A/\X.mg c=some (.ref (aq X.K c))/\Binds X.K fd ps []
 hgc:∀g nm,t.gc g=some nm->∃v u,X.mg nm=some u/\RelV v u/\∀S H,Fz X.K S H v (C.gv g)
 hng:∀x,t.nog x=true->X.mg x=none
 hfl:∀c f,t.fld c f=true->Cls X.K (aq X.K c)/\NoAttr X.K (aq X.K c) f
theorem Cy.comp{t:Tb}{C:Ct}{X:Cx}(c:Cy t C X){N:List Str}{sc:Scope}{q:CC}:Cy t C (fJ X N sc q):=⟨c.calm,c.units,c.hfn,c.hme,c.hmk,c.hgc,c.hng,c.hfl⟩
def sEq(x y:Str):Bool:=decide (x=y)
theorem bS{x y:Str}(h:sEq x y=true):x=y:=of_decide_eq_true h
def kindB(sc:Scope)(x:Str)(k:NameKind):Bool:=decide (sc.names.lookup x=some k)
theorem aE{sc:Scope}{x:Str}{k:NameKind}(h:kindB sc x k=true):sc.names.lookup x=some k:=of_decide_eq_true h
def yU(sc:Scope)(x:Str):Bool:=kindB sc x .local || kindB sc x .cell || kindB sc x .free
def vp(sc:Scope)(x:Str):Bool:=kindB sc x .local || kindB sc x .cell
theorem vq{sc:Scope}{x:Str}(h:yU sc x=true):Vis sc x:=by
 unfold yU at h
 rw[Bool.or_eq_true,Bool.or_eq_true]at h
 rcases h with (h | h) | h
 ·exact .inl (aE h)
 ·exact .inr (.inl (aE h))
 ·exact .inr (.inr (aE h))
theorem nL{sc:Scope}{x:Str}(h:vp sc x=true):Loc sc x:=by
 unfold vp at h
 rw[Bool.or_eq_true]at h
 rcases h with h | h
 ·exact .inl (aE h)
 ·exact .inr (aE h)
def okN(x:Str):Bool:=!(x == ("__debug__":Str)) && !(x == ("__classdict__":Str))
def qf(N:List Str)(sc:Scope)(i:Nat)(x:Str):Bool:=decide (N[i]?=some x) && yU sc x && okN x
structure NmX (X:Cx)(i:Nat)(x:Str):Prop where
 n:X.N[i]?=some x
 v:Vis X.env.scope x
 d:(x == ("__debug__":Str))=false
 c:(x == ("__classdict__":Str))=false
theorem a9{X:Cx}{i:Nat}{x:Str}(h:qf X.N X.env.scope i x=true):NmX X i x:=by
 unfold qf okN at h
 simp only[Bool.and_eq_true,Bool.not_eq_true']at h
 exact⟨of_decide_eq_true h.1.1,vq h.1.2,h.2.1,h.2.2⟩
def nM(N:List Str)(sc:Scope)(i:Nat)(e:Expr):Bool:=(bC e).any fun x=>qf N sc i x
theorem cR{N:List Str}{sc:Scope}{i:Nat}{e:Expr}(h:nM N sc i e=true):∃x p,e=.Name x p/\qf N sc i x=true:=by
 obtain⟨x,h1,h⟩:=anyT h
 obtain⟨p,rfl⟩:=asNm_ok h1
 exact⟨x,p,rfl,h⟩
def zN(sc:Scope)(x:Str):Bool:=kindB sc x .globalImplicit && !(x == ("__debug__":Str))
theorem cz{X:Cx}{x:Str}(h:zN X.env.scope x=true):Gl X x/\(x == ("__debug__":Str))=false:=by
 unfold zN at h
 rw[Bool.and_eq_true]at h
 exact⟨aE h.1,by simpa using h.2⟩
def su(t:Tb)(sc:Scope)(x y:Str):Bool:=sEq x y && zN sc x && t.nog x
theorem blB_ok{t:Tb}{C:Ct}{X:Cx}{x y:Str}(c:Cy t C X)(h:su t X.env.scope x y=true):x=y/\Gl X y/\X.mg y=none:=by
 unfold su at h
 simp only[Bool.and_eq_true]at h
 obtain⟨⟨h1,h2⟩,h3⟩:=h
 have:=bS h1
 subst this
 exact⟨rfl,(cz h2).1,c.hng _ h3⟩
def CK(o:Bo)(op:Operator):Bool:=decide (op=opOf o)
theorem lZ{o:Bo}{op:Operator}(h:CK o op=true):op=opOf o:=of_decide_eq_true h
def Ee(o:Co)(op:CmpOp):Bool:=decide (op=coOf o)
theorem sv{o:Co}{op:CmpOp}(h:Ee o op=true):op=coOf o:=of_decide_eq_true h
def isSet:Expr->Bool
 | .Set _ _ _=>true
 | _=>false
theorem jJ{e:Expr}(op:CmpOp)(h:isSet e=false):behindInMarks op e=false:=by cases e<;>first | rfl | cases h
theorem l4{e:Expr}{env:Env}(h:isSet e=false):∀x,foldedSetIterable e env x=pure x:=by cases e<;>first | (intro _;rfl) | cases h
def isCall:Expr->Bool
 | .Call _ _ _ _=>true
 | _=>false
theorem jK{e:Expr}{f:Str}{env:Env}(h:isCall e=false):attributeBase e f env (eval e env)=eval e env:=by cases e<;>first | rfl | cases h
def BS:UnaryOp->Bool | .USub=>true | _=>false
theorem vu{o:UnaryOp}(h:BS o=true):o=.USub:=by cases o<;>first | rfl | cases h
def EE(k:Int)(e:Expr):Bool:=((iX e).any fun j=>decide (j=k)) || (sm e).any fun z=>BS z.1 && (iX z.2).any fun j=>decide (-j=k)
section
variable{X:Cx}{k:Int}{e:Expr}
theorem BU{j:Nat}{p p':Pos}:PX X (.UnaryOp .USub (.Constant (.int k) j p) p') (fun _=>some (.int (-k))):=⟨_,z9 xH gK,fun σ H Q v e q=>by cases e;exact⟨k,rfl,q⟩⟩
theorem sx(h:EE k e=true):PX X e (fun _=>some (.int k))/\isSlice e=false:=by
 rcases Bool.or_eq_true_iff.mp h with h | h
 ·obtain⟨j,h1,h⟩:=anyT h
  obtain⟨_,_,rfl⟩:=asInt_ok h1
  have:=of_decide_eq_true h
  subst this
  exact⟨Bz,rfl⟩
 ·obtain⟨z,h1,h⟩:=anyT h
  obtain⟨p,rfl⟩:=nH h1
  obtain⟨j,h2,h3⟩:=anyT (an2 h).2
  obtain⟨_,_,e2⟩:=asInt_ok h2
  have:=of_decide_eq_true h3
  subst this
  rw[vu (an2 h).1,e2]
  exact⟨BU,rfl⟩
end
def cS(t:Tb)(N:List Str)(sc:Scope)(i:Nat):List Acc->Expr->Bool
 | []=>fun e=>nM N sc i e
 | .fld c f::ps=>fun e=>(gm e).any fun z=>sEq z.2.1 f && t.fld c f && !isCall z.1 && cS t N sc i ps z.1
 | .ix k::ps=>fun e=>(eA e).any fun z=>EE k z.2 && cS t N sc i ps z.1
 | .key j::ps=>fun e=>(eA e).any fun z=>nM N sc j z.2 && cS t N sc i ps z.1
section
variable{t:Tb}{C:Ct}{X:Cx}{i j:Nat}{e:Expr}
theorem sy(h:nM X.N X.env.scope j e=true):PX X e (fun σ=>σ[j]?.join)/\isSlice e=false:=by
 obtain⟨x,p,rfl,h⟩:=cR h
 obtain⟨h1,h2,h3,h4⟩:=a9 h
 exact⟨DX h1 h2 h3 h4,rfl⟩
theorem Ef{e:Expr}(h:isSlice e=false):NoSl e:=by
 cases e<;>first | exact fun _ _=>rfl | cases h
theorem aU(c:Cy t C X):∀(ps:List Acc) (e:Expr),cS t X.N X.env.scope i ps e=true->PDp X e i ps
 | [],e,h=>by
  obtain⟨x,p,rfl,h⟩:=cR h
  obtain⟨h1,h2,h3,h4⟩:=a9 h
  exact DY h1 h2 h3 h4
 | .fld cn f::ps,e,h=>by
  obtain⟨z,h1,k⟩:=anyT h
  obtain⟨a1,a2,a3,a4⟩:=an4 k
  rw[asAtt_ok h1,bS a1]
  exact BB (jK (bz a3)) (c.hfl _ _ a2).1 (c.hfl _ _ a2).2 (aU c ps _ a4)
 | .ix k::ps,e,h=>by
  obtain⟨z,h1,k⟩:=anyT h
  obtain⟨a1,a2⟩:=an2 k
  obtain⟨p,rfl⟩:=cj h1
  exact DZ (jG (sx (X:=X) a1).2) (aU c ps _ a2) (sx a1).1
 | .key j::ps,e,h=>by
  obtain⟨z,h1,k⟩:=anyT h
  obtain⟨a1,a2⟩:=an2 k
  obtain⟨p,rfl⟩:=cj h1
  exact BD (by have:=c.units;omega) (Ef (sy a1).2) (aU c ps _ a2) (sy a1).1
end
def jL(ok:Nat->Bool)(N:List Str)(sc:Scope)(fn:Bool)(m i:Nat)(x:Str):Bool:=decide (N[i]?=some x) && vp sc x && (fn || kindB sc x .local) && decide (i < m) && ok i
def nN(ok:Nat->Bool)(N:List Str)(sc:Scope)(fn:Bool)(m:Nat):List Nat->List Expr->Bool
 | []=>fun es=>es.isEmpty
 | i::is=>fun es=>(jI es).any fun z=>(bC z.1).any fun x=>jL ok N sc fn m i x && nN ok N sc fn m is z.2
def sA(ok:Nat->Bool)(N:List Str)(sc:Scope)(fn:Bool)(m:Nat):Tg->Expr->Bool
 | .nm i=>fun e=>(bC e).any fun x=>jL ok N sc fn m i x
 | .tp ts=>fun e=>(bD e).any fun es=>nN ok N sc fn m ts es
 | .tn i ts=>fun e=>(bD e).any fun es=>(gC es).any fun w=>(bC w.1).any fun x=>(bD w.2).any fun es=>jL ok N sc fn m i x && nN ok N sc fn m ts es
section
variable{X:Cx}{W:Nat->Prop}{ok:Nat->Bool}{fn:Bool}{m:Nat}
theorem cT{i:Nat}{x:Str}(hf:fn=true->∀x,X.fn x=true)(hw:∀i,ok i=true->¬ W i)(h:jL ok X.N X.env.scope fn m i x=true):Sto X W m i x:=by
 unfold jL at h
 simp only[Bool.and_eq_true,Bool.or_eq_true]at h
 obtain⟨⟨⟨⟨h1,h2⟩,h3⟩,h4⟩,h5⟩:=h
 exact⟨of_decide_eq_true h1,nL h2,h3.imp (fun z=>hf z x) aE,of_decide_eq_true h4,hw i h5⟩
theorem ij(hf:fn=true->∀x,X.fn x=true)(hw:∀i,ok i=true->¬ W i):∀(ts:List Nat) (es:List Expr),nN ok X.N X.env.scope fn m ts es=true->Stos X W m ts es
 | [],es,h=>by
  cases es with
  | nil=>exact .nil
  | cons _ _=>cases h
 | i::is,es,h=>by
  obtain⟨z,h1,k⟩:=anyT h
  obtain⟨x,h2,k⟩:=anyT k
  obtain⟨p,e2⟩:=asNm_ok h2
  rw[con1_ok h1,e2]
  exact .cons (cT hf hw (an2 k).1) (ij hf hw is _ (an2 k).2)
theorem eY{tg:Tg}{e:Expr}(hc:X.calm=true)(hN:X.N.Nodup)(hf:fn=true->∀x,X.fn x=true)(hw:∀i,ok i=true->¬ W i)(h:sA ok X.N X.env.scope fn m tg e=true):PDg X W m e (fR tg):=by
 cases tg with
 | nm i =>
  obtain⟨x,h1,k⟩:=anyT h
  obtain⟨p,rfl⟩:=asNm_ok h1
  exact Bh hN (cT hf hw k)
 | tp ts =>
  obtain⟨es,h1,k⟩:=anyT h
  obtain⟨_,_,rfl⟩:=asTup_ok h1
  exact Bi hc hN (ij hf hw _ _ k)
 | tn i ts =>
  obtain⟨es,h1,k⟩:=anyT h
  obtain⟨w,h2,k⟩:=anyT k
  obtain⟨x,h3,k⟩:=anyT k
  obtain⟨es',h4,k⟩:=anyT k
  obtain⟨_,_,rfl⟩:=asTup_ok h1
  obtain⟨_,e3⟩:=asNm_ok h3
  obtain⟨_,_,e4⟩:=asTup_ok h4
  rw[two2_ok h2,e3,e4]
  exact DQ hc hN (cT hf hw (an2 k).1) (ij hf hw _ _ (an2 k).2)
end
def pX(sc osc:Scope):Scope:={ sc with names:=sc.names.map fun (n,k)=>if (k == NameKind.free && osc.kind == .function && osc.names.lookup n == some .cell) then (n,NameKind.cell) else (n,k) }
def BV:Expr->List Str
 | .Name x _=>[x]
 | .Tuple [.Name x _,.Tuple es _ _] _ _=>x::es.filterMap fun | .Name x _=>some x | _=>none
 | .Tuple es _ _=>es.filterMap fun | .Name x _=>some x | _=>none
 | _=>[]
def sC(N:List Str)(nt:Nat)(ON:List Str)(sc osc:Scope):Nat->List Nat->Bool
 | _,[]=>true
 | i,j::fr=>(match N[nt + i]? with
  | some x=>decide (ON[j]?=some x) && kindB osc x .cell && kindB sc x .free
  | none=>false) && sC N nt ON sc osc (i + 1) fr
def compB(N:List Str)(nt:Nat)(fr:List Nat)(ON:List Str)(sc osc:Scope):Bool :=
 decide (sc.kind=.function) && sc.names.all (fun x=>!decide (x.2=.cell)) && sc.names.all (fun x=>!decide (x.2=.local) || kindB sc x.1 .local) && decide (N.length=nt + fr.length) && sC N nt ON sc osc 0 fr &&
  sc.names.all (fun x=>!decide (x.2=.free) || (kindB osc x.1 .cell && kindB sc x.1 .free))
theorem nO{N:List Str}{nt:Nat}{ON:List Str}{sc osc:Scope}:∀{fr:List Nat} {i0:Nat},sC N nt ON sc osc i0 fr=true->∀(i j:Nat),fr[i]?=some j->∃x,N[nt + (i0 + i)]?=some x/\ON[j]?=some x/\osc.names.lookup x=some .cell/\sc.names.lookup x=some .free
 | [],_,_,i,j,e=>by simp at e
 | j0::fr,i0,h,0,j,e=>by
  simp at e
  subst e
  simp only[sC,Bool.and_eq_true]at h
  obtain⟨h,_⟩:=h
  split at h
  ·rename_i x ex
   simp only[Bool.and_eq_true]at h
   exact⟨x,ex,of_decide_eq_true h.1.1,aE h.1.2,aE h.2⟩
  ·cases h
 | j0::fr,i0,h,i + 1,j,e=>by
  simp only[sC,Bool.and_eq_true]at h
  obtain⟨x,h1,h2⟩:=nO h.2 i j (by simpa using e)
  exact⟨x,by rw[show i0 + (i + 1)=i0 + 1 + i by omega];exact h1,h2⟩
theorem ik{N:List Str}{nt:Nat}{fr:List Nat}{ON:List Str}{sc osc:Scope}(h:compB N nt fr ON sc osc=true):CompScope N nt fr ON sc osc:=by
 unfold compB at h
 simp only[Bool.and_eq_true,List.all_eq_true,Bool.or_eq_true,Bool.not_eq_true',decide_eq_false_iff_not,decide_eq_true_eq]at h
 obtain⟨⟨⟨⟨⟨h1,h2⟩,h3⟩,h4⟩,h5⟩,h6⟩:=h
 refine⟨h1,fun x hx=>h2 x hx,fun x hx e=>?_,h4,fun i j e=>?_,fun x hx e=>?_,fun x hx e=>?_⟩
 ·exact (h3 x hx).elim (fun z=>absurd e z) aE
 ·have:=nO h5 i j e;rwa [Nat.zero_add]at this
 ·exact (h6 x hx).elim (fun z=>absurd e z) fun z=>aE z.1
 ·exact (h6 x hx).elim (fun z=>absurd e z) fun z=>aE z.2
end
section
abbrev Ck:=List Str->Scope->Expr->Bool
def fV(f:Ck):Ck × Ck:=(f,fun N sc e=>plainT e && f N sc e)
def EU:Bn->Str
 | .list=>"list" | .tuple=>"tuple" | .sorted=>"sorted"
def EV:Knd->Str
 | .int=>"int" | .bool=>"bool" | .str=>"str" | .list=>"list" | .tuple=>"tuple" | .seq=>"list"
def vv(e:Expr):Option (Str × List Expr):=(fT e).bind fun z=>(bC z.1).bind fun x=>if z.2.2.1.isEmpty then some (x,z.2.1) else none
theorem jM{e:Expr}{z}(h:vv e=some z):∃p p',e=.Call (.Name z.1 p) z.2 [] p':=by
 obtain⟨c,h1,h⟩:=bnd h
 obtain⟨x,h2,h⟩:=bnd h
 obtain⟨f,xs,ks,p'⟩:=c
 cases ks with
 | cons _ _=>cases h
 | nil =>
  cases h
  obtain⟨p,rfl⟩:=asNm_ok h2
  exact⟨p,p',fU h1⟩
def vw(e:Expr):Option (Expr × CmpOp × Expr):=(nG e).bind fun z=>(ei z.2.1).bind fun o=>(ei z.2.2).bind fun y=>some (z.1,o,y)
theorem gJ{e:Expr}{z}(h:vw e=some z):∃p,e=.Compare z.1 [z.2.1] [z.2.2] p:=by
 obtain⟨c,h1,h⟩:=bnd h
 obtain⟨o,h2,h⟩:=bnd h
 obtain⟨y,h3,h⟩:=bnd h
 cases h
 obtain⟨x,os,ys⟩:=c
 obtain⟨p,rfl⟩:=asCmp_ok h1
 have e1:=one1_ok h2
 have e2:=one1_ok h3
 simp only at e1 e2
 subst e1 e2
 exact⟨p,rfl⟩
def BW(neg:Bool):CmpOp->Bool
 | .Is=>!neg | .IsNot=>neg | _=>false
theorem nP{neg:Bool}{o:CmpOp}(h:BW neg o=true):o=if neg then .IsNot else .Is:=by cases o<;>cases neg<;>first | rfl | cases h
def yV:BoolOp->Bool | .And=>true | _=>false
theorem nQ{o:BoolOp}(h:yV o=true):o=.And:=by cases o<;>first | rfl | cases h
def Eg:BoolOp->Bool | .Or=>true | _=>false
theorem sE{o:BoolOp}(h:Eg o=true):o=.Or:=by cases o<;>first | rfl | cases h
def yW:UnaryOp->Bool | .Not=>true | _=>false
theorem nR{o:UnaryOp}(h:yW o=true):o=.Not:=by cases o<;>first | rfl | cases h
def BX:Operator->Bool | .Add=>true | _=>false
theorem vx{o:Operator}(h:BX o=true):o=.Add:=by cases o<;>first | rfl | cases h
def BY(e:Expr):Option (Str × Str × List Expr × Pos × Pos):=(fT e).bind fun z=>(gm z.1).bind fun a=>(bC a.1).bind fun x=>if z.2.2.1.isEmpty then some (x,a.2.1,z.2.1,a.2.2,z.2.2.2) else none
theorem vy{e:Expr}{z}(h:BY e=some z):∃p,e=.Call (.Attribute (.Name z.1 p) z.2.1 z.2.2.2.1) z.2.2.1 [] z.2.2.2.2:=by
 obtain⟨c,h1,h⟩:=bnd h
 obtain⟨a,h2,h⟩:=bnd h
 obtain⟨x,h3,h⟩:=bnd h
 obtain⟨f,xs,ks,p'⟩:=c
 obtain⟨o,m,ap⟩:=a
 cases ks with
 | cons _ _=>cases h
 | nil =>
  cases h
  obtain⟨p,e3⟩:=asNm_ok h3
  have e2:=asAtt_ok h2
  simp only at e2 e3
  subst e3
  subst e2
  exact⟨p,fU h1⟩
def sF(e:Expr):Option (Expr × Expr × Expr × List Expr × Scope × Pos):=(lY e).bind fun z=>(ei z.2.1).bind fun g=>if g.is_async=0 then some (z.1,g.target,g.iter,g.ifs,z.2.2.1,z.2.2.2) else none
theorem ip{e:Expr}{z}(h:sF e=some z):e=.ListComp z.1 [⟨z.2.1,z.2.2.1,z.2.2.2.1,0⟩] z.2.2.2.2.1 z.2.2.2.2.2:=by
 obtain⟨c,h1,h⟩:=bnd h
 obtain⟨g,h2,h⟩:=bnd h
 obtain⟨x,gs,sc,p⟩:=c
 obtain⟨tg,it,fs,ay⟩:=g
 simp only at h
 by_cases ha:ay=0
 ·subst ha
  rw[if_pos rfl]at h
  cases h
  have e1:=one1_ok h2
  simp only at e1
  subst e1
  exact nK h1
 ·rw[if_neg ha]at h;cases h
end
section
section
variable(t:Tb)
def kO(o:Co)(f g:Ck):Ck:=fun N sc e=>(vw e).any fun z=>Ee o z.2.1 && !isSet z.2.2 && f N sc z.1 && g N sc z.2.2
def wH(neg:Bool)(f:Ck):Ck:=fun N sc e=>(vw e).any fun z=>BW neg z.2.1 && wD z.2.2 && f N sc z.1
def sG(b:BoolOp->Bool)(f g:Ck):Ck:=fun N sc e=>(vn e).any fun z=>b z.1 && ((jI z.2.1).any fun x=>(jI x.2).any fun y=>f N sc x.1 && bif y.2.isEmpty then g N sc y.1 else g N sc (.BoolOp z.1 x.2 z.2.2))
def yX(b:UnaryOp->Bool)(f:Ck):Ck:=fun N sc e=>(sm e).any fun z=>b z.1 && f N sc z.2
def sH(b:Operator->Bool)(f g:Ck):Ck:=fun N sc e=>(nF e).any fun z=>b z.2.1 && f N sc z.1 && g N sc z.2.2
def iq(p:Str->Bool)(f:List Str->Scope->List Expr->Bool):Ck:=fun N sc e=>(vv e).any fun z=>p z.1 && zN sc z.1 && !z.2.isEmpty && !z.2.any isStar && f N sc z.2
def eI(p:Str)(f:Ck):Ck:=fun N sc e=>(vv e).any fun z=>(ei z.2).any fun x=>su t sc z.1 p && !isStar x && f N sc x
def l5(p:Str)(f g:Ck):Ck:=fun N sc e=>(vv e).any fun z=>(gC z.2).any fun x=>su t sc z.1 p && !isStar x.1 && !isStar x.2 && f N sc x.1 && g N sc x.2
def BZ(k:Knd):Ck:=fun N sc e=>match k with
 | .seq=>(bD e).any fun z=>(gC z).any fun w=>((bC w.1).any fun u=>su t sc u "list") && (bC w.2).any fun v=>su t sc v "tuple"
 | k=>(bC e).any fun u=>su t sc u (EV k)
def sI(i:Nat):Ck:=fun N sc e=>(vw e).any fun z=>Ee .ne z.2.1 && nM N sc i z.1 && (iW z.2.2).any fun l=>l.isEmpty
mutual
def aY:E->Ck × Ck
 | .nm i=>fV fun N sc e=>nM N sc i e
 | .mv i=>fV fun N sc e=>nM N sc i e
 | .int k=>fV fun N sc e=>(iX e).any fun j=>decide (j=k)
 | .str k=>fV fun N sc e=>(wC e).any fun j=>sEq j k
 | .bl k=>fV fun N sc e=>(BR e).any fun j=>decide (j=k)
 | .gc g=>fV fun N sc e=>(bC e).any fun x=>decide (t.gc g=some x) && zN sc x
 | .bop o a b=>fV (sH (CK o) (aY a).1 (aY b).1)
 | .cat a b=>fV (sH BX (aY a).1 (aY b).1)
 | .cmp o a b=>(kO o (aY a).1 (aY b).1,kO o (aY a).1 (aY b).1)
 | .isn neg a=>(wH neg (aY a).1,wH neg (aY a).1)
 | .and a b=>(sG yV (aY a).1 (aY b).1,sG yV (aY a).2 (aY b).2)
 | .or a b=>(sG Eg (aY a).1 (aY b).1,sG Eg (aY a).2 (aY b).2)
 | .not a=>(yX yW (aY a).1,yX yW (aY a).2)
 | .ife c a b=>fV fun N sc e=>(so e).any fun z=>(aY c).2 N sc z.1 && (aY a).1 N sc z.2.1 && (aY b).1 N sc z.2.2
 | .tup es=>fV fun N sc e=>(bD e).any fun xs=>eZ es N sc xs
 | .lst es=>fV fun N sc e=>(iW e).any fun xs=>eZ es N sc xs
 | .ix a b=>fV fun N sc e=>(eA e).any fun z=>!isSlice z.2 && (aY a).1 N sc z.1 && (aY b).1 N sc z.2
 | .call f es=>fV (iq (fun x=>decide (t.fn f=some x)) (eZ es))
 | .callS f es=>fV (iq (fun x=>decide (t.fn f=some x)) (eZ es))
 | .blt f es=>fV (iq (fun x=>sEq x (yH f) && t.nog x) (eZ es))
 | .bnw f a=>fV (eI t (EU f) (aY a).1)
 | .isi k a=>fV (l5 t "isinstance" (aY a).1 (BZ t k))
 | .sdd i=>fV (eI t "sorted" fun N sc e=>nM N sc i e)
 | .ln i=>fV (eI t "len" fun N sc e=>nM N sc i e)
 | .nen i=>(sI i,sI i)
 | .dnew=>fV fun N sc e=>wG e
 | .pg i ps=>fV fun N sc e=>cS t N sc i ps e
 | .pf i ps=>fV fun N sc e=>cS t N sc i ps e
 | .pl i ps=>fV (eI t "len" fun N sc e=>cS t N sc i ps e)
 | .pt i ps=>(fun _ _ _=>false,fun N sc e=>plainT e && cS t N sc i ps e)
 | .pin neg a i ps=>(kO (if neg then .nin else .inn) (aY a).1 fun N sc e=>cS t N sc i ps e,kO (if neg then .nin else .inn) (aY a).1 fun N sc e=>cS t N sc i ps e)
 | .comp nt fr it tg ifs elt=>fV fun N sc e=>(sF e).any fun z=>(fun N'=>compB N' nt fr N z.2.2.2.2.1 sc && decide N'.Nodup && !isSet z.2.2.1 && yZ it N sc z.2.1 z.2.2.1 && (sA (fun _=>true) N' (pX z.2.2.2.2.1 sc) false nt tg z.2.1 && yY ifs N' (pX z.2.2.2.2.1 sc) z.2.2.2.1 && (aY elt).1 N' (pX z.2.2.2.2.1 sc) z.1)) (BV z.2.1++fr.filterMap fun j=>N[j]?)
 | .compB i nt fr tg ifs elt=>fV fun N sc e=>(sF e).any fun z=>(fun N'=>compB N' nt fr N z.2.2.2.2.1 sc && decide N'.Nodup && nM N sc i z.2.2.1 && (sA (fun _=>true) N' (pX z.2.2.2.2.1 sc) false nt tg z.2.1 && yY ifs N' (pX z.2.2.2.2.1 sc) z.2.2.2.1 && (aY elt).1 N' (pX z.2.2.2.2.1 sc) z.1)) (BV z.2.1++fr.filterMap fun j=>N[j]?)
 | .meth c m f i es=>fV fun N sc e=>(BY e).any fun z=>decide (t.me f=some (c,m)) && sEq z.2.1 m && qf N sc i z.1 && !z.2.2.1.any isStar && (decide (z.2.2.1.length < 30) && (z.2.2.2.1.endLine == z.2.2.2.2.line) && eZ es N sc z.2.2.1)
 | .make c f es=>fV (iq (fun x=>decide (t.mk' f=some c) && sEq x c) (eZ es))
def eZ:Es->List Str->Scope->List Expr->Bool
 | .nil=>fun N sc xs=>xs.isEmpty
 | .cons a es=>fun N sc xs=>(jI xs).any fun z=>!isStar z.1 && (aY a).1 N sc z.1 && eZ es N sc z.2
def yY:Eo->List Str->Scope->List Expr->Bool
 | .none=>fun N sc o=>o.isEmpty
 | .some a=>fun N sc o=>(ei o).any fun x=>(aY a).2 N sc x
def yZ:It'->List Str->Scope->Expr->Expr->Bool
 | .seq a=>fun N sc g e=>(aY a).1 N sc e
 | .rg1 a=>fun N sc g e=>eI t "range" (aY a).1 N sc e
 | .enm a=>fun N sc g e=>isTup g && eI t "enumerate" (aY a).1 N sc e
 | .zip a b=>fun N sc g e=>isTup g && l5 t "zip" (aY a).1 (aY b).1 N sc e
end
end
def vz:Expr->Bool
 | .BoolOp _ _ _=>true
 | _=>false
structure EOk (t:Tb)(C:Ct)(m:E):Prop where
 v:∀X e,Cy t C X->(aY t m).1 X.N X.env.scope e=true->PDe X e (aF C m)
 w:∀X e,Cy t C X->vz e=true->(aY t m).2 X.N X.env.scope e=true->PDw X e (gF C m)
 t:∀X e,Cy t C X->(aY t m).2 X.N X.env.scope e=true->PDt X e (gF C m)
section
variable{t:Tb}{C:Ct}{X:Cx}{e:Expr}
theorem jN(h:vz e=true):∃o xs p,e=.BoolOp o xs p:=by cases e<;>first | exact⟨_,_,_,rfl⟩ | cases h
theorem aC{m:E}(hc:(aY t m).2=fun N sc e=>plainT e && (aY t m).1 N sc e)(hm:bf C m=(vt (ev C m)).2)(hv:∀X e,Cy t C X->(aY t m).1 X.N X.env.scope e=true->PDe X e (aF C m)):EOk t C m :=
 ⟨hv,fun X e c hb h=>by
  rw[hc]at h
  obtain⟨o,xs,p,rfl⟩:=jN hb
  exact absurd h Bool.false_ne_true,
  fun X e c h=>by
  rw[hc]at h
  exact Bc hm (an2 h).1 (hv X e c (an2 h).2)⟩
theorem ir{m:E}(hw:∀(X:Cx) e,vz e=true->(aY t m).2 X.N X.env.scope e=false)(hv:∀X e,Cy t C X->(aY t m).1 X.N X.env.scope e=true->PDe X e (aF C m))(ht:∀X e,Cy t C X->(aY t m).2 X.N X.env.scope e=true->PDt X e (gF C m)):EOk t C m :=
 ⟨hv,fun X e c hb h=>absurd h (by rw[hw X e hb];exact Bool.false_ne_true),ht⟩
theorem sJ{f:Ck}{N:List Str}{sc:Scope}(hb:vz e=true)(h:∀o xs p,f N sc (.BoolOp o xs p)=false):f N sc e=false:=by
 obtain⟨o,xs,p,rfl⟩:=jN hb
 exact h o xs p
theorem ckBin_ok{b:Operator->Bool}{f g:Ck}{N:List Str}{sc:Scope}(h:sH b f g N sc e=true):∃x o y p,e=.BinOp x o y p/\b o=true/\f N sc x=true/\g N sc y=true:=by
 obtain⟨z,h1,h⟩:=anyT h
 obtain⟨p,rfl⟩:=si h1
 exact⟨_,_,_,p,rfl,an3 h⟩
theorem ckUn_ok{b:UnaryOp->Bool}{f:Ck}{N:List Str}{sc:Scope}(h:yX b f N sc e=true):∃o x p,e=.UnaryOp o x p/\b o=true/\f N sc x=true:=by
 obtain⟨z,h1,h⟩:=anyT h
 obtain⟨p,rfl⟩:=nH h1
 exact⟨_,_,p,rfl,an2 h⟩
theorem fb{o:Co}{f g:Ck}{N:List Str}{sc:Scope}(h:kO o f g N sc e=true):∃x y p,e=.Compare x [coOf o] [y] p/\isSet y=false/\f N sc x=true/\g N sc y=true:=by
 obtain⟨z,h1,h⟩:=anyT h
 obtain⟨p,rfl⟩:=gJ h1
 obtain⟨h1,h2,h3,h4⟩:=an4 h
 exact⟨_,_,p,by rw[sv h1],bz h2,h3,h4⟩
theorem kP{X:Cx}{i:Nat}(h:sI i X.N X.env.scope e=true):∃x q p r,e=.Compare (.Name x q) [.NotEq] [.List [] p] r/\qf X.N X.env.scope i x=true:=by
 obtain⟨z,h1,h⟩:=anyT h
 obtain⟨p,rfl⟩:=gJ h1
 obtain⟨a1,a2,a3⟩:=an3 h
 obtain⟨x,q,e0,h0⟩:=cR a2
 obtain⟨l,b1,b2⟩:=anyT a3
 obtain⟨r,e1⟩:=ig b1
 exact⟨x,q,r,p,by rw[sv a1,e0,e1,List.isEmpty_iff.mp b2];rfl,h0⟩
theorem dY{p:Str->Bool}{f:List Str->Scope->List Expr->Bool}{N:List Str}{sc:Scope}(h:iq p f N sc e=true):∃x z zs q q',e=.Call (.Name x q) (z::zs) [] q'/\p x=true/\zN sc x=true/\isStar z=false/\zs.any isStar=false/\f N sc (z::zs)=true:=by
 obtain⟨z,h1,h⟩:=anyT h
 obtain⟨q,q',rfl⟩:=jM h1
 obtain⟨h1,h2,h3,h4,h5⟩:=an5 h
 obtain⟨x,xs⟩:=z
 cases xs with
 | nil=>cases h3
 | cons y ys =>
  have:=bz h4
  rw[List.any_cons,Bool.or_eq_false_iff]at this
  exact⟨x,y,ys,q,q',rfl,h1,h2,this.1,this.2,h5⟩
theorem bY{p:Str}{f:Ck}{N:List Str}{sc:Scope}(h:eI t p f N sc e=true):∃x z q q',e=.Call (.Name x q) [z] [] q'/\su t sc x p=true/\isStar z=false/\f N sc z=true:=by
 obtain⟨z,h1,h⟩:=anyT h
 obtain⟨w,h2,h⟩:=anyT h
 obtain⟨q,q',rfl⟩:=jM h1
 obtain⟨x,xs⟩:=z
 have:=one1_ok h2
 simp only at this
 subst this
 obtain⟨h1,h2,h3⟩:=an3 h
 exact⟨x,w,q,q',rfl,h1,bz h2,h3⟩
theorem iY{p:Str}{f g:Ck}{N:List Str}{sc:Scope}(h:l5 t p f g N sc e=true):∃x z w q q',e=.Call (.Name x q) [z,w] [] q'/\su t sc x p=true/\isStar z=false/\isStar w=false/\f N sc z=true/\g N sc w=true:=by
 obtain⟨z,h1,h⟩:=anyT h
 obtain⟨w,h2,h⟩:=anyT h
 obtain⟨q,q',rfl⟩:=jM h1
 obtain⟨x,xs⟩:=z
 have:=two2_ok h2
 simp only at this
 subst this
 obtain⟨h1,h2,h3,h4,h5⟩:=an5 h
 exact⟨x,_,_,q,q',rfl,h1,bz h2,bz h3,h4,h5⟩
theorem ckBo_ok{b:BoolOp->Bool}{f g:Ck}{N:List Str}{sc:Scope}(h:sG b f g N sc e=true):∃o x y es p,e=.BoolOp o (x::y::es) p/\b o=true/\f N sc x=true/\((es=[]/\g N sc y=true)\/g N sc (.BoolOp o (y::es) p)=true):=by
 obtain⟨z,h1,h⟩:=anyT h
 have:=vo h1
 subst this
 obtain⟨h2,h⟩:=an2 h
 obtain⟨x,h3,h⟩:=anyT h
 obtain⟨y,h4,h⟩:=anyT h
 obtain⟨h5,h⟩:=an2 h
 obtain⟨o,xs,p⟩:=z
 obtain⟨x,xs'⟩:=x
 obtain⟨y,es⟩:=y
 have e1:=con1_ok h3
 have e2:=con1_ok h4
 simp only at e1 e2
 subst e2
 subst e1
 cases es with
 | nil=>exact⟨o,x,y,[],p,rfl,h2,h5,.inl ⟨rfl,h⟩⟩
 | cons a es=>exact⟨o,x,y,a::es,p,rfl,h2,h5,.inr h⟩
theorem l6 {x:Str} {T:String} {p:Pos} (hg:Gl X x) (hm:X.mg x=none) (hv:bootBuiltins x=some (.type T)) (hn:x≠"__name__") (hd:(x == ("__debug__":Str))=false):PE X (.Name x p) (tC (.ty T)):=ug hg hm hv rfl hn hd
theorem y0 {z w:Expr} {x:Str} {q q':Pos} {k:Knd} {ma:E} (c:Cy t C X) (h1:su t X.env.scope x "isinstance"=true) (h2:isStar z=false) (h3:BZ t k X.N X.env.scope w=true) (ha:PDe X z (aF C ma)):PDe X (.Call (.Name x q) [z,w] [] q') (aF C (.isi k ma)):=by
 obtain⟨g1,g2,g3⟩:=blB_ok c h1
 subst g1
 have nmd:∀{T:Str},((bC w).any fun u=>su t X.env.scope u T)=true->∃p,w=.Name T p/\Gl X T/\X.mg T=none:=fun {T} h=>by
  obtain⟨u,a1,a2⟩:=anyT h
  obtain⟨p,rfl⟩:=asNm_ok a1
  obtain⟨f1,f2,f3⟩:=blB_ok c a2
  subst f1
  exact⟨p,rfl,f2,f3⟩
 cases k with
 | int=>obtain⟨p,rfl,f2,f3⟩:=nmd h3;exact ia (T:="int") rfl (l6 f2 f3 qJ (by decide) (by decide)) g2 g3 h2 rfl ha
 | bool=>obtain⟨p,rfl,f2,f3⟩:=nmd h3;exact ia (T:="bool") rfl (l6 f2 f3 uA (by decide) (by decide)) g2 g3 h2 rfl ha
 | str=>obtain⟨p,rfl,f2,f3⟩:=nmd h3;exact ia (T:="str") rfl (l6 f2 f3 x9 (by decide) (by decide)) g2 g3 h2 rfl ha
 | list=>obtain⟨p,rfl,f2,f3⟩:=nmd h3;exact ia (T:="list") rfl (l6 f2 f3 jt (by decide) (by decide)) g2 g3 h2 rfl ha
 | tuple=>obtain⟨p,rfl,f2,f3⟩:=nmd h3;exact ia (T:="tuple") rfl (l6 f2 f3 gW (by decide) (by decide)) g2 g3 h2 rfl ha
 | seq =>
  obtain⟨zs,a1,h3⟩:=anyT h3
  obtain⟨w',a2,h3⟩:=anyT h3
  obtain⟨b1,b2⟩:=an2 h3
  obtain⟨u,c1,c2⟩:=anyT b1
  obtain⟨v,d1,d2⟩:=anyT b2
  obtain⟨k1,p1,rfl⟩:=asTup_ok a1
  have:=two2_ok a2
  subst this
  obtain⟨w1,w2⟩:=w'
  obtain⟨p2,e2⟩:=asNm_ok c1
  obtain⟨p3,e3⟩:=asNm_ok d1
  simp only at e2 e3
  subst e2 e3
  obtain⟨f1,f2,f3⟩:=blB_ok c c2
  obtain⟨l1,l2,l3⟩:=blB_ok c d2
  subst f1 l1
  exact yJ (l6 f2 f3 jt (by decide) (by decide)) (l6 l2 l3 gW (by decide) (by decide)) g2 g3 h2 rfl rfl ha
mutual
theorem br:∀m:E,EOk t C m
 | .nm i=>aC rfl rfl fun X e c h=>by
  obtain⟨x,p,rfl,h⟩:=cR h
  obtain⟨h1,h2,h3,h4⟩:=a9 h
  exact DH h1 h2 h3 h4
 | .mv i=>aC rfl rfl fun X e c h=>by
  obtain⟨x,p,rfl,h⟩:=cR h
  obtain⟨h1,h2,h3,h4⟩:=a9 h
  exact DJ h1 h2 h3 h4
 | .int k=>aC rfl rfl fun X e c h=>by
  obtain⟨j,h1,h⟩:=anyT h
  obtain⟨_,_,rfl⟩:=asInt_ok h1
  have:=of_decide_eq_true h
  subst this
  exact AZ
 | .str k=>aC rfl rfl fun X e c h=>by
  obtain⟨j,h1,h⟩:=anyT h
  obtain⟨_,_,rfl⟩:=asStr_ok h1
  have:=bS h
  subst this
  exact A6
 | .bl k=>aC rfl rfl fun X e c h=>by
  obtain⟨j,h1,h⟩:=anyT h
  obtain⟨_,_,rfl⟩:=asBl_ok h1
  have:=of_decide_eq_true h
  subst this
  exact DL
 | .gc g=>aC rfl rfl fun X e c h=>by
  obtain⟨x,h1,h⟩:=anyT h
  obtain⟨_,rfl⟩:=asNm_ok h1
  obtain⟨v,u,g1,g2,g3⟩:=c.hgc _ _ (of_decide_eq_true (an2 h).1)
  exact DM (cz (an2 h).2).1 g1 g2 g3 (cz (an2 h).2).2
 | .bop o a b=>aC rfl rfl fun X e c h=>by
  obtain⟨x,o',y,p,rfl,h1,h2,h3⟩:=ckBin_ok h
  have:=lZ h1
  subst this
  exact AW ((br a).v X _ c h2) ((br b).v X _ c h3)
 | .cat a b=>aC rfl rfl fun X e c h=>by
  obtain⟨x,o',y,p,rfl,h1,h2,h3⟩:=ckBin_ok h
  have:=vx h1
  subst this
  exact Bf ((br a).v X _ c h2) ((br b).v X _ c h3)
 | .cmp o a b=>ir (fun X e hb=>sJ (f:=(aY t (.cmp o a b)).2) hb fun _ _ _=>rfl) (fun X e c h=>by
  obtain⟨x,y,p,rfl,h2,h3,h4⟩:=fb h
  exact AX c.units (jJ _ h2) ((br a).v X _ c h3) ((br b).v X _ c h4)) fun X e c h=>by
  obtain⟨x,y,p,rfl,h2,h3,h4⟩:=fb h
  exact AY c.units (jJ _ h2) ((br a).v X _ c h3) ((br b).v X _ c h4)
 | .isn neg a=>ir (fun X e hb=>sJ (f:=(aY t (.isn neg a)).2) hb fun _ _ _=>rfl) (fun X e c h=>by
  obtain⟨z,h1,h⟩:=anyT h
  obtain⟨p,rfl⟩:=gJ h1
  obtain⟨a1,a2,a3⟩:=an3 h
  obtain⟨_,_,e2⟩:=kN a2
  rw[nP a1,e2]
  exact A7 ((br a).v X _ c a3)) fun X e c h=>by
  obtain⟨z,h1,h⟩:=anyT h
  obtain⟨p,rfl⟩:=gJ h1
  obtain⟨a1,a2,a3⟩:=an3 h
  obtain⟨_,_,e2⟩:=kN a2
  rw[nP a1,e2]
  exact A8 ((br a).v X _ c a3)
 | .and a b=>by
  have hw:∀X e,Cy t C X->(aY t (.and a b)).2 X.N X.env.scope e=true->PDw X e (gF C (.and a b)):=fun X e c h=>by
   obtain⟨o,x,y,es,p,rfl,h1,h2,h3⟩:=ckBo_ok h
   have:=nQ h1
   subst this
   refine A9 ((br a).t X _ c h2) ?_
   rcases h3 with ⟨rfl,h3⟩ | h3
   ·exact qY ((br b).t X _ c h3)
   ·exact (br b).w X _ c rfl h3
  refine⟨fun X e c h=>?_,fun X e c _ h=>hw X e c h,fun X e c h=>(hw X e c h).pt⟩
  obtain⟨o,x,y,es,p,rfl,h1,h2,h3⟩:=ckBo_ok h
  have:=nQ h1
  subst this
  refine v_and ((br a).v X _ c h2) ?_
  rcases h3 with ⟨rfl,h3⟩ | h3
  ·exact qV ((br b).v X _ c h3)
  ·exact (br b).v X _ c h3
 | .or a b=>by
  have hw:∀X e,Cy t C X->(aY t (.or a b)).2 X.N X.env.scope e=true->PDw X e (gF C (.or a b)):=fun X e c h=>by
   obtain⟨o,x,y,es,p,rfl,h1,h2,h3⟩:=ckBo_ok h
   have:=sE h1
   subst this
   refine DN ((br a).t X _ c h2) ?_
   rcases h3 with ⟨rfl,h3⟩ | h3
   ·exact uO ((br b).t X _ c h3)
   ·exact (br b).w X _ c rfl h3
  refine⟨fun X e c h=>?_,fun X e c _ h=>hw X e c h,fun X e c h=>(hw X e c h).pt⟩
  obtain⟨o,x,y,es,p,rfl,h1,h2,h3⟩:=ckBo_ok h
  have:=sE h1
  subst this
  refine v_or ((br a).v X _ c h2) ?_
  rcases h3 with ⟨rfl,h3⟩ | h3
  ·exact qV ((br b).v X _ c h3)
  ·exact (br b).v X _ c h3
 | .not a=>ir (fun X e hb=>sJ (f:=(aY t (.not a)).2) hb fun _ _ _=>rfl) (fun X e c h=>by
  obtain⟨o,x,p,rfl,h1,h2⟩:=ckUn_ok h
  have:=nR h1
  subst this
  exact v_not ((br a).v X _ c h2)) fun X e c h=>by
  obtain⟨o,x,p,rfl,h1,h2⟩:=ckUn_ok h
  have:=nR h1
  subst this
  exact Ba ((br a).t X _ c h2)
 | .ife z a b=>aC rfl rfl fun X e c h=>by
  obtain⟨q,h1,h⟩:=anyT h
  obtain⟨p,rfl⟩:=nI h1
  obtain⟨a1,a2,a3⟩:=an3 h
  exact Bb ((br z).t X _ c a1) ((br a).v X _ c a2) ((br b).v X _ c a3)
 | .tup es=>aC rfl rfl fun X e c h=>by
  obtain⟨q,h1,h⟩:=anyT h
  obtain⟨_,_,rfl⟩:=asTup_ok h1
  exact Bd (ud es X _ c h)
 | .lst es=>aC rfl rfl fun X e c h=>by
  obtain⟨q,h1,h⟩:=anyT h
  obtain⟨_,rfl⟩:=ig h1
  exact Be (ud es X _ c h)
 | .ix a b=>aC rfl rfl fun X e c h=>by
  obtain⟨q,h1,h⟩:=anyT h
  obtain⟨_,rfl⟩:=cj h1
  obtain⟨a1,a2,a3⟩:=an3 h
  exact DP (bz a1) ((br a).v X _ c a2) ((br b).v X _ c a3)
 | .call f es=>aC rfl rfl fun X e c h=>by
  obtain⟨x,z,zs,q,q',rfl,h1,h2,h3,h4,h5⟩:=dY (p:=fun x=>decide (t.fn f=some x)) (f:=eZ t es) (N:=X.N) (sc:=X.env.scope) (e:=e) h
  obtain⟨k,fa,fd,ps,g1,g2,g3,g4,g5⟩:=c.hfn _ _ (of_decide_eq_true h1)
  exact yE g1 g2 (cz h2).1 g3 g4 g5 (cz h2).2 h3 h4 (ud es X _ c h5)
 | .callS f es=>aC rfl rfl fun X e c h=>by
  obtain⟨x,z,zs,q,q',rfl,h1,h2,h3,h4,h5⟩:=dY (p:=fun x=>decide (t.fn f=some x)) (f:=eZ t es) (N:=X.N) (sc:=X.env.scope) (e:=e) h
  obtain⟨k,fa,fd,ps,g1,g2,g3,g4,g5⟩:=c.hfn _ _ (of_decide_eq_true h1)
  exact vd g1 g2 (cz h2).1 g3 g4 g5 (cz h2).2 h3 h4 (ud es X _ c h5)
 | .blt f es=>aC rfl rfl fun X e c h=>by
  obtain⟨x,z,zs,q,q',rfl,h1,h2,h3,h4,h5⟩:=dY (p:=fun x=>sEq x (yH f) && t.nog x) (f:=eZ t es) (N:=X.N) (sc:=X.env.scope) (e:=e) h
  have:=bS (an2 h1).1
  subst this
  exact Bg c.calm (cz h2).1 (c.hng _ (an2 h1).2) h3 h4 (ud es X _ c h5)
 | .bnw f a=>aC rfl rfl fun X e c h=>by
  obtain⟨x,z,q,q',rfl,h1,h2,h3⟩:=bY h
  obtain⟨g1,g2,g3⟩:=blB_ok c h1
  subst g1
  cases f with
  | list=>exact yI g2 g3 h2 ((br a).v X _ c h3)
  | tuple=>exact vf g2 g3 h2 ((br a).v X _ c h3)
  | sorted=>exact rV g2 g3 h2 ((br a).v X _ c h3)
 | .isi k a=>aC rfl rfl fun X e c h=>by
  obtain⟨x,z,w,q,q',rfl,h1,h2,h3,h4,h5⟩:=iY h
  exact y0 c h1 h2 h5 ((br a).v X _ c h4)
 | .sdd i=>aC rfl rfl fun X e c h=>by
  obtain⟨x,z,q,q',rfl,h1,h2,h3⟩:=bY (t:=t) (p:="sorted") (f:=fun N sc e=>nM N sc i e) (N:=X.N) (sc:=X.env.scope) (e:=e) h
  obtain⟨g1,g2,g3⟩:=blB_ok c h1
  obtain⟨y,p,e0,h0⟩:=cR h3
  obtain⟨n1,n2,n3,n4⟩:=a9 h0
  subst g1
  rw[e0]
  exact BH c.calm g2 g3 n1 n2 n3 n4
 | .ln i=>aC rfl rfl fun X e c h=>by
  obtain⟨x,z,q,q',rfl,h1,h2,h3⟩:=bY (t:=t) (p:="len") (f:=fun N sc e=>nM N sc i e) (N:=X.N) (sc:=X.env.scope) (e:=e) h
  obtain⟨g1,g2,g3⟩:=blB_ok c h1
  obtain⟨y,p,e0,h0⟩:=cR h3
  obtain⟨n1,n2,n3,n4⟩:=a9 h0
  subst g1
  rw[e0]
  exact D8 g2 g3 n1 n2 n3 n4
 | .nen i=>ir (fun X e hb=>sJ (f:=(aY t (.nen i)).2) hb fun _ _ _=>rfl) (fun X e c h=>by
  obtain⟨x,q,p,r,rfl,h0⟩:=kP (X:=X) h
  obtain⟨n1,n2,n3,n4⟩:=a9 h0
  exact BI c.units n1 n2 n3 n4) fun X e c h=>by
  obtain⟨x,q,p,r,rfl,h0⟩:=kP (X:=X) h
  obtain⟨n1,n2,n3,n4⟩:=a9 h0
  exact BJ c.units n1 n2 n3 n4
 | .dnew=>aC rfl rfl fun X e c h=>by
  obtain⟨_,rfl⟩:=sr h
  exact yF
 | .pg i ps=>aC rfl rfl fun X e c h=>D0 (aU c ps _ h)
 | .pf i ps=>aC rfl rfl fun X e c h=>D1 (aU c ps _ h)
 | .pl i ps=>aC rfl rfl fun X e c h=>by
  obtain⟨x,z,q,q',rfl,h1,h2,h3⟩:=bY (t:=t) (p:="len") (f:=fun N sc e=>cS t N sc i ps e) (N:=X.N) (sc:=X.env.scope) (e:=e) h
  obtain⟨g1,g2,g3⟩:=blB_ok c h1
  subst g1
  exact D2 g2 g3 h2 (aU c ps _ h3)
 | .pt i ps=>⟨fun X e c h=>absurd h Bool.false_ne_true,fun X e c hb h=>by
   obtain⟨o,xs,p,rfl⟩:=jN hb
   exact absurd h Bool.false_ne_true,fun X e c h=>D3 (an2 h).1 (aU c ps _ (an2 h).2)⟩
 | .pin neg a i ps=>ir (fun X e hb=>sJ (f:=(aY t (.pin neg a i ps)).2) hb fun _ _ _=>rfl) (fun X e c h=>by
  obtain⟨x,y,p,rfl,h2,h3,h4⟩:=fb (o:=if neg then .nin else .inn) (f:=(aY t a).1) (g:=fun N sc e=>cS t N sc i ps e) (N:=X.N) (sc:=X.env.scope) (e:=e) h
  exact (rX c.units (jJ _ h2) ((br a).v X _ c h3) (aU c ps _ h4)).1) fun X e c h=>by
  obtain⟨x,y,p,rfl,h2,h3,h4⟩:=fb (o:=if neg then .nin else .inn) (f:=(aY t a).1) (g:=fun N sc e=>cS t N sc i ps e) (N:=X.N) (sc:=X.env.scope) (e:=e) h
  exact (rX c.units (jJ _ h2) ((br a).v X _ c h3) (aU c ps _ h4)).2
 | .comp nt fr it tg ifs elt=>aC rfl rfl fun X e c h=>by
  obtain⟨z,h1,h⟩:=anyT h
  have:=ip h1
  subst this
  obtain⟨a1,a2,a3,a4,a5⟩:=an5 h
  obtain⟨b1,b2,b3⟩:=an3 a5
  exact yM c.calm (ik a1) (l4 (bz a3)) (Ei it X _ _ c a4) (fun q=>eY (X:=fJ X _ z.2.2.2.2.1 q) (fn:=false) c.calm (of_decide_eq_true a2) (fun z=>by cases z) (fun _ _ z=>z) b1) fun q=>Eh ifs (fJ X _ z.2.2.2.2.1 q) _ _ c.comp (br elt) b2 b3
 | .compB i nt fr tg ifs elt=>aC rfl rfl fun X e c h=>by
  obtain⟨z,h1,h⟩:=anyT h
  have:=ip h1
  subst this
  obtain⟨a1,a2,a3,a5⟩:=an4 h
  obtain⟨b1,b2,b3⟩:=an3 a5
  obtain⟨x,p,e0,h0⟩:=cR a3
  obtain⟨n1,n2,n3,n4⟩:=a9 h0
  rw[e0]
  exact vm n1 n2 n3 n4 c.calm (ik a1) (fun q=>eY (X:=fJ X _ z.2.2.2.2.1 q) (fn:=false) c.calm (of_decide_eq_true a2) (fun z=>by cases z) (fun _ _ z=>z) b1) fun q=>Eh ifs (fJ X _ z.2.2.2.2.1 q) _ _ c.comp (br elt) b2 b3
 | .meth cn m f i es=>aC rfl rfl fun X e c h=>by
  obtain⟨z,h1,h⟩:=anyT h
  obtain⟨p,rfl⟩:=vy h1
  obtain⟨a1,a2,a3,a4,a5⟩:=an5 h
  obtain⟨b1,b2,b3⟩:=an3 a5
  obtain⟨x,m',zs,ap,q⟩:=z
  have:=bS a2
  simp only at this
  subst this
  obtain⟨g0,k,fa,fd,ps,g1,g2,g3,g4⟩:=c.hme _ _ _ (of_decide_eq_true a1)
  obtain⟨n1,n2,n3,n4⟩:=a9 a3
  cases zs with
  | nil =>
   cases es with
   | nil=>exact vl g0 g1 g2 g3 g4 n1 n2 n3 n4 b2
   | cons a es=>cases b3
  | cons z zs =>
   have:=bz a4
   rw[List.any_cons,Bool.or_eq_false_iff]at this
   exact yS g0 g1 g2 g3 g4 n1 n2 n3 n4 this.1 this.2 b1 b2 (ud es X _ c b3)
 | .make cn f es=>aC rfl rfl fun X e c h=>by
  obtain⟨x,z,zs,q,q',rfl,h1,h2,h3,h4,h5⟩:=dY (p:=fun x=>decide (t.mk' f=some cn) && sEq x cn) (f:=eZ t es) (N:=X.N) (sc:=X.env.scope) (e:=e) h
  have:=bS (an2 h1).2
  subst this
  obtain⟨k,fa,fd,ps,g1,g2,g3,g4,g5⟩:=c.hmk _ _ (of_decide_eq_true (an2 h1).1)
  exact yT g1 g2 g3 (cz h2).1 g4 g5 (cz h2).2 h3 h4 (ud es X _ c h5)
theorem ud:∀(m:Es) X xs,Cy t C X->eZ t m X.N X.env.scope xs=true->PDa X xs (eG C m)
 | .nil,X,xs,c,h=>by
  cases xs with
  | nil=>exact fQ
  | cons _ _=>cases h
 | .cons a es,X,xs,c,h=>by
  obtain⟨z,h1,h⟩:=anyT h
  have:=con1_ok h1
  subst this
  obtain⟨a1,a2,a3⟩:=an3 h
  exact cQ (bz a1) ((br a).v X _ c a2) (ud es X _ c a3)
theorem Eh:∀(m:Eo) {elt:E} X fs x,Cy t C X->EOk t C elt->yY t m X.N X.env.scope fs=true->(aY t elt).1 X.N X.env.scope x=true->PDc X fs x (wA C m elt)
 | .none,elt,X,fs,x,c,he,h,h'=>by
  cases fs with
  | nil=>exact vg (he.v X _ c h')
  | cons _ _=>cases h
 | .some a,elt,X,fs,x,c,he,h,h'=>by
  obtain⟨z,h1,h⟩:=anyT h
  have:=one1_ok h1
  subst this
  exact yL ((br a).t X _ c h) (he.v X _ c h')
theorem Ei:∀(m:It') X g e,Cy t C X->yZ t m X.N X.env.scope g e=true->PDi X g e (iK C m)
 | .seq a,X,g,e,c,h=>Bk ((br a).v X _ c h)
 | .rg1 a,X,g,e,c,h=>by
  obtain⟨x,z,q,q',rfl,h1,h2,h3⟩:=bY h
  obtain⟨g1,g2,g3⟩:=blB_ok c h1
  subst g1
  exact Bm g2 g3 h2 ((br a).v X _ c h3)
 | .enm a,X,g,e,c,h=>by
  obtain⟨h0,h⟩:=an2 h
  obtain⟨xs,k,p,rfl⟩:=eX h0
  obtain⟨x,z,q,q',rfl,h1,h2,h3⟩:=bY h
  obtain⟨g1,g2,g3⟩:=blB_ok c h1
  subst g1
  exact Bp g2 g3 h2 ((br a).v X _ c h3)
 | .zip a b,X,g,e,c,h=>by
  obtain⟨h0,h⟩:=an2 h
  obtain⟨xs,k,p,rfl⟩:=eX h0
  obtain⟨x,z,w,q,q',rfl,h1,h2,h3,h4,h5⟩:=iY h
  obtain⟨g1,g2,g3⟩:=blB_ok c h1
  subst g1
  exact Bq g2 g3 h2 h3 ((br a).v X _ c h4) ((br b).v X _ c h5)
end
end
end
section
def bkS(sc:Scope):ScopeKind:=if sc.kind.isAnnotationScope then .function else sc.kind
def pY(ts:List Expr)(sc:Scope):List Str:=ts.filterMap fun
  | .Name id pos=>if sc.names.lookup id == some .local && pos.line == (ts.head?.map (·.pos.line)).getD 0 then some id else none
  | _=>none
def CL(ts vs:List Expr)(sc:Scope):Option (Option (List Str)) :=
 if !(ts.length == 2 || ts.length == 3) || vs.length != ts.length || bkS sc != .function then some none
 else if (vs.any fun | .Starred ..=>true | _=>false) then some none
 else if (pY ts sc).length != ts.length || (pY ts sc).eraseDups.length != (pY ts sc).length then some none
 else if vs.all (foldedForSure 8) then some none
 else if vs.all (constantsAlone 8) then none
 else some (some (pY ts sc))
theorem l7{ts vs:List Expr}{env:Env}{k k2:Nat}{p p2:Pos}{r:Option (List Str)}(h:CL ts vs env.scope=some r):swappedStores [.Tuple ts k p] (.Tuple vs k2 p2) env=pure r:=by
 unfold CL at h
 unfold swappedStores
 split at h
 ·rename_i hc
  cases h
  show (if (!(ts.length == 2 || ts.length == 3) || vs.length != ts.length || env.blockKind != .function)=true then _ else _)=_
  rw[if_pos (show (!(ts.length == 2 || ts.length == 3) || vs.length != ts.length || env.blockKind != .function)=true from hc)]
 ·rename_i hc
  show (if (!(ts.length == 2 || ts.length == 3) || vs.length != ts.length || env.blockKind != .function)=true then _ else _)=_
  rw[if_neg (show ¬ (!(ts.length == 2 || ts.length == 3) || vs.length != ts.length || env.blockKind != .function)=true from hc)]
  split at h
  ·rename_i hc2
   cases h
   show (if (vs.any fun | .Starred ..=>true | _=>false)=true then _ else _)=_
   rw[if_pos hc2]
  ·rename_i hc2
   show (if (vs.any fun | .Starred ..=>true | _=>false)=true then _ else _)=_
   rw[if_neg hc2]
   split at h
   ·rename_i hc3
    cases h
    show (if ((pY ts env.scope).length != ts.length || (pY ts env.scope).eraseDups.length != (pY ts env.scope).length)=true then _ else _)=_
    rw[if_pos hc3]
   ·rename_i hc3
    show (if ((pY ts env.scope).length != ts.length || (pY ts env.scope).eraseDups.length != (pY ts env.scope).length)=true then _ else _)=_
    rw[if_neg hc3]
    split at h
    ·rename_i hc4
     cases h
     show (if vs.all (foldedForSure 8)=true then _ else _)=_
     rw[if_pos hc4]
    ·rename_i hc4
     show (if vs.all (foldedForSure 8)=true then _ else _)=_
     rw[if_neg hc4]
     split at h
     ·cases h
     ·rename_i hc5
      cases h
      show (if vs.all (constantsAlone 8)=true then _ else _)=_
      rw[if_neg hc5]
      rfl
def wI(tg e:Expr)(sc:Scope):Bool:=(bD tg).any fun ts=>(bD e).all fun vs=>decide (CL ts vs sc=some none)
theorem sL{tg e:Expr}{env:Env}(h:wI tg e env.scope=true):swappedStores [tg] e env=pure none:=by
 obtain⟨ts,h1,h2⟩:=anyT h
 clear h
 obtain⟨k,p,rfl⟩:=asTup_ok h1
 cases he:bD e with
 | some vs =>
  obtain⟨k2,p2,rfl⟩:=asTup_ok he
  rw[he]at h2
  exact l7 (of_decide_eq_true h2)
 | none=>cases e<;>first | rfl | cases he
def swC(sc:Scope)(t:Str)(pos p:Pos)(s:Scope):Bool:=bkS sc == .function && sc.names.lookup t == some .local && pos.line == p.line && !(s.names.any fun (n,k)=>n == t && (k == .local || k == .cell))
theorem sM{elt:Expr}{gs:List Comprehension}{s:Scope}{p pos:Pos}{t:Str}{l:Nat}{env:Env}:swapsWith (.ListComp elt gs s p) (some (.Name t pos)) l env=pure (swC env.scope t pos p s):=rfl
inductive PDx (X:Cx)(i:Nat)(st:Stmt)(de:DE):Prop | mk (te:TE) (h:PS X st (uk te (mJ i))) (s:dA X.K te de)
section
variable{X:Cx}{W:Nat->Prop}{m:Nat}{C:Ct}{e:Expr}{ma:E}{pos p p1 p2 p3 pos' spos py:Pos}{x y:Str}{i:Nat}{st:Stmt}
theorem PDx.imp{d d':DE}:PDx X i st d->(∀ρ Q,d' ρ Q->d ρ Q)->PDx X i st d'
 | ⟨te,h,s⟩,f=>⟨te,h,fun b F σ H ρ τ θ Qd Q hK R hd q=>s b F σ H ρ τ θ Qd Q hK R (f _ _ hd) q⟩
theorem y3{N:List Str}{nt:Nat}{fr:List Nat}{scope:Scope}{elt iter tg:Expr}{ifs:List Expr}{mi:It'}{mt:Tg}{mif:Eo}{me:E}(hN:X.N.Nodup)(hy:X.N[i]?=some y)(hl:X.env.scope.names.lookup y=some .local)(hc:X.calm=true)(S:CompScope N nt fr X.N scope X.env.scope)(hs:∀x,foldedSetIterable iter X.env x=pure x)(hi:PDi X tg iter (iK C mi))(hg:∀c:CC,PDg (fJ X N scope c) Ff nt tg (fR mt))(ha:∀c:CC,PDc (fJ X N scope c) ifs elt (wA C mif me))
  (hsw:swapsWith (.ListComp elt [⟨tg,iter,ifs,0⟩] scope pos) (some (.Name y py)) spos.line X.env=pure true):PDx X i (.Assign [.Name y py] (.ListComp elt [⟨tg,iter,ifs,0⟩] scope pos) spos) (aF C (.comp nt fr mi mt mif me)):=by
 have h0:PDx X i (.Assign [.Name y py] (.ListComp elt [⟨tg,iter,ifs,0⟩] scope pos) spos) (m5 (iK C mi) nt fr (fR mt) (wA C mif me)):=by
  obtain⟨wi,h1,s1⟩:=hi
  obtain⟨g,hg'⟩:=PDg.ex (K:=X.K) (Y:=fun c=>fJ X N scope c) (fun _=>rfl) hg
  obtain⟨tc,hc'⟩:=PDc.ex (K:=X.K) (Y:=fun c=>fJ X N scope c) (fun _=>rfl) ha
  exact⟨_,uy hN hy hl hc S h1 (fun c=>(hg' c).1) (fun c D=>(hc' c).1 D) hs hsw,kB s1 (fun c=>(hg' c).2) fun c=>(hc' c).2⟩
 exact h0.imp (nk C)
theorem y4(hw:¬ W i):PDx X i st (aF C ma)->PDs X W st (gG C (.set i ma))
 | ⟨_,h,s⟩=>⟨_,h,fun b F σ H ρ τ θ Dd D hK n R ⟨y,h,q⟩ E=>by
  obtain⟨z,e1,h⟩:=bnd h
  obtain⟨o,e2,h⟩:=bnd h
  obtain⟨_,hi,h⟩:=bnd h
  cases h
  refine s b F σ H ρ τ θ (fun r ρ'=>r=z.1/\ρ'=z.2) _ hK R ⟨z,e1,rfl,rfl⟩ fun v H' r ρ' R' hZ=>?_
  obtain⟨h1,h2⟩:=hZ
  subst h1 h2
  exact E.nx _ H' _ ((R'.own1 e2).store n (gd_ok hi) hw) q⟩
end
theorem Wd.closeAt{b:Bs}{H:Hp}{L:List (V × OD)}{u v:V}{x y:OD}{ks:List Nat}(w:Wd b H ([u].zip [y]++((v,x)::L)))(e:x.at ks=some (.hole u)):Wd b H ((v,OD.put y ks x)::L):=by
 obtain⟨S,uh,B,C,ch,hy,hz,nd,hS,al,nt,fi,go⟩:=Wd.mutC w rfl e
 cases hy with
 | hole eu =>
  subst eu
  exact go (H':=H) (y':=y) (D:=C) (fun _ _=>rfl) (fun c hc=>by cases hc) (by simpa using nd) (fun c hc=>.inr hc) fun S' hS' _=>Ow.sub nt hS' hz.one
theorem Wd.hole{b:Bs}{H:Hp}{L:List (V × OD)}{u:V}(w:Wd b H L):Wd b H ((u,.hole u)::L):=by
 obtain⟨A,h0,nd,new⟩:=w.out
 exact⟨⟨A,Ows.cons (A:=[]) (.hole rfl) h0,nd,new⟩,w.fr,w.s0,w.nt⟩
theorem Rel.fill{b:Bs}{F:List Fr}{σ:St}{H:Hp}{ρ ρ':DEnv}{τ:List V}{θ:List OR}{u:V}{i j:Nat}{ks:List Nat}(R:Rel b F σ H ρ (u::τ) (.rf j::θ))(h:rO i ks j u ρ ρ'):Rel b F σ H ρ' τ θ:=by
 obtain⟨x,y,f1,f2,f3,f4,f5⟩:=h
 subst f5
 obtain⟨u',ev,R1⟩:=R.drop.moved f3
 have e1:σ[j]?=some (some u):=R.al.1
 rw[e1]at ev
 cases ev
 obtain⟨v,ev,w⟩:=Rel.open (us:=[u]) (zs:=[y]) (i:=i) (x:=x) R1 rfl (by rw[List.getElem?_set_ne f4];exact f1)
 exact Rel.close (Rel.rest (us:=[u]) (zs:=[y]) R1 rfl) ev (w.closeAt f2)
section
variable{X:Cx}{W:Nat->Prop}{C:Ct}{e:Expr}{pos pos' apos cpos:Pos}{x:Str}{i j:Nat}{ps:List Acc}{sts:List Stmt}{mss:Ss}
theorem y6 (hb:attributeBase e "append" X.env (eval e X.env)=eval e X.env) (hline:(apos.endLine == cpos.line)=true) (hN:X.N[j]?=some x) (hv:Vis X.env.scope x) (hd:(x == ("__debug__":Str))=false) (hcd:(x == ("__classdict__":Str))=false) :
  PDp X e i ps->PDss X (fun k=>W k\/k=j) sts (ib C mss)->PDss X W (.Expr (.Call (.Attribute e "append" apos) [.Name x pos'] [] cpos) pos::sts) (ib C (.ali i ps j mss))
 | ⟨_,h0,s0⟩,⟨_,h2,s2⟩=>⟨_,gL (gH (qA PySem.F.plainAttrs_list PySem.F.slot_list_append PySem.F.type_list_append dP h0 (aK (aX hN hv hd hcd) aZ (ar rfl)) hb (yR rfl) hline (ar rfl) (bh rfl)) rfl) h2,fun b F σ H ρ τ θ Dd D hK n R ⟨z,h,q⟩ E=>by
  obtain⟨r,e1,h⟩:=bnd h
  obtain⟨xs,ex,hz,hji,⟨o,eo⟩,ha⟩:=kE h
  obtain⟨g1,g2⟩:=path_at e1
  refine s0 b F σ H ρ τ θ _ r hK R e1 fun v u ev ch=>?_
  rw[ex]at g2 ch
  obtain⟨l0,vs0,rfl,hH0⟩:=R.cell g1 g2 ev ch
  refine⟨.inl ⟨rfl,vs0,SqL.of hH0⟩,?_⟩
  obtain⟨v1,ev1⟩:=R.wf.get (join_some eo)
  obtain⟨vs,hH,hl,R1⟩:=Rel.addAt (o:=.hole v1) (v1:=v1) (Rel.push R R.wd.hole) g1 g2 ev ch hz
  refine⟨v1,ev1,l0,vs,v1,rfl,rfl,hH,hl,?_⟩
  obtain⟨ρ2,e2,hc⟩:=ha v1
  obtain⟨fl,ρ3⟩:=z
  refine s2 b F σ _ _ (v1::τ) (.rf j::θ) ⟨fun ρ'=>fl=.nx/\ρ'=ρ2,fun o ρ'=>fl=.rt o/\ρ'=ρ2,fun ρ'=>fl=.bk/\ρ'=ρ2,fun ρ'=>fl=.ct/\ρ'=ρ2⟩ _ hK (fun r hr=>?_) ⟨R1.wf,⟨ev1,R1.al⟩,R1.wff,R1.wd⟩ ⟨(fl,ρ2),e2,by cases fl<;>exact⟨rfl,rfl⟩⟩ ⟨fun σ' H' ρ' R' ⟨h1,h2⟩=>?_,fun σ' H' ρ' R' ⟨h1,h2⟩=>?_,fun σ' H' ρ' R' ⟨h1,h2⟩=>?_,fun σ' H' ρ' v o R' ⟨h1,h2⟩=>?_⟩
  ·rcases List.mem_cons.mp hr with rfl | hr
   ·exact .inr ⟨j,.inr rfl,rfl⟩
   ·exact (n r hr).imp id fun ⟨k,wk,ek⟩=>⟨k,.inl wk,ek⟩
  ·subst h1 h2;exact E.nx σ' H' _ (R'.fill hc) q
  ·subst h1 h2;exact E.bk σ' H' _ (R'.fill hc) q
  ·subst h1 h2;exact E.ct σ' H' _ (R'.fill hc) q
  ·subst h1 h2
   exact E.rt σ' H' _ v o (Rel.fill (τ:=v::τ) (θ:=.val o::θ) (Rel.rot (vs:=[v]) (rs:=[.val o]) R' rfl) hc) q⟩
end
theorem Wd.openAt{b:Bs}{H:Hp}{L:List (V × OD)}{v:V}{x y:OD}{ks:List Nat}(w:Wd b H ((v,x)::L))(e:x.at ks=some y):∃u,Chn b H v x ks u y/\Wd b H ((u,y)::(v,OD.put (.hole u) ks x)::L):=by
 obtain⟨A0,h0,nd,new⟩:=w.out
 have nt:=w.nt' h0
 cases h0 with
 | @cons _ _ A _ _ E r t =>
  obtain⟨u,B,A',ch,hy,pB,go⟩:=Ow.path r e
  obtain⟨A'',hx,pA⟩:=go (Kp.refl _ _) (fun c z=>.inl z) nt (fun _ _=>rfl) (.hole (b:=b) (S:=fun a=>a∈A++E\/b.S0 a) (H:=H) (v:=u) rfl)
  have pp:(A++E).Perm (B++(A''++E)):=by
   rw[<- List.append_assoc]
   exact (pB.trans (List.Perm.append_left _ (by simpa using pA.symm))).append_right _
  have hs:∀c,(c∈B++(A''++E)\/b.S0 c)->(c∈A++E\/b.S0 c):=fun c z=>z.imp pp.mem_iff.mpr id
  exact⟨u,ch,⟨B++(A''++E),Ows.cons (Ow.sub nt hs hy) (Ows.cons (Ow.sub nt hs hx) (Ows.sub nt hs t)),pp.nodup_iff.mp nd,fun c hc=>new c (pp.mem_iff.mpr hc)⟩,w.fr,w.s0,w.nt⟩
theorem Rel.takeOut{b:Bs}{F:List Fr}{σ:St}{H:Hp}{ρ:DEnv}{τ:List V}{θ:List OR}{i:Nat}{x y:OD}{ks:List Nat}{v u:V}(R:Rel b F σ H ρ τ θ)(g1:ρ[i]?.join=some x)(g2:x.at ks=some y)(ev:σ[i]?=some (some v))(ch:Chn b H v x ks u y):Rel b F σ H (ρ.set i (some (OD.put (.hole u) ks x))) (u::τ) (.val y::θ):=by
 obtain⟨v',ev',w⟩:=Rel.open (us:=[]) (zs:=[]) R rfl g1
 rw[ev]at ev'
 cases ev'
 obtain⟨u',ch',w2⟩:=Wd.openAt w g2
 obtain⟨rfl,_⟩:=ch.det ch'
 exact Rel.back R.wf R.al R.wff ev (w2.perm (List.Perm.swap _ _ _))
section
variable{X:Cx}{W:Nat->Prop}{C:Ct}{c a1 a2:Expr}{pos p0 p1 p2 p3 p4 p5 q1 q2:Pos}{x y:Str}{i j k m:Nat}{ps qs:List Acc}{sts:List Stmt}{mc:E}{mss:Ss}
theorem y8{k1 k2 k3 jj}(hc:X.calm=true)(hN:X.N.Nodup)(sj:Sto X W m j x)(sk:Sto X W m k y)(n1:isStar a1=false)(n2:isStar a2=false) :
  PDt X c (gF C mc)->PDp X a1 i ps->PDp X a2 i qs->PDss X (fun l=>W l\/l=j) sts (ib C mss)->PDss X W (.Assign [.Tuple [.Name x q1,.Name y q2] k1 p0] (.IfExp c (.Tuple [a1,a2] k2 p1) (.Tuple [.List [] p2,.Constant (.int 0) jj p3] k3 p4) p5) pos::sts) (ib C (.alo mc i ps qs j k mss))
 | ⟨_,h0,s0⟩,⟨_,h1,s1⟩,⟨_,h2,s2⟩,⟨_,h3,s3⟩=>⟨_,gL (ll (j9 h0 (gT (aK h1 (aK h2 aZ (ar n2)) (ar n1))) (gT (aK (jl aZ) (aK gK aZ)))) (ql hc (gM (jg hN sj.hN sj.loc sj.fn) (gM (jg hN sk.hN sk.loc sk.fn) mK)))) h3,fun b F σ H ρ τ θ Dd D hK n R ⟨z,h,q⟩ E=>by
  obtain⟨t,e0,h⟩:=bnd h
  obtain⟨_,hg,h⟩:=bnd h
  obtain⟨g1,g2,g3,g4,g5⟩:=gd_ok hg
  refine s0 b F σ H ρ τ θ (fun k ρ'=>k=t.1/\ρ'=t.2) _ hK R ⟨t,e0,rfl,rfl⟩ fun b0 H1 ρ1 R1 hZ=>?_
  obtain⟨rfl,rfl⟩:=hZ
  have n':NoRf (fun l=>W l\/l=j) θ:=fun r hr=>(n r hr).imp id fun ⟨k,wk,ek⟩=>⟨k,.inl wk,ek⟩
  by_cases ht:t.1=true
  ·rw[if_pos ht]at h ⊢
   obtain⟨p,e1,h⟩:=bnd h
   obtain⟨ys,e2,h⟩:=bnd h
   obtain⟨r,e3,h⟩:=bnd h
   obtain⟨d,e4,h⟩:=bnd h
   obtain⟨f1,f2⟩:=path_at e1
   refine s1 b F σ H1 _ τ θ _ p hK R1 e1 fun v u ev ch=>?_
   refine s2 b F σ H1 _ τ θ _ r hK R1 e3 fun v' u' ev' ch'=>?_
   refine⟨by show 2≤sizeLine;decide,fun pp hp=>⟨pp,[u,u'],rfl,?_,rfl,u,[u'],rfl,u',[],rfl,rfl,?_⟩⟩
   ·exact SqT.of aj
   ·have R2:=R1.partF e3 ev' ch' (cy e4)
    have R3:=R2.takeOut f1 f2 ev ch
    rw[cP e2]at R3
    have R4:Rel b F σ (upd H1 pp (.tup [u,u'])) _ _ _:=⟨R3.wf,R3.al,R3.wff,R3.wd.new hp⟩
    have R5:=Rel.store R4 (W:=W) (fun r hr=>by rcases List.mem_cons.mp hr with rfl | hr;exact .inl ⟨_,rfl⟩;exact n r hr) (by rw[List.length_set];exact g4) sj.nw
    have R6:=Rel.store R5 n (by rw[List.length_set,List.length_set];exact g5) sk.nw
    obtain⟨ρ2,e5,hcl⟩:=holRun_some h u
    have es:((σ.set j (some u)).set k (some u'))[j]?=some (some u):=by
     rw[List.getElem?_set_ne (Ne.symm g3),List.getElem?_set_self]
     rw[R1.wf.len];exact g4
    obtain⟨fl,ρ3⟩:=z
    refine s3 b F _ _ _ (u::τ) (.rf j::θ) ⟨fun ρ'=>fl=.nx/\ρ'=ρ2,fun o ρ'=>fl=.rt o/\ρ'=ρ2,fun ρ'=>fl=.bk/\ρ'=ρ2,fun ρ'=>fl=.ct/\ρ'=ρ2⟩ _ hK (fun r hr=>?_) ⟨R6.wf,⟨es,R6.al⟩,R6.wff,R6.wd⟩ ⟨(fl,ρ2),e5,by cases fl<;>exact⟨rfl,rfl⟩⟩ ⟨fun σ' H' ρ' R' ⟨h1,h2⟩=>?_,fun σ' H' ρ' R' ⟨h1,h2⟩=>?_,fun σ' H' ρ' R' ⟨h1,h2⟩=>?_,fun σ' H' ρ' v o R' ⟨h1,h2⟩=>?_⟩
    ·rcases List.mem_cons.mp hr with rfl | hr
     ·exact .inr ⟨j,.inr rfl,rfl⟩
     ·exact n' r hr
    ·subst h1 h2;exact E.nx σ' H' _ (R'.fill hcl) q
    ·subst h1 h2;exact E.bk σ' H' _ (R'.fill hcl) q
    ·subst h1 h2;exact E.ct σ' H' _ (R'.fill hcl) q
    ·subst h1 h2
     exact E.rt σ' H' _ v o (Rel.fill (τ:=v::τ) (θ:=.val o::θ) (Rel.rot (vs:=[v]) (rs:=[.val o]) R' rfl) hcl) q
  ·rw[if_neg ht]at h ⊢
   refine⟨Nat.zero_le _,fun l hl=>⟨by show 2≤sizeLine;decide,fun pp hp=>⟨pp,[.ref l,.int 0],rfl,SqT.of aj,rfl,.ref l,[.int 0],rfl,.int 0,[],rfl,rfl,?_⟩⟩⟩
   have R2:=R1.sc (.int 0)
   have R3:=R2.push (R2.wd.newLst (vs:=[]) (xs:=[]) rfl hl)
   have R4:Rel b F σ (upd (upd H1 l (.lst [])) pp (.tup [.ref l,.int 0])) _ _ _:=⟨R3.wf,R3.al,R3.wff,R3.wd.new hp⟩
   have R5:=Rel.store R4 (W:=W) (fun r hr=>by rcases List.mem_cons.mp hr with rfl | hr;exact .inl ⟨_,rfl⟩;exact n r hr) g4 sj.nw
   exact s3 b F _ _ _ τ θ _ _ hK n' (Rel.store R5 n (by rw[List.length_set];exact g5) sk.nw) ⟨z,h,q⟩ E⟩
end
end
section
section
variable(t:Tb)
mutual
def sN:E->Ck
 | .nm i=>fun N sc e=>nM N sc i e
 | .int k=>fun N sc e=>(iX e).any fun j=>decide (j=k)
 | .ix a b=>fun N sc e=>(eA e).any fun z=>!isSlice z.2 && sN a N sc z.1 && sN b N sc z.2
 | .tup es=>fun N sc e=>(bD e).any fun xs=>sO es N sc xs
 | .pg i ps=>fun N sc e=>cS t N sc i ps e
 | _=>fun _ _ _=>false
def sO:Es->List Str->Scope->List Expr->Bool
 | .nil=>fun N sc xs=>xs.isEmpty
 | .cons a es=>fun N sc xs=>(jI xs).any fun z=>!isStar z.1 && sN a N sc z.1 && sO es N sc z.2
end
end
section
variable{t:Tb}{C:Ct}
mutual
theorem CM:∀(m:E) X e,Cy t C X->sN t m X.N X.env.scope e=true->PDq X e (iI C m)
 | .nm i,X,e,c,h=>by
  obtain⟨x,p,rfl,h⟩:=cR h
  obtain⟨h1,h2,h3,h4⟩:=a9 h
  exact D5 h1 h2 h3 h4
 | .int k,X,e,c,h=>by
  obtain⟨j,h1,h⟩:=anyT h
  obtain⟨_,_,rfl⟩:=asInt_ok h1
  have:=of_decide_eq_true h
  subst this
  exact BF
 | .ix a b,X,e,c,h=>by
  obtain⟨q,h1,h⟩:=anyT h
  obtain⟨_,rfl⟩:=cj h1
  obtain⟨a1,a2,a3⟩:=an3 h
  exact D7 (jG (bz a1)) (CM a X _ c a2) (CM b X _ c a3)
 | .tup es,X,e,c,h=>by
  obtain⟨q,h1,h⟩:=anyT h
  obtain⟨_,_,rfl⟩:=asTup_ok h1
  exact BG (B3 es X _ c h)
 | .pg i ps,X,e,c,h=>D6 (aU c ps _ h)
 | .mv _,X,e,c,h | .str _,X,e,c,h | .bl _,X,e,c,h | .gc _,X,e,c,h | .bop _ _ _,X,e,c,h | .cat _ _,X,e,c,h | .cmp _ _ _,X,e,c,h | .isn _ _,X,e,c,h | .and _ _,X,e,c,h | .or _ _,X,e,c,h | .not _,X,e,c,h | .ife _ _ _,X,e,c,h | .lst _,X,e,c,h | .call _ _,X,e,c,h | .callS _ _,X,e,c,h | .blt _ _,X,e,c,h | .bnw _ _,X,e,c,h | .isi _ _,X,e,c,h | .sdd _,X,e,c,h | .ln _,X,e,c,h | .nen _,X,e,c,h | .dnew,X,e,c,h | .pf _ _,X,e,c,h | .pl _ _,X,e,c,h | .pt _ _,X,e,c,h | .pin _ _ _ _,X,e,c,h | .comp _ _ _ _ _ _,X,e,c,h | .compB _ _ _ _ _ _,X,e,c,h | .meth _ _ _ _ _,X,e,c,h | .make _ _ _,X,e,c,h=>absurd h Bool.false_ne_true
theorem B3:∀(m:Es) X xs,Cy t C X->sO t m X.N X.env.scope xs=true->PDqs X xs (lU C m)
 | .nil,X,xs,c,h=>by
  cases xs with
  | nil=>exact yP
  | cons _ _=>cases h
 | .cons a es,X,xs,c,h=>by
  obtain⟨z,h1,h⟩:=anyT h
  have:=con1_ok h1
  subst this
  obtain⟨a1,a2,a3⟩:=an3 h
  exact vk (bz a1) (CM a X _ c a2) (B3 es X _ c a3)
end
end
def sP(e:PySem.Stmt):Option (Expr):=if h:e.ctorIdx=24 then some (@PySem.Stmt.Expr.elim (fun _=>Expr) e h fun x _=>x) else none
theorem nS{e:PySem.Stmt}{z:Expr}(h:sP e=some z):∃p,e=.Expr z p:=by
 by_cases hc:e.ctorIdx=24
 ·revert h
  exact @PySem.Stmt.Expr.elim (fun e=>sP e=some z->∃p,e=.Expr z p) e hc fun x p h=>by cases h;exact⟨p,rfl⟩
 ·rw[sP,dif_neg hc]at h;cases h
def vA(e:PySem.Stmt):Option (List Expr × Expr):=if h:e.ctorIdx=5 then some (@PySem.Stmt.Assign.elim (fun _=>List Expr × Expr) e h fun ts x _=>(ts,x)) else none
theorem asAs_ok{e:PySem.Stmt}{z:List Expr × Expr}(h:vA e=some z):∃p,e=.Assign z.1 z.2 p:=by
 by_cases hc:e.ctorIdx=5
 ·revert h
  exact @PySem.Stmt.Assign.elim (fun e=>vA e=some z->∃p,e=.Assign z.1 z.2 p) e hc fun ts x p h=>by cases h;exact⟨p,rfl⟩
 ·rw[vA,dif_neg hc]at h;cases h
def sQ(e:PySem.Stmt):Option (Expr × Operator × Expr):=if h:e.ctorIdx=7 then some (@PySem.Stmt.AugAssign.elim (fun _=>Expr × Operator × Expr) e h fun t o x _=>(t,o,x)) else none
theorem asAu_ok{e:PySem.Stmt}{z:Expr × Operator × Expr}(h:sQ e=some z):∃p,e=.AugAssign z.1 z.2.1 z.2.2 p:=by
 by_cases hc:e.ctorIdx=7
 ·revert h
  exact @PySem.Stmt.AugAssign.elim (fun e=>sQ e=some z->∃p,e=.AugAssign z.1 z.2.1 z.2.2 p) e hc fun t o x p h=>by cases h;exact⟨p,rfl⟩
 ·rw[sQ,dif_neg hc]at h;cases h
def vB(e:PySem.Stmt):Option (Option Expr):=if h:e.ctorIdx=3 then some (@PySem.Stmt.Return.elim (fun _=>Option Expr) e h fun o _=>o) else none
theorem vC{e:PySem.Stmt}{z:Option Expr}(h:vB e=some z):∃p,e=.Return z p:=by
 by_cases hc:e.ctorIdx=3
 ·revert h
  exact @PySem.Stmt.Return.elim (fun e=>vB e=some z->∃p,e=.Return z p) e hc fun o p h=>by cases h;exact⟨p,rfl⟩
 ·rw[vB,dif_neg hc]at h;cases h
def vD(e:PySem.Stmt):Option (Expr × List Stmt × List Stmt):=if h:e.ctorIdx=12 then some (@PySem.Stmt.If.elim (fun _=>Expr × List Stmt × List Stmt) e h fun c a b _=>(c,a,b)) else none
theorem vF{e:PySem.Stmt}{z:Expr × List Stmt × List Stmt}(h:vD e=some z):∃p,e=.If z.1 z.2.1 z.2.2 p:=by
 by_cases hc:e.ctorIdx=12
 ·revert h
  exact @PySem.Stmt.If.elim (fun e=>vD e=some z->∃p,e=.If z.1 z.2.1 z.2.2 p) e hc fun c a b p h=>by cases h;exact⟨p,rfl⟩
 ·rw[vD,dif_neg hc]at h;cases h
def vG(e:PySem.Stmt):Option (Expr × Expr × List Stmt × List Stmt):=if h:e.ctorIdx=9 then some (@PySem.Stmt.For.elim (fun _=>Expr × Expr × List Stmt × List Stmt) e h fun g i a b _=>(g,i,a,b)) else none
theorem vH{e:PySem.Stmt}{z:Expr × Expr × List Stmt × List Stmt}(h:vG e=some z):∃p,e=.For z.1 z.2.1 z.2.2.1 z.2.2.2 p:=by
 by_cases hc:e.ctorIdx=9
 ·revert h
  exact @PySem.Stmt.For.elim (fun e=>vG e=some z->∃p,e=.For z.1 z.2.1 z.2.2.1 z.2.2.2 p) e hc fun g i a b p h=>by cases h;exact⟨p,rfl⟩
 ·rw[vG,dif_neg hc]at h;cases h
def B4(s:Stmt):Bool:=decide (s.ctorIdx=27)
theorem vI{s:Stmt}(h:B4 s=true):∃p,s=.Continue p:=@Stmt.Continue.elim (fun s=>∃p,s=.Continue p) s (of_decide_eq_true h) fun p=>⟨p,rfl⟩
def B5(s:Stmt):Bool:=decide (s.ctorIdx=26)
theorem vJ{s:Stmt}(h:B5 s=true):∃p,s=.Break p:=@Stmt.Break.elim (fun s=>∃p,s=.Break p) s (of_decide_eq_true h) fun p=>⟨p,rfl⟩
def jO(s:Stmt):Option (Expr × Expr):=(vA s).bind fun z=>(ei z.1).bind fun t=>some (t,z.2)
theorem asg1_ok{s:Stmt}{z}(h:jO s=some z):∃p,s=.Assign [z.1] z.2 p:=by
 obtain⟨c,h1,h⟩:=bnd h
 obtain⟨t,h2,h⟩:=bnd h
 cases h
 obtain⟨ts,e⟩:=c
 obtain⟨p,rfl⟩:=asAs_ok h1
 have:=one1_ok h2
 simp only at this
 subst this
 exact⟨p,rfl⟩
def nT(s:Stmt):Option (Expr × Expr × Pos × Pos):=(sP s).bind fun e=>(fT e).bind fun z=>(gm z.1).bind fun a=>(ei z.2.1).bind fun x=>if z.2.2.1.isEmpty && sEq a.2.1 "append" then some (a.1,x,a.2.2,z.2.2.2) else none
theorem iu{s:Stmt}{z}(h:nT s=some z):∃p,s=.Expr (.Call (.Attribute z.1 "append" z.2.2.1) [z.2.1] [] z.2.2.2) p:=by
 obtain⟨e,h1,h⟩:=bnd h
 obtain⟨c,h2,h⟩:=bnd h
 obtain⟨a,h3,h⟩:=bnd h
 obtain⟨x,h4,h⟩:=bnd h
 obtain⟨f,xs,ks,q⟩:=c
 obtain⟨o,m,ap⟩:=a
 cases hc:(ks.isEmpty && sEq m "append") with
 | false=>simp only[hc]at h;cases h
 | true =>
  simp only[hc]at h
  cases h
  have e3:=asAtt_ok h3
  have e4:=one1_ok h4
  have e5:=bS (an2 hc).2
  cases ks with
  | cons _ _=>cases hc
  | nil =>
   simp only at e3 e4
   subst e5
   subst e4
   subst e3
   obtain⟨p,rfl⟩:=nS h1
   exact⟨p,by rw[fU h2]⟩
def cmpE:E->Bool
 | .comp _ _ _ _ _ _=>true | _=>false
def setB(t:Tb)(ok:Nat->Bool)(N:List Str)(sc:Scope)(i:Nat)(m:E)(x:Str)(p:Pos)(e:Expr):Bool:=jL ok N sc true N.length i x && (aY t m).1 N sc e && match lY e with
 | some z=>!swC sc x p z.2.2.2 z.2.2.1 || cmpE m
 | none=>!dG e
def vK(e:PySem.Expr):Option (Str × Pos):=if h:e.ctorIdx=23 then some (@PySem.Expr.Name.elim (fun _=>Str × Pos) e h fun x p=>(x,p)) else none
theorem vL{e:PySem.Expr}{z:Str × Pos}(h:vK e=some z):e=.Name z.1 z.2:=by
 by_cases hc:e.ctorIdx=23
 ·revert h
  exact @PySem.Expr.Name.elim (fun e=>vK e=some z->e=.Name z.1 z.2) e hc fun x p h=>by cases h;exact rfl
 ·rw[vK,dif_neg hc]at h;cases h
section
variable(t:Tb)
mutual
def B6(ok:Nat->Bool):S'->List Str->Scope->Stmt->Bool
 | .ex m=>fun N sc s=>(sP s).any fun e=>!dG e && (aY t m).1 N sc e
 | .set i m=>fun N sc s=>(jO s).any fun z=>(vK z.1).any fun x=>setB t ok N sc i m x.1 x.2 z.2
 | .asg g m=>fun N sc s=>(jO s).any fun z=>isTup z.1 && wI z.1 z.2 sc && (aY t m).1 N sc z.2 && sA ok N sc true N.length g z.1
 | .par is ms=>fun N sc s=>(jO s).any fun z=>(bD z.1).any fun ts=>(bD z.2).any fun vs=>eZ t ms N sc vs && decide (CL ts vs sc=some (some (pY ts sc))) && (match is with
  | [i,j]=>(gC ts).any fun w=>(gC vs).any fun _=>(bC w.1).any fun x=>(bC w.2).any fun y=>decide (pY ts sc=[x,y]) && decide (i≠j) && (decide (N[i]?=some x) && decide (N[j]?=some y)) && (kindB sc x .local && kindB sc y .local) && (ok i && ok j)
  | [i,j,k]=>(u9 ts).any fun w=>(u9 vs).any fun _=>(bC w.1).any fun x=>(bC w.2.1).any fun y=>(bC w.2.2).any fun z=>decide (pY ts sc=[x,y,z]) && (decide (i≠j) && decide (i≠k) && decide (j≠k)) && (decide (N[i]?=some x) && decide (N[j]?=some y) && decide (N[k]?=some z)) && (kindB sc x .local && kindB sc y .local && kindB sc z .local) && (ok i && ok j && ok k)
  | _=>false)
 | .aug i o m=>fun N sc s=>(sQ s).any fun z=>(bC z.1).any fun x=>CK o z.2.1 && jL ok N sc true N.length i x && (aY t m).1 N sc z.2.2
 | .ret m=>fun N sc s=>(vB s).any fun o=>o.any fun e=>(aY t m).1 N sc e
 | .iff c a b=>fun N sc s=>(vD s).any fun z=>(aY t c).2 N sc z.1 && gn ok a N sc z.2.1 && gn ok b N sc z.2.2
 | .fr g it b=>fun N sc s=>(vG s).any fun z=>!isSet z.2.1 && yZ t it N sc z.1 z.2.1 && sA ok N sc true N.length g z.1 && gn ok b N sc z.2.2.1 && z.2.2.2.isEmpty
 | .cont=>fun N sc s=>B4 s
 | .brk=>fun N sc s=>B5 s
 | .app i m=>fun N sc s=>(nT s).any fun z=>(bC z.1).any fun x=>qf N sc i x && (z.2.2.1.endLine == z.2.2.2.line) && !isStar z.2.1 && (aY t m).1 N sc z.2.1
 | .apd i ps m=>fun N sc s=>(nT s).any fun z=>!isCall z.1 && (z.2.2.1.endLine == z.2.2.2.line) && !isStar z.2.1 && cS t N sc i ps z.1 && sN t m N sc z.2.1
 | .sti i k m=>fun N sc s=>(jO s).any fun z=>(eA z.1).any fun w=>(bC w.1).any fun x=>qf N sc i x && !isSlice w.2 && !dG z.2 && (aY t m).1 N sc z.2 && (aY t k).1 N sc w.2
 | .sdk i k m=>fun N sc s=>(jO s).any fun z=>(eA z.1).any fun w=>(bC w.1).any fun x=>qf N sc i x && !dG z.2 && (aY t m).1 N sc z.2 && (aY t k).1 N sc w.2
 | .std i ps j m=>fun N sc s=>(jO s).any fun z=>(eA z.1).any fun w=>!dG z.2 && cS t N sc i ps w.1 && nM N sc j w.2 && (aY t m).1 N sc z.2
 | .stf i c f m=>fun N sc s=>(jO s).any fun z=>(gm z.1).any fun w=>(bC w.1).any fun x=>sEq w.2.1 f && qf N sc i x && t.fld c f && !dG z.2 && (aY t m).1 N sc z.2
 | .agf i c f o m=>fun N sc s=>(sQ s).any fun z=>(gm z.1).any fun w=>(bC w.1).any fun x=>sEq w.2.1 f && CK o z.2.1 && qf N sc i x && t.fld c f && (aY t m).1 N sc z.2.2
def gn(ok:Nat->Bool):Ss->List Str->Scope->List Stmt->Bool
 | .nil=>fun N sc s=>s.isEmpty
 | .cons m ms=>fun N sc s=>(jI s).any fun z=>B6 ok m N sc z.1 && gn ok ms N sc z.2
 | .alo m i ps qs j k ms=>fun N sc s=>(jI s).any fun y=>(jO y.1).any fun z=>(bD z.1).any fun ts=>(gC ts).any fun n=>(bC n.1).any fun x=>(bC n.2).any fun x'=>(so z.2).any fun w=>(bD w.2.1).any fun pq=>(gC pq).any fun p=>(bD w.2.2).any fun lr=>(gC lr).any fun o=>(iW o.1).any fun ls=>(iX o.2).any fun d=>(jL ok N sc true N.length j x && jL ok N sc true N.length k x' && (ls.isEmpty && decide (d=0)) && (!isStar p.1 && !isStar p.2) && (aY t m).2 N sc w.1) && cS t N sc i ps p.1 && cS t N sc i qs p.2 && gn (fun l=>ok l && !decide (l=j)) ms N sc y.2
 | .ali i ps j ms=>fun N sc s=>(jI s).any fun y=>(nT y.1).any fun z=>(bC z.2.1).any fun x=>!isCall z.1 && (z.2.2.1.endLine == z.2.2.2.line) && cS t N sc i ps z.1 && qf N sc j x && gn (fun k=>ok k && !decide (k=j)) ms N sc y.2
end
end
structure Cs (t:Tb)(C:Ct)(W:Nat->Prop)(ok:Nat->Bool)(X:Cx):Prop where
 c:Cy t C X
 nd:X.N.Nodup
 fn:∀x,X.fn x=true
 pass:PassesOwn (model X.prog X.w) X.A X.env X.xe
 hw:∀i,ok i=true->¬ W i
section
variable{t:Tb}{C:Ct}
theorem B7{e o i:Expr}{p:Pos}{env:Env}:swappedStores [.Subscript o i p] e env=pure none:=by cases e<;>rfl
theorem nU{X:Cx}{is:List Nat}{ms:Es}{st:Stmt}{W:Nat->Prop}(h:PDs X W st (yt is (eG C ms))):PDs X W st (gG C (.par is ms)):=h.imp fun D ρ ⟨y,h,q⟩=>by
 obtain⟨z,e1,h⟩:=bnd h
 obtain⟨o,e2,h⟩:=bnd h
 obtain⟨_,hz,h⟩:=bnd h
 have hz:=gd_ok hz
 cases h
 exact⟨z,e1,o.1,o.2,e2,hz.1,hz.2,q⟩
theorem y9{X:Cx}{W:Nat->Prop}{ok:Nat->Bool}(c:Cs t C W ok X){i:Nat}{x:Str}{p pos:Pos}{e:Expr}{z}(he:lY e=some z)(s:Sto X W X.N.length i x)(hsw:swC X.env.scope x p z.2.2.2 z.2.2.1=true){nt:Nat}{fr:List Nat}{it:It'}{tg:Tg}{ifs:Eo}{el:E}
  (h:(aY t (.comp nt fr it tg ifs el)).1 X.N X.env.scope e=true):PDx X i (.Assign [.Name x p] e pos) (aF C (.comp nt fr it tg ifs el)):=by
 have hl:X.env.scope.names.lookup x=some .local:=by
  unfold swC at hsw
  have:=(an4 hsw).2.1
  simpa using this
 obtain⟨w,h1,h⟩:=anyT h
 have e1:=ip h1
 subst e1
 cases he
 obtain⟨a1,a2,a3,a4,a5⟩:=an5 h
 obtain⟨b1,b2,b3⟩:=an3 a5
 exact y3 c.nd s.hN hl c.c.calm (ik a1) (l4 (bz a3)) (Ei it X _ _ c.c a4) (fun q=>eY (X:=fJ X _ w.2.2.2.2.1 q) (fn:=false) c.c.calm (of_decide_eq_true a2) (fun z=>by cases z) (fun _ _ z=>z) b1) (fun q=>Eh ifs (fJ X _ w.2.2.2.2.1 q) _ _ c.c.comp (br el) b2 b3) (by rw[sM,hsw])
theorem vM{X:Cx}{W:Nat->Prop}{ok:Nat->Bool}(c:Cs t C W ok X){i:Nat}{m:E}{x:Str}{p pos:Pos}{e:Expr}(h:setB t ok X.N X.env.scope i m x p e=true):PDs X W (.Assign [.Name x p] e pos) (gG C (.set i m)):=by
 obtain⟨h1,h2,h3⟩:=an3 h
 have s:=cT (W:=W) (fun _=>c.fn) c.hw h1
 cases he:lY e with
 | none =>
  rw[he]at h3
  exact wB c.nd s (fS (bz h3)) ((br m).v X _ c.c h2)
 | some z =>
  rw[he]at h3
  cases hsw:swC X.env.scope x p z.2.2.2 z.2.2.1 with
  | false =>
   have e1:=nK he
   exact wB c.nd s (by rw[e1,sM,hsw]) ((br m).v X _ c.c h2)
  | true =>
   have h3:(!swC X.env.scope x p z.2.2.2 z.2.2.1 || cmpE m)=true:=h3
   rw[hsw]at h3
   have h3:cmpE m=true:=h3
   cases m with
   | comp nt fr it tg ifs el=>exact y4 s.nw (y9 c he s hsw h2)
   | _=>cases h3
mutual
theorem EW{W:Nat->Prop}{ok:Nat->Bool}:∀(m:S') X s,Cs t C W ok X->B6 t ok m X.N X.env.scope s=true->PDs X W s (gG C m)
 | .ex m,X,s,c,h=>by
  obtain⟨e,h1,k'⟩:=anyT h
  obtain⟨p,rfl⟩:=nS h1
  exact DU (bz (an2 k').1) ((br m).v X _ c.c (an2 k').2)
 | .set i m,X,s,c,h=>by
  obtain⟨z,h1,k'⟩:=anyT h
  obtain⟨x,h2,k'⟩:=anyT k'
  obtain⟨p,rfl⟩:=asg1_ok h1
  rw[vL h2]
  exact vM c k'
 | .asg g m,X,s,c,h=>by
  obtain⟨z,h1,k'⟩:=anyT h
  obtain⟨p,rfl⟩:=asg1_ok h1
  obtain⟨a1,a3,a4,a5⟩:=an4 k'
  refine Bv ?_ (sL a3) ?_ ((br m).v X _ c.c a4) (eY c.c.calm c.nd (fun _=>c.fn) c.hw a5)
  ·obtain⟨_,_,_,e⟩:=eX a1
   rw[e]
   cases z.2<;>rfl
  obtain⟨_,_,_,e⟩:=eX a1
  rw[e];rfl
 | .par is ms,X,s,c,h=>by
  obtain⟨z,h1,k'⟩:=anyT h
  obtain⟨ts,h2,k'⟩:=anyT k'
  obtain⟨vs,h3,k'⟩:=anyT k'
  obtain⟨p,rfl⟩:=asg1_ok h1
  obtain⟨z1,z2⟩:=z
  obtain⟨k1,p1,e1⟩:=asTup_ok h2
  obtain⟨k2,p2,e2⟩:=asTup_ok h3
  simp only at e1 e2
  subst e1 e2
  obtain⟨a1,a2,k'⟩:=an3 k'
  have hsw:=of_decide_eq_true a2
  match is,k' with
  | [i,j],k' =>
   obtain⟨w,b1,k'⟩:=anyT k'
   obtain⟨u,b2,k'⟩:=anyT k'
   obtain⟨x,b3,k'⟩:=anyT k'
   obtain⟨y,b4,k'⟩:=anyT k'
   have e3:=two2_ok b1
   have e4:=two2_ok b2
   obtain⟨w1,w2⟩:=w
   obtain⟨q1,e5⟩:=asNm_ok b3
   obtain⟨q2,e6⟩:=asNm_ok b4
   simp only at e3 e4 e5 e6
   subst e5 e6
   subst e3 e4
   obtain⟨c1,c2,c3,c4,c5⟩:=an5 k'
   rw[of_decide_eq_true c1]at hsw
   refine nU (uV (fun k hk=>?_) c.c.calm c.nd (of_decide_eq_true (an2 c3).1) (of_decide_eq_true (an2 c3).2) (of_decide_eq_true c2) (aE (an2 c4).1) (aE (an2 c4).2) (l7 hsw) rfl (ud ms X _ c.c a1))
   rcases List.mem_cons.mp hk with rfl | hk
   ·exact c.hw _ (an2 c5).1
   ·rw[List.mem_singleton.mp hk];exact c.hw _ (an2 c5).2
  | [i,j,k],k' =>
   obtain⟨w,b1,k'⟩:=anyT k'
   obtain⟨u,b2,k'⟩:=anyT k'
   obtain⟨x,b3,k'⟩:=anyT k'
   obtain⟨y,b4,k'⟩:=anyT k'
   obtain⟨z,b5,k'⟩:=anyT k'
   have e3:=thr3_ok b1
   have e4:=thr3_ok b2
   obtain⟨w1,w2,w3⟩:=w
   obtain⟨q1,e5⟩:=asNm_ok b3
   obtain⟨q2,e6⟩:=asNm_ok b4
   obtain⟨q3,e7⟩:=asNm_ok b5
   simp only at e3 e4 e5 e6 e7
   subst e5 e6 e7
   subst e3 e4
   obtain⟨c1,c2,c3,c4,c5⟩:=an5 k'
   obtain⟨d1,d2,d3⟩:=an3 c2
   obtain⟨d4,d5,d6⟩:=an3 c3
   obtain⟨d7,d8,d9⟩:=an3 c4
   obtain⟨f1,f2,f3⟩:=an3 c5
   rw[of_decide_eq_true c1]at hsw
   refine nU (rl (fun k hk=>?_) c.c.calm c.nd (of_decide_eq_true d4) (of_decide_eq_true d5) (of_decide_eq_true d6) (of_decide_eq_true d1) (of_decide_eq_true d2) (of_decide_eq_true d3) (aE d7) (aE d8) (aE d9) (l7 hsw) rfl (ud ms X _ c.c a1))
   rcases List.mem_cons.mp hk with rfl | hk
   ·exact c.hw _ f1
   ·rcases List.mem_cons.mp hk with rfl | hk
    ·exact c.hw _ f2
    ·rw[List.mem_singleton.mp hk];exact c.hw _ f3
  | [],k'=>exact absurd k' Bool.false_ne_true
  | [_],k'=>exact absurd k' Bool.false_ne_true
  | _::_::_::_::_,k'=>exact absurd k' Bool.false_ne_true
 | .aug i o m,X,s,c,h=>by
  obtain⟨z,h1,k'⟩:=anyT h
  obtain⟨x,h2,k'⟩:=anyT k'
  obtain⟨p,rfl⟩:=asAu_ok h1
  obtain⟨q,e⟩:=asNm_ok h2
  obtain⟨a1,a2,a3⟩:=an3 k'
  rw[e,lZ a1]
  exact By c.nd (cT (fun _=>c.fn) c.hw a2) ((br m).v X _ c.c a3)
 | .ret m,X,s,c,h=>by
  obtain⟨o,h1,k'⟩:=anyT h
  obtain⟨e,h2,k'⟩:=anyT k'
  obtain⟨p,rfl⟩:=vC h1
  subst h2
  exact Bu ((br m).v X _ c.c k')
 | .iff z a b,X,s,c,h=>by
  obtain⟨q,h1,k'⟩:=anyT h
  obtain⟨p,rfl⟩:=vF h1
  obtain⟨a1,a2,a3⟩:=an3 k'
  exact DV ((br z).t X _ c.c a1) (l8 a X _ c a2) (l8 b X _ c a3)
 | .fr g it b,X,s,c,h=>by
  obtain⟨q,h1,k'⟩:=anyT h
  obtain⟨p,rfl⟩:=vH h1
  obtain⟨a1,a2,a3,a4,a5⟩:=an5 k'
  obtain⟨q1,q2,q3,q4⟩:=q
  cases q4 with
  | nil=>exact Bw c.pass c.c.calm (l4 (bz a1)) (Ei it X _ _ c.c a2) (eY c.c.calm c.nd (fun _=>c.fn) c.hw a3) (l8 b X _ c a4)
  | cons _ _=>cases a5
 | .cont,X,s,c,h=>by
  obtain⟨p,rfl⟩:=vI h
  exact yO
 | .brk,X,s,c,h=>by
  obtain⟨p,rfl⟩:=vJ h
  exact Bt
 | .app i m,X,s,c,h=>by
  obtain⟨z,h1,k'⟩:=anyT h
  obtain⟨x,h2,k'⟩:=anyT k'
  obtain⟨p,rfl⟩:=iu h1
  obtain⟨q,e⟩:=asNm_ok h2
  obtain⟨a1,a2,a3,a4⟩:=an4 k'
  obtain⟨n1,n2,n3,n4⟩:=a9 a1
  rw[e]
  exact BK n1 n2 n3 n4 a2 (bz a3) ((br m).v X _ c.c a4)
 | .apd i ps m,X,s,c,h=>by
  obtain⟨z,h1,k'⟩:=anyT h
  obtain⟨p,rfl⟩:=iu h1
  obtain⟨a1,a2,a3,a4,a5⟩:=an5 k'
  exact BL (jK (bz a1)) a2 (bz a3) (aU c.c ps _ a4) (CM m X _ c.c a5)
 | .sti i k m,X,s,c,h=>by
  obtain⟨z,h1,k'⟩:=anyT h
  obtain⟨w,h2,k'⟩:=anyT k'
  obtain⟨x,h3,k'⟩:=anyT k'
  obtain⟨p,rfl⟩:=asg1_ok h1
  obtain⟨q,e⟩:=cj h2
  obtain⟨q',e'⟩:=asNm_ok h3
  obtain⟨a1,a2,a3,a4,a5⟩:=an5 k'
  obtain⟨n1,n2,n3,n4⟩:=a9 a1
  rw[e,e']
  exact BM n1 n2 n3 n4 (bz a2) (fS (bz a3)) B7 ((br m).v X _ c.c a4) ((br k).v X _ c.c a5)
 | .sdk i k m,X,s,c,h=>by
  obtain⟨z,h1,k'⟩:=anyT h
  obtain⟨w,h2,k'⟩:=anyT k'
  obtain⟨x,h3,k'⟩:=anyT k'
  obtain⟨p,rfl⟩:=asg1_ok h1
  obtain⟨q,e⟩:=cj h2
  obtain⟨q',e'⟩:=asNm_ok h3
  obtain⟨a1,a2,a3,a4⟩:=an4 k'
  obtain⟨n1,n2,n3,n4⟩:=a9 a1
  rw[e,e']
  exact BN (by have:=c.c.units;omega) n1 n2 n3 n4 (fS (bz a2)) ((br m).v X _ c.c a3) ((br k).v X _ c.c a4)
 | .std i ps j m,X,s,c,h=>by
  obtain⟨z,h1,k'⟩:=anyT h
  obtain⟨w,h2,k'⟩:=anyT k'
  obtain⟨p,rfl⟩:=asg1_ok h1
  obtain⟨q,e⟩:=cj h2
  obtain⟨a1,a2,a3,a4⟩:=an4 k'
  rw[e]
  exact BO (by have:=c.c.units;omega) (fS (bz a1)) (aU c.c ps _ a2) (sy a3).1 ((br m).v X _ c.c a4)
 | .stf i cn f m,X,s,c,h=>by
  obtain⟨z,h1,k'⟩:=anyT h
  obtain⟨w,h2,k'⟩:=anyT k'
  obtain⟨x,h3,k'⟩:=anyT k'
  obtain⟨p,rfl⟩:=asg1_ok h1
  have e:=asAtt_ok h2
  obtain⟨q',e'⟩:=asNm_ok h3
  obtain⟨a1,a2,a3,a4,a5⟩:=an5 k'
  obtain⟨n1,n2,n3,n4⟩:=a9 a2
  rw[e,e',bS a1]
  exact BP n1 n2 n3 n4 (c.c.hfl _ _ a3).1 (c.c.hfl _ _ a3).2 (fS (bz a4)) ((br m).v X _ c.c a5)
 | .agf i cn f o m,X,s,c,h=>by
  obtain⟨z,h1,k'⟩:=anyT h
  obtain⟨w,h2,k'⟩:=anyT k'
  obtain⟨x,h3,k'⟩:=anyT k'
  obtain⟨p,rfl⟩:=asAu_ok h1
  have e:=asAtt_ok h2
  obtain⟨q',e'⟩:=asNm_ok h3
  obtain⟨a1,a2,a3,a4,a5⟩:=an5 k'
  obtain⟨n1,n2,n3,n4⟩:=a9 a3
  rw[e,e',bS a1,lZ a2]
  exact BQ n1 n2 n3 n4 (c.c.hfl _ _ a4).1 (c.c.hfl _ _ a4).2 ((br m).v X _ c.c a5)
theorem l8{W:Nat->Prop}{ok:Nat->Bool}:∀(m:Ss) X s,Cs t C W ok X->gn t ok m X.N X.env.scope s=true->PDss X W s (ib C m)
 | .nil,X,s,c,h=>by
  cases s with
  | nil=>exact yN
  | cons _ _=>cases h
 | .cons m ms,X,s,c,h=>by
  obtain⟨z,h1,k'⟩:=anyT h
  have:=con1_ok h1
  subst this
  exact vh (EW m X _ c (an2 k').1) (l8 ms X _ c (an2 k').2)
 | .alo m i ps qs j k ms,X,s,c,h=>by
  obtain⟨y,h0,k'⟩:=anyT h
  obtain⟨z,h1,k'⟩:=anyT k'
  obtain⟨ts,h2,k'⟩:=anyT k'
  obtain⟨n,h3,k'⟩:=anyT k'
  obtain⟨x,h4,k'⟩:=anyT k'
  obtain⟨x',h5,k'⟩:=anyT k'
  obtain⟨w,h6,k'⟩:=anyT k'
  obtain⟨pq,h7,k'⟩:=anyT k'
  obtain⟨p,h8,k'⟩:=anyT k'
  obtain⟨lr,h9,k'⟩:=anyT k'
  obtain⟨o,i1,k'⟩:=anyT k'
  obtain⟨ls,i2,k'⟩:=anyT k'
  obtain⟨d,i3,k'⟩:=anyT k'
  obtain⟨a1,a2,a3,a4⟩:=an4 k'
  obtain⟨b1,b2,b3,b4,b5⟩:=an5 a1
  have:=con1_ok h0
  subst this
  obtain⟨_,e1⟩:=asg1_ok h1
  obtain⟨_,_,e2⟩:=asTup_ok h2
  obtain⟨_,e4⟩:=asNm_ok h4
  obtain⟨_,e5⟩:=asNm_ok h5
  obtain⟨_,e6⟩:=nI h6
  obtain⟨_,_,e7⟩:=asTup_ok h7
  obtain⟨_,_,e9⟩:=asTup_ok h9
  obtain⟨_,f2⟩:=ig i2
  obtain⟨_,_,f3⟩:=asInt_ok i3
  rw[e1,e2,two2_ok h3,e4,e5,e6,e7,two2_ok h8,e9,two2_ok i1,f2,f3,List.isEmpty_iff.mp (an2 b3).1,of_decide_eq_true (an2 b3).2]
  exact y8 c.c.calm c.nd (cT (fun _=>c.fn) c.hw b1) (cT (fun _=>c.fn) c.hw b2) (bz (an2 b4).1) (bz (an2 b4).2) ((br m).t X _ c.c b5) (aU c.c ps _ a2) (aU c.c qs _ a3) (l8 ms X _ ⟨c.c,c.nd,c.fn,c.pass,fun k hk z=>z.elim (c.hw k (an2 hk).1) (of_decide_eq_false (bz (an2 hk).2))⟩ a4)
 | .ali i ps j ms,X,s,c,h=>by
  obtain⟨y,h0,k'⟩:=anyT h
  obtain⟨z,h1,k'⟩:=anyT k'
  obtain⟨x,h2,k'⟩:=anyT k'
  have:=con1_ok h0
  subst this
  obtain⟨p,e1⟩:=iu h1
  obtain⟨q,e⟩:=asNm_ok h2
  obtain⟨a1,a2,a3,a4,a5⟩:=an5 k'
  obtain⟨n1,n2,n3,n4⟩:=a9 a4
  rw[e1,e]
  exact y6 (jK (bz a1)) a2 n1 n2 n3 n4 (aU c.c ps _ a3) (l8 ms X _ ⟨c.c,c.nd,c.fn,c.pass,fun k hk z=>z.elim (c.hw k (an2 hk).1) (of_decide_eq_false (bz (an2 hk).2))⟩ a5)
end
end
end
section
structure Df where
 name:Str
 qual:Str
 st:Stmt
 ps:List Str
 N:List Str
 fn:Fn
def zd(N ps:List Str)(sc:Scope):Bool:=decide (sc.kind=.function) && !sc.isCoroutine && !sc.isGenerator && decide N.Nodup && decide (N.take ps.length=ps) && ps.all (fun x=>vp sc x) && sc.names.all fun y=>!decide (y.2=.free)
theorem vN{N ps:List Str}{sc:Scope}(h:zd N ps sc=true):FnScope N ps sc:=by
 unfold zd at h
 simp only[Bool.and_eq_true,List.all_eq_true,Bool.not_eq_true',decide_eq_true_eq,decide_eq_false_iff_not]at h
 obtain⟨⟨⟨⟨⟨⟨h1,h2⟩,h3⟩,h4⟩,h5⟩,h6⟩,h7⟩:=h
 exact⟨h1,h2,h3,h4,h5,fun x hx=>nL (h6 x hx),h7⟩
def l9(ios:List Bool)(i:Nat):Bool:=!decide (ios[i]?=some true)
def vO(t:Tb)(d:Df):Bool:=zd d.N d.ps (aI d.st) && decide (d.fn.io.length=d.ps.length) && decide (d.fn.n=d.N.length) && gn t (l9 d.fn.io) d.fn.body d.N (aI d.st) (bV d.st)
structure Md (K:PySem.W.Frag)(mg:Str->Option Value)(t:Tb)(p:Pg)(D:Nat->Option Df):Prop where
 df:∀j d,D j=some d->p.F j=some d.fn/\vO t d=true/\∃f fd,Fun K d.name d.qual d.st f fd/\Binds K fd d.ps [] /\
  (∀nm,t.fn j=some nm->mg nm=some (.ref f)/\PySem.W.keepIn K (.ref f)=true)/\(∀c m,t.me j=some (c,m)->Cls K (aq K c)/\Meth K (aq K c) m f)/\(∀c,t.mk' j=some c->Mk K (aq K c) f/\mg c=some (.ref (aq K c)))
 all:∀j,((t.fn j).isSome || (t.me j).isSome || (t.mk' j).isSome)=true->(D j).isSome=true
 gc:∀g nm,t.gc g=some nm->∃v u,mg nm=some u/\RelV v u/\∀S H,Fz K S H v (p.gv g)
 ng:∀x,t.nog x=true->mg x=none
 fl:∀c f,t.fld c f=true->Cls K (aq K c)/\NoAttr K (aq K c) f
section
variable{P:Program}{w:World}{K:PySem.W.Frag}{mg:Str->Option Value}{base:Heap}{t:Tb}{p:Pg}{D:Nat->Option Df}
theorem kQ{k:Nat}{f:Addr}{fd:FuncData}{ps:List Str}{sp:DSp}(h:∀xs Q,¬ sp xs Q):FnD P w K mg base k f fd ps sp:=by
 have h':∀vs H Q E,¬ toSp K sp vs H Q E:=fun vs H Q E ⟨S,xs,A,_,_,_,_,z⟩=>h _ _ z
 exact⟨⟨fun vs H Q E z=>(h' _ _ _ _ z).elim,fun A outer s H args us vs Q E _ _ _ _ z=>(h' _ _ _ _ z).elim⟩,fun xs P R _ z=>(h _ _ z).elim⟩
theorem kR{g:List OD->Option (OD × List OD)}(h:∀xs,g xs=none):∀xs Q,¬ spC g xs Q:=fun xs Q ⟨w,e,_⟩=>by rw[h]at e;cases e
theorem Md.ok(M:Md K mg t p D):∀(n:Nat),(∀(j:Nat) (d:Df),D j=some d->∀(f:Addr) (fd:FuncData),Fun K d.name d.qual d.st f fd->FnD P w K mg base (n + 1) f fd d.ps (spC (p.call n j))) /\
  (∀(j:Nat) (d:Df),D j=some d->∀(f:Addr) (fd:FuncData),Fun K d.name d.qual d.st f fd->FnD P w K mg base n f fd d.ps (spC (p.mak n j)))
 | 0=>⟨fun j d _ f fd _=>kQ (kR fun _=>rfl),fun j d _ f fd _=>kQ (kR fun _=>rfl)⟩
 | n + 1=>by
  obtain⟨ih1,ih2⟩:=Md.ok M n
  refine⟨fun j d hj f fd F=>?_,fun j d hj f fd F=>ih1 j d hj f fd F⟩
  obtain⟨h1,h2,_⟩:=M.df j d hj
  unfold vO at h2
  simp only[Bool.and_eq_true,decide_eq_true_eq]at h2
  obtain⟨⟨⟨g1,g2⟩,g3⟩,g4⟩:=h2
  have S:=vN g1
  refine F.okD (ios:=d.fn.io) S (r9 _) g2 (fun xs Q ⟨z,e,_⟩=>?_) fun cdv A outer s H E hr xs Q ⟨z,e,q⟩=>?_
  ·rw[Pg.call_succ,h1]at e
   simp only at e
   split at e
   ·rename_i hl;rw[hl];exact g2
   ·cases e
  ·have c:Cy t (p.ct n) (jm CX0 P w K mg base d.N d.qual (aI d.st) f cdv A outer s H E).nox:=by
    refine⟨rfl,hr.units,fun j' nm h=>?_,fun j' c m h=>?_,fun j' c h=>?_,M.gc,M.ng,M.fl⟩
    ·obtain⟨d',hd'⟩:=Option.isSome_iff_exists.mp (M.all j' (by rw[h];rfl))
     obtain⟨_,_,f',fd',F',B',q1,_,_⟩:=M.df j' d' hd'
     exact⟨n + 1,f',fd',d'.ps,ih1 j' d' hd' f' fd' F',hr,(q1 nm h).1,(q1 nm h).2,B'⟩
    ·obtain⟨d',hd'⟩:=Option.isSome_iff_exists.mp (M.all j' (by rw[h];simp))
     obtain⟨_,_,f',fd',F',B',_,q2,_⟩:=M.df j' d' hd'
     exact⟨(q2 c m h).1,n + 1,f',fd',d'.ps,(q2 c m h).2,ih1 j' d' hd' f' fd' F',hr,B'⟩
    ·obtain⟨d',hd'⟩:=Option.isSome_iff_exists.mp (M.all j' (by rw[h];simp))
     obtain⟨_,_,f',fd',F',B',_,_,q3⟩:=M.df j' d' hd'
     exact⟨n,f',fd',d'.ps,(q3 c h).1,ih2 j' d' hd' f' fd' F',hr,(q3 c h).2,B'⟩
   have cs:Cs t (p.ct n) (WS d.fn.io) (l9 d.fn.io) (jm CX0 P w K mg base d.N d.qual (aI d.st) f cdv A outer s H E).nox :=
    ⟨c,S.nd,fun _=>rfl,PassesOwn.never,fun i hi z=>by
     unfold l9 at hi
     simp only[Bool.not_eq_true',decide_eq_false_iff_not]at hi
     exact hi z⟩
   refine⟨_,l8 d.fn.body _ _ cs g4,?_⟩
   rw[Pg.call_succ,h1]at e
   simp only at e
   split at e
   ·unfold rP at e
    obtain⟨x,e1,e⟩:=bnd e
    rw[g3]at e1
    refine⟨x,e1,?_⟩
    obtain⟨fl,ρ⟩:=x
    cases fl with
    | nx =>
     obtain⟨ys,e2,e⟩:=bnd e
     cases e
     exact⟨ys,e2,q⟩
    | rt o =>
     obtain⟨ys,e2,e⟩:=bnd e
     cases e
     exact⟨ys,e2,q⟩
    | bk=>cases e
    | ct=>cases e
   ·cases e
theorem Md.law(M:Md K mg t p D){n j:Nat}{d:Df}{f:Addr}{fd:FuncData}(hj:D j=some d)(F:Fun K d.name d.qual d.st f fd)
  (h:∀ns:List Int,ns.length≤63->∃ys,p.call n j [.fz (.list (ns.map PyData.int))]=some (.fz (.bool true),ys)) :
  FnOk P w K mg base CX0 (n + 1) f fd d.ps (fun vs H Q _=>∃(a:Addr) (ns:List Int),vs=[.ref a]/\SqL K H a (ns.map V.int)/\ns.length≤63/\∀H',Q (.bl true) H'):=by
 refine ((M.ok (P:=P) (w:=w) (base:=base) n).1 j d hj f fd F).ok.imp fun vs H Q E hq=>?_
 obtain⟨a,ns,rfl,hS,hl,q⟩:=hq
 obtain⟨ys,hy⟩:=h ns hl
 refine⟨fun _=>False,[.fz (.list (ns.map PyData.int))],[],fun a z=>z.elim,fun _ _ _ z=>z,Ows.cons (A:=[]) (B:=[]) (.fz ((Fz.of0 (.lst hS (DtAll.ints ns))).sub fun c z=>z.elim (fun z=>by cases z) id)) .nil,List.nodup_nil,_,hy,fun v H' B _ hO _ _=>?_⟩
 cases hO with
 | cons r _ =>
  cases r with
  | fz f=>cases f;exact q H'
end
end
section
inductive Kd where | fn | me (c:Str) | ini (c:Str)
def Kd.fn?(d:Df):Kd->Option Str | .fn=>some d.name | _=>none
def Kd.me?(d:Df):Kd->Option (Str × Str) | .me c=>some (c,d.name) | _=>none
def Kd.ini?:Kd->Option Str | .ini c=>some c | _=>none
structure Pl where
 ds:List (Df × Kd)
 cs:List (Str × PyData)
 nog:List Str
 fld:List (Str × Str)
def Pl.tb(P:Pl):Tb where
 fn j:=(P.ds[j]?).bind fun z=>z.2.fn? z.1
 me j:=(P.ds[j]?).bind fun z=>z.2.me? z.1
 mk' j:=(P.ds[j]?).bind fun z=>z.2.ini?
 gc g:=(P.cs[g]?).map (·.1)
 nog x:=P.nog.any fun y=>sEq x y
 fld c f:=P.fld.any fun y=>sEq c y.1 && sEq f y.2
def Pl.pg(P:Pl):Pg where
 F j:=(P.ds[j]?).map (·.1.fn)
 gv g:=((P.cs[g]?).map (·.2)).getD .none
 wf:=100000
def Pl.D(P:Pl)(j:Nat):Option Df:=(P.ds[j]?).map (·.1)
def B8(K:PySem.W.Frag)(mg:Str->Option Value)(d:Df)(f:Addr):Kd->Prop
 | .fn=>mg d.name=some (.ref f)/\PySem.W.keepIn K (.ref f)=true
 | .me c=>Cls K (aq K c)/\Meth K (aq K c) d.name f
 | .ini c=>Mk K (aq K c) f/\mg c=some (.ref (aq K c))
def wJ(K:PySem.W.Frag)(mg:Str->Option Value)(z:Df × Kd):Prop:=∃f fd,Fun K z.1.name z.1.qual z.1.st f fd/\Binds K fd z.1.ps []/\B8 K mg z.1 f z.2
section
variable{K:PySem.W.Frag}{mg:Str->Option Value}{P:Pl}
theorem mp{α β:Type}{o:Option α}{f:α->β}{b:β}(h:o.map f=some b):∃a,o=some a/\f a=b:=by
 cases o with
 | none=>cases h
 | some a=>exact⟨a,rfl,Option.some.inj h⟩
theorem Pl.md(h1:(P.ds.all fun z=>vO P.tb z.1)=true)(h2:∀z∈P.ds,wJ K mg z)(h3:∀z∈P.cs,∃v u,mg z.1=some u/\RelV v u/\∀S H,Fz K S H v z.2)(h4:∀x∈P.nog,mg x=none)(h5:∀z∈P.fld,Cls K (aq K z.1)/\NoAttr K (aq K z.1) z.2):Md K mg P.tb P.pg P.D where
 df j d hj:=by
  obtain⟨z,e1,e2⟩:=mp hj
  subst e2
  have hm:=List.mem_of_getElem? e1
  obtain⟨f,fd,a1,a2,a3⟩:=h2 z hm
  refine⟨by show (P.ds[j]?).map _=_;rw[e1];rfl,List.all_eq_true.mp h1 z hm,f,fd,a1,a2,fun nm hn=>?_,fun c m hn=>?_,fun c hn=>?_⟩
  ·have hn:((P.ds[j]?).bind fun z=>z.2.fn? z.1)=some nm:=hn
   rw[e1]at hn
   obtain⟨d,k⟩:=z
   cases k<;>cases hn
   exact a3
  ·have hn:((P.ds[j]?).bind fun z=>z.2.me? z.1)=some (c,m):=hn
   rw[e1]at hn
   obtain⟨d,k⟩:=z
   cases k<;>cases hn
   exact a3
  ·have hn:((P.ds[j]?).bind fun z=>z.2.ini?)=some c:=hn
   rw[e1]at hn
   obtain⟨d,k⟩:=z
   cases k<;>cases hn
   exact a3
 all j h:=by
  show ((P.ds[j]?).map _).isSome=true
  cases e:P.ds[j]? with
  | none =>
   have h:((((P.ds[j]?).bind fun z=>z.2.fn? z.1).isSome || ((P.ds[j]?).bind fun z=>z.2.me? z.1).isSome) || ((P.ds[j]?).bind fun z=>z.2.ini?).isSome)=true:=h
   rw[e]at h
   cases h
  | some z=>rfl
 gc g nm h:=by
  obtain⟨z,e1,e2⟩:=mp h
  subst e2
  obtain⟨v,u,b1,b2,b3⟩:=h3 z (List.mem_of_getElem? e1)
  have e3:P.pg.gv g=z.2:=by show ((P.cs[g]?).map _).getD _=_;rw[e1];rfl
  rw[e3]
  exact⟨v,u,b1,b2,b3⟩
 ng x h:=by
  obtain⟨y,hy,e⟩:=List.any_eq_true.mp h
  rw[bS e]
  exact h4 y hy
 fl c f h:=by
  obtain⟨y,hy,e⟩:=List.any_eq_true.mp h
  rw[bS (an2 e).1,bS (an2 e).2]
  exact h5 y hy
end
end
end L2
namespace L2
open PySem
theorem bs{α β:Type}{o:Option α}{f:α->Option β}{x:α}{r:Option β}(h:o=some x)(k:f x=r):o.bind f=r:=by rw[h];exact k
theorem EX{c:Prop}[Decidable c](h:c):gd c=some ():=if_pos h
theorem bg{β:Type}{c:Prop}[Decidable c]{f:Unit->Option β}{r:Option β}(h:c)(k:f ()=r):(gd c).bind f=r:=bs (EX h) k
section
variable{C:Ct}{a b c e:E}{es:Es}{ρ ρ1 ρ2 ρ3:DEnv}{x y:OR}{dx dy d:PyData}{k k1:Bool}{i j f:Nat}{n:Int}{rs:List OR}{xs ys zs:List OD}{z w:OD}{ds:List PyData}{s:S'}{ss sa sb:Ss}{fl:Fl}{r:Option (Fl × DEnv)}{rv:Option (OR × DEnv)}{rt:Option (Bool × DEnv)}{ps:List Acc}
theorem af{o:Bo}(h1:ev C a ρ=some (x,ρ1))(h2:ev C b ρ1=some (y,ρ2))(hx:aN ρ2 x=some dx)(hy:aN ρ2 y=some dy)(h:vc o dx dy=some d):ev C (.bop o a b) ρ=some (.val (.fz d),ρ2):=bs h1 (bs h2 (bs hx (bs hy (bs h rfl))))
theorem aw{o:Co}(h1:ev C a ρ=some (x,ρ1))(h2:ev C b ρ1=some (y,ρ2))(hx:aN ρ2 x=some dx)(hy:aN ρ2 y=some dy)(h:rM o dx dy=some k):ev C (.cmp o a b) ρ=some (.val (.fz (.bool k)),ρ2):=bs h1 (bs h2 (bs hx (bs hy (bs h rfl))))
theorem aV(h1:ev C a ρ=some (x,ρ1))(h2:ev C b ρ1=some (y,ρ2))(hy:aN ρ2 y=some (.int n))(h:bu ρ2 x n=some (z,ρ3)):ev C (.ix a b) ρ=some (.val z,ρ3):=bs h1 (bs h2 (bs hy (bs rfl (bs h rfl))))
theorem ae(h1:evs C es ρ=some (rs,ρ1))(h2:bx (C.io f) ρ1 rs=some (xs,ρ2))(h3:C.call f xs=some (w,ys))(h4:dF (C.io f) rs ys ρ2=ρ3):ev C (.call f es) ρ=some (.val w,ρ3):=bs h1 (bs h2 (bs h3 (by rw[<- h4])))
theorem vP(h1:evs C es ρ=some (rs,ρ1))(h2:eh ρ1 rs=some ds)(h3:C.call f (ds.map OD.fz)=some (.fz d,ys))(h4:CH d=true):ev C (.callS f es) ρ=some (.val (.fz d),ρ1):=bs h1 (bs h2 (bs h3 (bs rfl (bg h4 rfl))))
theorem vQ(h:ev C (.callS f es) ρ=some (.val (.fz (.bool k)),ρ1)):bf C (.callS f es) ρ=some (k,ρ1):=bs h rfl
theorem eJ{cn m:Str}{ns:List Str}(h0:ρ[i]?.join=some (.obj cn ns zs))(hm:m ∉ ns)(h1:evs C es ρ=some (rs,ρ1))(h2:bx (C.io f) ρ1 (.rf i::rs)=some (xs,ρ2))(h3:C.call f xs=some (w,ys))(h4:dF (C.io f) (.rf i::rs) ys ρ2=ρ3):ev C (.meth cn m f i es) ρ=some (.val w,ρ3):=bs h0 (bs rfl (bg ⟨rfl,hm⟩ (bs h1 (bs h2 (bs h3 (by rw[<- h4]))))))
theorem ze{cn:Str}(h1:evs C es ρ=some (rs,ρ1))(h2:bx (C.io f).tail ρ1 rs=some (xs,ρ2))(h3:C.mak f (.obj cn [] []::xs)=some (.fz .none,w::ys))(h4:dF (C.io f).tail rs ys ρ2=ρ3):ev C (.make cn f es) ρ=some (.val w,ρ3):=bs h1 (bs h2 (bs h3 (bs rfl (by rw[<- h4]))))
theorem iw(h1:evs C es ρ=some (rs,ρ1))(hl:Nat.ble rs.length 1000000=true)(h2:mapR own1 ρ1 rs=some (zs,ρ2)):ev C (.lst es) ρ=some (.val (.lst zs),ρ2):=bs h1 (bs h2 (bg (Nat.ble_eq.mp hl) rfl))
theorem dH(h1:evs C es ρ=some (rs,ρ1))(hl:Nat.ble rs.length 1000000=true)(h2:mapR own1 ρ1 rs=some (zs,ρ2))(h3:mkTup zs=z):ev C (.tup es) ρ=some (.val z,ρ2):=bs h1 (bs h2 (bg (Nat.ble_eq.mp hl) (by rw[<- h3])))
theorem ag:evs C .nil ρ=some ([],ρ):=rfl
theorem aa(h1:ev C e ρ=some (x,ρ1))(h2:evs C es ρ1=some (rs,ρ2)):evs C (.cons e es) ρ=some (x::rs,ρ2):=bs h1 (bs h2 rfl)
theorem iZ(h:bf C c ρ=some (true,ρ1))(k:ev C a ρ1=rv):ev C (.ife c a b) ρ=rv:=bs h k
theorem nV(h:bf C c ρ=some (false,ρ1))(k:ev C b ρ1=rv):ev C (.ife c a b) ρ=rv:=bs h k
theorem bE{g:Bl}(h1:evs C es ρ=some (rs,ρ1))(h2:eh ρ1 rs=some ds)(h3:zM g ds=some d):ev C (.blt g es) ρ=some (.val (.fz d),ρ1):=bs h1 (bs h2 (bs h3 rfl))
theorem nW(h1:ev C e ρ=some (x,ρ1))(h2:(dB ρ1 x).bind listOf=some ds):ev C (.bnw .tuple e) ρ=some (.val (.fz (.tuple ds)),ρ1):=bs h1 (bs h2 rfl)
theorem B9{dx dy:List PyData}(h1:ev C a ρ=some (x,ρ1))(h2:ev C b ρ1=some (y,ρ2))(hx:zJ ρ2 x=some dx)(hy:zJ ρ2 y=some dy)(hl:dx.length + dy.length≤1000000):ev C (.cat a b) ρ=some (.val (.lst ((dx++dy).map OD.fz)),ρ2):=bs h1 (bs h2 (bs hx (bs hy (bg hl rfl))))
theorem az{o:Co}(h:ev C (.cmp o a b) ρ=some (.val (.fz (.bool k)),ρ1)):bf C (.cmp o a b) ρ=some (k,ρ1):=bs h rfl
theorem bG(h:ev C (.call f es) ρ=some (.val (.fz (.bool k)),ρ1)):bf C (.call f es) ρ=some (k,ρ1):=bs h rfl
theorem mf{cn m:Str}(h:ev C (.meth cn m f i es) ρ=some (.val (.fz (.bool k)),ρ1)):bf C (.meth cn m f i es) ρ=some (k,ρ1):=bs h rfl
theorem Ej(h:ev C (.ix a b) ρ=some (.val (.fz (.bool k)),ρ1)):bf C (.ix a b) ρ=some (k,ρ1):=bs h rfl
theorem t_andT(h:bf C a ρ=some (true,ρ1))(k:bf C b ρ1=rt):bf C (.and a b) ρ=rt:=bs h k
theorem eK(h:bf C a ρ=some (false,ρ1)):bf C (.and a b) ρ=some (false,ρ1):=bs h rfl
theorem kS(h:bf C a ρ=some (true,ρ1)):bf C (.or a b) ρ=some (true,ρ1):=bs h rfl
theorem cG(h:bf C a ρ=some (false,ρ1))(k:bf C b ρ1=rt):bf C (.or a b) ρ=rt:=bs h k
theorem fW(h:bf C a ρ=some (k,ρ1)):bf C (.not a) ρ=some (!k,ρ1):=bs h rfl
theorem mh(h:ev C a ρ=some (.val (.fz (.bool true)),ρ1))(k:ev C b ρ1=rv):ev C (.and a b) ρ=rv:=bs h (bs rfl (bs rfl k))
theorem mj(h:ev C a ρ=some (.val (.fz (.bool false)),ρ1)):ev C (.and a b) ρ=some (.val (.fz (.bool false)),ρ1):=bs h rfl
theorem wK(h:ev C a ρ=some (.val (.fz (.bool true)),ρ1)):ev C (.or a b) ρ=some (.val (.fz (.bool true)),ρ1):=bs h rfl
theorem wL(h:ev C a ρ=some (.val (.fz (.bool false)),ρ1))(k:ev C b ρ1=rv):ev C (.or a b) ρ=rv:=bs h (bs rfl (bs rfl k))
theorem bX{p:OD × List Nat × OD}(h:ah ρ i ps=some p)(h2:p.2.2=.fz d):ev C (.pg i ps) ρ=some (.val (.fz d),ρ):=bs h (bs (show m6 p.2.2=some d by rw[h2];rfl) rfl)
variable{p:OD × List Nat × OD}{cn fl':Str}{ns ns':List Str}{xs':List OD}
theorem zf(h:ah ρ i ps=some p)(hd:p.2.2.dat=some d)(hr:ρ.set i (some (OD.put (.fz d) p.2.1 p.1))=ρ1):ev C (.pf i ps) ρ=some (.val (.fz d),ρ1):=bs h (bs hd (by rw[<- hr]))
theorem zg{m:Nat}(h:ah ρ i ps=some p)(hd:p.2.2.dat=some d)(hl:g6 d=some m):ev C (.pl i ps) ρ=some (.val (.fz (.int m)),ρ):=bs h (bs hd (bs hl rfl))
theorem i4(h:ah ρ i ps=some p)(hd:p.2.2.dat=some d)(ht:kC d=some k):bf C (.pt i ps) ρ=some (k,ρ):=bs h (bs hd (bs ht rfl))
theorem ml{neg:Bool}(h1:ev C e ρ=some (x,ρ1))(hx:aN ρ1 x=some dx)(h:ah ρ1 i ps=some p)(hd:p.2.2.dat=some d)(hc:rM (if neg then .nin else .inn) dx d=some k):bf C (.pin neg e i ps) ρ=some (k,ρ1):=bs (bs h1 (bs hx (bs h (bs hd (bs hc rfl))))) rfl
theorem fX(h:ah ρ i ps=some p)(he:iI C e ρ=some d)(hx:p.2.2=.lst xs)(hl:xs.length < 1000000)(hr:ρ.set i (some (OD.put (.lst (xs++[.fz d])) p.2.1 p.1))=ρ1):dw C (.apd i ps e) ρ=some (.nx,ρ1):=bs h (bs he (bs (show m7 p.2.2=some xs by rw[hx];rfl) (bg hl (by rw[<- hr]))))
theorem sR{kd:PyData}{kk:Key}{ks ks':List Key}(he:ev C e ρ=some (x,ρ1))(hf:frz1 ρ1 x=some (d,ρ2))(h:ah ρ2 i ps=some p)(hj:ρ2[j]?.join=some (.fz kd))(hk:keyOf kd=some kk)(hx:p.2.2=.dic ks xs)(hl:xs.length < 1000000)(hp:bQ kk d ks xs=(ks',xs'))(hr:ρ2.set i (some (OD.put (.dic ks' xs') p.2.1 p.1))=ρ3):dw C (.std i ps j e) ρ=some (.nx,ρ3):=bs he (bs hf (bs h (bs hj (bs rfl (bs hk (bs (x:=(ks,xs)) (by rw[hx];rfl) (bg hl (by rw[<- hr];simp only[hp]))))))))
theorem bU(he:ev C e ρ=some (x,ρ1))(ho:own1 ρ1 x=some (z,ρ2))(h0:ρ2[i]?.join=some (.obj cn ns xs))(hl:Nat.blt xs.length 1000=true)(hp:bp fl' z ns xs=(ns',xs'))(hr:ρ2.set i (some (.obj cn ns' xs'))=ρ3):dw C (.stf i cn fl' e) ρ=some (.nx,ρ3):=bs he (bs ho (bs h0 (bs rfl (bg ⟨rfl,Nat.blt_eq.mp hl⟩ (by rw[<- hr];simp only[hp])))))
theorem sS{o:Bo}{a r:Int}(h:ah ρ i [.fld cn fl']=some p)(hq:p.2.2=.fz (.int a))(he:ev C e ρ=some (x,ρ1))(hd:aN ρ1 x=some d)(ha:lV o a d=some r)(h0:ρ1[i]?.join=some (.obj cn ns xs))(hl:Nat.blt xs.length 1000=true)(hp:bp fl' (.fz (.int r)) ns xs=(ns',xs'))(hr:ρ1.set i (some (.obj cn ns' xs'))=ρ3):dw C (.agf i cn fl' o e) ρ=some (.nx,ρ3):=bs h (bs (show m6 p.2.2=some (.int a) by rw[hq];rfl) (bs rfl (bs he (bs hd (bs ha (bs h0 (bs rfl (bg ⟨rfl,Nat.blt_eq.mp hl⟩ (by rw[<- hr];simp only[hp])))))))))
theorem ab(h:dw C s ρ=some (.nx,ρ1))(k:aD C ss ρ1=r):aD C (.cons s ss) ρ=r:=bs h k
theorem aH(h:dw C s ρ=some (.rt z,ρ1)):aD C (.cons s ss) ρ=some (.rt z,ρ1):=bs h rfl
theorem Ek(h:dw C s ρ=some (.ct,ρ1)):aD C (.cons s ss) ρ=some (.ct,ρ1):=bs h rfl
theorem ao(h:ev C e ρ=some (x,ρ1))(ho:own1 ρ1 x=some (z,ρ2))(hi:Nat.blt i ρ2.length=true)(hr:ρ2.set i (some z)=ρ3):dw C (.set i e) ρ=some (.nx,ρ3):=bs h (bs ho (bg (Nat.blt_eq.mp hi) (by rw[<- hr])))
theorem mq{is:List Nat}(h:evs C es ρ=some (rs,ρ1))(ho:mapR own1 ρ1 rs=some (zs,ρ2))(hl:(zs.length == is.length && is.all fun i=>Nat.blt i ρ2.length)=true)(hr:dD is zs ρ2=ρ3):dw C (.par is es) ρ=some (.nx,ρ3):=bs h (bs ho (bg (by rw[Bool.and_eq_true,List.all_eq_true]at hl;exact⟨eq_of_beq hl.1,fun i hi=>Nat.blt_eq.mp (hl.2 i hi)⟩) (by rw[<- hr])))
theorem sT(h:ev C e ρ=some (x,ρ1)):dw C (.ex e) ρ=some (.nx,ρ1):=bs h rfl
theorem au(h:ev C e ρ=some (x,ρ1))(ho:mv1 ρ1 x=some (z,ρ2)):dw C (.ret e) ρ=some (.rt z,ρ2):=bs h (bs ho rfl)
theorem aQ(h:bf C c ρ=some (true,ρ1))(k:aD C sa ρ1=r):dw C (.iff c sa sb) ρ=r:=bs h k
theorem aG(h:bf C c ρ=some (false,ρ1))(k:aD C sb ρ1=r):dw C (.iff c sa sb) ρ=r:=bs h k
theorem dJ(h0:ρ[i]?.join=some (.lst ys))(h:ev C e ρ=some (x,ρ1))(ho:own1 ρ1 x=some (z,ρ2))(h1:ρ2[i]?.join=some (.lst xs))(hl:xs.length < 1000000)(hr:ρ2.set i (some (.lst (xs++[z])))=ρ3):dw C (.app i e) ρ=some (.nx,ρ3):=bs h0 (bs rfl (bs h (bs ho (bs h1 (bs rfl (bg hl (by rw[<- hr])))))))
theorem mr{ke:E}{jj:Nat}(h:ev C e ρ=some (x,ρ1))(ho:own1 ρ1 x=some (z,ρ2))(h0:ρ2[i]?.join=some (.lst ys))(hk:ev C ke ρ2=some (y,ρ3))(hd:aN ρ3 y=some (.int n))(h1:ρ3[i]?.join=some (.lst xs))(hn:ixN xs.length n=some jj){ρ4:DEnv}(hr:ρ3.set i (some (.lst (xs.set jj z)))=ρ4):dw C (.sti i ke e) ρ=some (.nx,ρ4):=bs h (bs ho (bs h0 (bs rfl (bs hk (bs hd (bs rfl (bs h1 (bs rfl (bs hn (by rw[<- hr]))))))))))
theorem eB{t:Tg}{it:It'}(h:rN C it ρ=some (ds,ρ1))(k:cv (fun d ρ'=>(bF t (.fz d) ρ').bind fun ρ1=>aD C ss ρ1) ds ρ1=r):dw C (.fr t it ss) ρ=r:=bs h k
theorem fY(h:ev C e ρ=some (x,ρ1))(hd:aN ρ1 x=some (.int n))(h1:-(2 ^ 62)≤n/\n < 2 ^ 62):rN C (.rg1 e) ρ=some (ck 0 n.toNat,ρ1):=bs h (bs hd (bs rfl (bg h1 rfl)))
theorem dM(h:ev C e ρ=some (x,ρ1))(hd:frz1 ρ1 x=some (d,ρ2))(hs:rL d=some ds):rN C (.seq e) ρ=some (ds,ρ2):=bs h (bs hd (bs hs rfl))
theorem sU(h:ev C e ρ=some (x,ρ1))(hd:frz1 ρ1 x=some (.list ds,ρ2)):rN C (.enm e) ρ=some (cD ds,ρ2):=bs h (bs hd (bs rfl rfl))
theorem sV{es':List PyData}(h:ev C a ρ=some (x,ρ1))(h':ev C b ρ1=some (y,ρ2))(hd:frz1 ρ2 x=some (dx,ρ3)){ρ4:DEnv}(hd':frz1 ρ3 y=some (dy,ρ4))(hs:rL dx=some ds)(hs':rL dy=some es'):rN C (.zip a b) ρ=some (fN ds es',ρ4):=bs h (bs h' (bs hd (bs hd' (bs hs (bs hs' rfl)))))
theorem cU{nt:Nat}{fr:List Nat}{it:It'}{tg:Tg}{ifs:Eo}{elt:E}{zc:DEnv × DEnv}{out:List PyData}{ρ':DEnv}(h1:rN C it ρ=some (ds,ρ1))(hz:ds.length < 1000000)(hc:cF ρ1 fr=some zc)(hl:bc (bj C tg ifs elt) ds [] (List.replicate nt none++zc.1)=some (out,ρ'))(hr:gB zc.2 fr (ρ'.drop nt)=ρ2):ev C (.comp nt fr it tg ifs elt) ρ=some (.val (.lst (out.map OD.fz)),ρ2):=bs h1 (bg hz (bs hc (bs (x:=(out,ρ')) hl (by rw[<- hr]))))
theorem vR{nt:Nat}{fr:List Nat}{tg:Tg}{ifs:Eo}{elt:E}{zc:DEnv × DEnv}{out:List PyData}{ρ':DEnv}(h0:ρ[i]?.join=some (.lst (ds.map OD.fz)))(hz:ds.length < 1000000)(hc:cF (ρ.set i none) fr=some zc)(hl:bc (bj C tg ifs elt) ds [] (List.replicate nt none++zc.1)=some (out,ρ'))(hr:(gB zc.2 fr (ρ'.drop nt)).set i (some (.lst (ds.map OD.fz)))=ρ2):ev C (.compB i nt fr tg ifs elt) ρ=some (.val (.lst (out.map OD.fz)),ρ2):=bs h0 (bs rfl (bs (fL ds) (bg hz (bs hc (bs (x:=(out,ρ')) hl (by rw[<- hr]))))))
theorem vS{tg:Tg}{ifs elt:E}(h0:bF tg (.fz d) ρ=some ρ1)(h1:bf C ifs ρ1=some (true,ρ2))(h2:ev C elt ρ2=some (x,ρ3)){ρ4:DEnv}(h3:frz1 ρ3 x=some (dx,ρ4)):bj C tg (.some ifs) elt d ρ=some ([dx],ρ4):=bs h0 (bs h1 (bs h2 (bs h3 rfl)))
theorem vT{tg:Tg}{ifs elt:E}(h0:bF tg (.fz d) ρ=some ρ1)(h1:bf C ifs ρ1=some (false,ρ2)):bj C tg (.some ifs) elt d ρ=some ([],ρ2):=bs h0 (bs h1 rfl)
theorem pZ{tg:Tg}{elt:E}(h0:bF tg (.fz d) ρ=some ρ1)(h2:ev C elt ρ1=some (x,ρ3)){ρ4:DEnv}(h3:frz1 ρ3 x=some (dx,ρ4)):bj C tg .none elt d ρ=some ([dx],ρ4):=bs h0 (bs rfl (bs h2 (bs h3 rfl)))
end
theorem i5{step:PyData->DEnv->Option (Fl × DEnv)}(P:List PyData->DEnv->Prop)(h:∀d ds ρ,P (d::ds) ρ->∃fl ρ',step d ρ=some (fl,ρ')/\(fl=.nx\/fl=.ct)/\P ds ρ'):∀{ds:List PyData} {ρ:DEnv},P ds ρ->∃ρ',cv step ds ρ=some (.nx,ρ')/\P [] ρ':=by
 intro ds
 induction ds with
 | nil=>exact fun {ρ} hp=>⟨ρ,rfl,hp⟩
 | cons d ds ih =>
  intro ρ hp
  obtain⟨fl,ρ1,e1,hf,hp1⟩:=h d ds ρ hp
  obtain⟨ρ2,e2,hp2⟩:=ih hp1
  refine⟨ρ2,bs e1 ?_,hp2⟩
  rcases hf with rfl | rfl
  ·exact e2
  ·exact e2
theorem fZ{step:PyData->DEnv->Option (List PyData × DEnv)}(P:List PyData->List PyData->DEnv->Prop)(h:∀d ds out ρ,P (d::ds) out ρ->∃o ρ',step d ρ=some (o,ρ')/\P ds (out++o) ρ'):∀{ds out:List PyData} {ρ:DEnv},P ds out ρ->∃out' ρ',bc step ds out ρ=some (out',ρ')/\P [] out' ρ':=by
 intro ds
 induction ds with
 | nil=>exact fun {out ρ} hp=>⟨out,ρ,rfl,hp⟩
 | cons d ds ih =>
  intro out ρ hp
  obtain⟨o,ρ1,e1,hp1⟩:=h d ds out ρ hp
  obtain⟨out',ρ2,e2,hp2⟩:=ih hp1
  exact⟨out',ρ2,bs e1 e2,hp2⟩
theorem ai{p:Pg}{n j:Nat}{fn:Fn}{xs:List OD}{ρ:DEnv}{r:OD}{ys:List OD}(hf:p.F j=some fn)(hl:xs.length=fn.io.length)(h:aD (p.ct n) fn.body (eF fn.n xs)=some (.rt r,ρ))(ho:aR 0 fn.io xs ρ=some ys):p.call (n + 1) j xs=some (r,ys):=by
 rw[Pg.call_succ,hf]
 show (if xs.length=fn.io.length then rP (p.ct n) fn xs else none)=_
 rw[if_pos hl]
 exact bs h (bs ho rfl)
theorem cV{p:Pg}{n j:Nat}{fn:Fn}{xs:List OD}{ρ:DEnv}{ys:List OD}(hf:p.F j=some fn)(hl:xs.length=fn.io.length)(h:aD (p.ct n) fn.body (eF fn.n xs)=some (.nx,ρ))(ho:aR 0 fn.io xs ρ=some ys):p.call (n + 1) j xs=some (.fz .none,ys):=by
 rw[Pg.call_succ,hf]
 show (if xs.length=fn.io.length then rP (p.ct n) fn xs else none)=_
 rw[if_pos hl]
 exact bs h (bs ho rfl)
theorem nY{n k:Nat}(h:k < n):ixN n (k:Int)=some k:=by
 unfold ixN
 rw[if_pos (by omega),if_pos (by omega)];rfl
theorem nZ{α:Type}{xs:List α}{k:Nat}{x:α}(h:xs[k]?=some x):atI xs (k:Int)=some x:=bs (nY (List.getElem?_eq_some_iff.mp h).1) h
theorem jP{α:Type}{xs:List α}{i:Int}(h0:0≤i)(h1:i < xs.length):∃x,x∈xs/\atI xs i=some x:=by
 have e:i=(i.toNat:Int):=by omega
 have hl:i.toNat < xs.length:=by omega
 refine⟨xs[i.toNat],List.getElem_mem hl,?_⟩
 have:=nZ (List.getElem?_eq_getElem hl)
 rw[<- e]at this
 exact this
section
variable{ρ:DEnv}{ds:List PyData}{d:PyData}{i:Int}{xs:List OD}{x:OD}
theorem cW(h:atI ds i=some d):bu ρ (.val (.fz (.list ds))) i=some (.fz d,ρ):=by simp only[bu,itemO,h]
theorem cX(h:atI ds i=some d):bu ρ (.val (.fz (.tuple ds))) i=some (.fz d,ρ):=by simp only[bu,itemO,h]
theorem cA(h:atI xs i=some x):bu ρ (.val (.lst xs)) i=some (x,ρ):=by simp only[bu,itemO,h]
end
end L2
namespace Np
open PySem L2
def top(i:Nat):Stmt:=PySem.Challenge.pw_nearpool_k16_pools_laid_late.main.body.getD i (.Pass ⟨0,0,0,0⟩)
def gp(j:Nat):Stmt->Stmt
 | .ClassDef _ _ _ body ..=>body.getD j (.Pass ⟨0,0,0,0⟩)
 | s=>s
def iy:Fn:=⟨[false],1,(.cons (.ret (.and (.cmp .eq (.ix (.nm 0) (.int 0)) (.str "set")) (.cmp .gt (.ix (.nm 0) (.int 2)) (.gc 0)))) .nil)⟩
def gq:Fn:=⟨[false],1,(.cons (.ret (.comp 2 [] (.enm (.nm 0)) (.tp [0,1]) (.some (.call 0 (.cons (.nm 1) .nil))) (.nm 0))) .nil)⟩
def jQ:Fn:=⟨[false],1,(.cons (.ret (.and (.cmp .ne (.ix (.nm 0) (.int 0)) (.str "go")) (.cmp .ne (.ix (.nm 0) (.int 0)) (.str "stop")))) .nil)⟩
def dZ:Fn:=⟨[false,false,false],3,(.cons (.ret (.ife (.or (.call 0 (.cons (.ix (.nm 0) (.nm 2)) .nil)) (.cmp .inn (.nm 2) (.nm 1))) (.int 2) (.int 1))) .nil)⟩
def eM:Fn:=⟨[false,false],2,(.cons (.ret (.or (.cmp .eq (.nm 1) (.int 0)) (.call 2 (.cons (.ix (.nm 0) (.bop .sub (.nm 1) (.int 1))) .nil)))) .nil)⟩
def cY:Fn:=⟨[false,false,false],3,(.cons (.iff (.call 4 (.cons (.nm 0) (.cons (.nm 1) .nil))) (.cons (.aug 2 .add (.gc 1)) .nil) .nil) (.cons (.ret (.bop .sub (.bop .add (.nm 2) (.int 2)) (.bop .mod (.nm 2) (.int 2)))) .nil))⟩
def cH:Fn:=⟨[true,false,false,false],4,(.cons (.stf 0 "Going" "rows" (.nm 1)) (.cons (.stf 0 "Going" "longs" (.nm 2)) (.cons (.stf 0 "Going" "reach" (.nm 3)) (.cons (.stf 0 "Going" "place" (.int 0)) (.cons (.stf 0 "Going" "gaps" (.lst .nil)) (.cons (.stf 0 "Going" "words" (.lst .nil)) (.cons (.stf 0 "Going" "begin" (.int 0)) (.cons (.stf 0 "Going" "uses" (.dnew)) (.cons (.stf 0 "Going" "waiting" (.lst .nil)) .nil)))))))))⟩
def bA:Fn:=⟨[true,false],5,(.cons (.iff (.not (.pt 0 [.fld "Going" "waiting"])) (.cons (.ret (.bl false)) .nil) .nil) (.cons (.iff (.cmp .eq (.nm 1) (.blt .len (.cons (.pg 0 [.fld "Going" "rows"]) .nil))) (.cons (.ret (.bl true)) .nil) .nil) (.cons (.set 2 (.bop .add (.pg 0 [.fld "Going" "place"]) (.call 3 (.cons (.pg 0 [.fld "Going" "rows"]) (.cons (.pg 0 [.fld "Going" "longs"]) (.cons (.nm 1) .nil)))))) (.cons (.asg (.tp [3,4]) (.pg 0 [.ix (0),.fld "Going" "waiting"])) (.cons (.ret (.cmp .gt (.bop .sub (.call 5 (.cons (.pg 0 [.fld "Going" "rows"]) (.cons (.bop .add (.nm 1) (.int 1)) (.cons (.nm 2) .nil)))) (.nm 4)) (.ix (.pg 0 [.fld "Going" "reach"]) (.int 1)))) .nil)))))⟩
def F_Going_lay:Fn:=⟨[true,false],5,(.cons (.set 2 (.lst .nil)) (.cons (.fr (.tp [3,4]) (.seq (.pf 0 [.fld "Going" "waiting"])) (.cons (.std 0 [.fld "Going" "uses"] 3 (.pl 0 [.fld "Going" "gaps"])) (.cons (.iff (.cmp .nin (.ix (.ix (.pg 0 [.fld "Going" "rows"]) (.nm 3)) (.int 2)) (.nm 2)) (.cons (.app 2 (.ix (.ix (.pg 0 [.fld "Going" "rows"]) (.nm 3)) (.int 2))) .nil) .nil) .nil))) (.cons (.apd 0 [.fld "Going" "gaps"] (.nm 1)) (.ali 0 [.fld "Going" "words"] 2 (.cons (.stf 0 "Going" "begin" (.call 5 (.cons (.pg 0 [.fld "Going" "rows"]) (.cons (.nm 1) (.cons (.pg 0 [.fld "Going" "place"]) .nil))))) (.cons (.stf 0 "Going" "place" (.bop .add (.pg 0 [.fld "Going" "begin"]) (.bop .mul (.gc 2) (.blt .len (.cons (.nm 2) .nil))))) (.cons (.stf 0 "Going" "waiting" (.lst .nil)) .nil)))))))⟩
def bJ:Fn:=⟨[true,false],2,(.cons (.iff (.or (.not (.pt 0 [.fld "Going" "words"])) (.pin true (.nm 1) 0 [.ix (-1),.fld "Going" "words"])) (.cons (.ret (.bl false)) .nil) .nil) (.cons (.ret (.cmp .le (.bop .sub (.pg 0 [.fld "Going" "place"]) (.pg 0 [.fld "Going" "begin"])) (.ix (.pg 0 [.fld "Going" "reach"]) (.int 0)))) .nil))⟩
def aW:Fn:=⟨[true,false],2,(.cons (.iff (.or (.not (.pt 0 [.fld "Going" "words"])) (.or (.pt 0 [.fld "Going" "waiting"]) (.pin false (.nm 1) 0 [.ix (-1),.fld "Going" "words"]))) (.cons (.ret (.bl false)) .nil) .nil) (.cons (.ret (.cmp .le (.bop .sub (.bop .add (.pg 0 [.fld "Going" "place"]) (.gc 2)) (.pg 0 [.fld "Going" "begin"])) (.ix (.pg 0 [.fld "Going" "reach"]) (.int 0)))) .nil))⟩
def bB:Fn:=⟨[true,false],3,(.cons (.set 2 (.ix (.ix (.pg 0 [.fld "Going" "rows"]) (.nm 1)) (.int 2))) (.cons (.iff (.meth "Going" "may_put" 10 0 (.cons (.nm 2) .nil)) (.cons (.apd 0 [.ix (-1),.fld "Going" "words"] (.nm 2)) (.cons (.agf 0 "Going" "place" .add (.gc 2)) .nil)) .nil) (.cons (.iff (.meth "Going" "finds" 9 0 (.cons (.nm 2) .nil)) (.cons (.std 0 [.fld "Going" "uses"] 1 (.bop .sub (.pl 0 [.fld "Going" "gaps"]) (.int 1))) .nil) (.cons (.apd 0 [.fld "Going" "waiting"] (.tup (.cons (.nm 1) (.cons (.pg 0 [.fld "Going" "place"]) .nil)))) .nil)) .nil)))⟩
def bK:Fn:=⟨[true,false],2,(.cons (.iff (.meth "Going" "is_due" 7 0 (.cons (.nm 1) .nil)) (.cons (.ex (.meth "Going" "lay" 8 0 (.cons (.nm 1) .nil))) .nil) .nil) (.cons (.iff (.cmp .lt (.nm 1) (.blt .len (.cons (.pg 0 [.fld "Going" "rows"]) .nil))) (.cons (.iff (.call 0 (.cons (.ix (.pg 0 [.fld "Going" "rows"]) (.nm 1)) .nil)) (.cons (.ex (.meth "Going" "come" 11 0 (.cons (.nm 1) .nil))) .nil) .nil) (.cons (.agf 0 "Going" "place" .add (.call 3 (.cons (.pg 0 [.fld "Going" "rows"]) (.cons (.pg 0 [.fld "Going" "longs"]) (.cons (.nm 1) .nil))))) .nil)) .nil) .nil))⟩
def fc:Fn:=⟨[true],2,(.cons (.set 1 (.comp 2 [] (.zip (.pf 0 [.fld "Going" "gaps"]) (.pf 0 [.fld "Going" "words"])) (.tp [0,1]) .none (.tup (.cons (.nm 0) (.cons (.bnw .tuple (.nm 1)) .nil))))) (.cons (.ret (.tup (.cons (.mv 1) (.cons (.comp 1 [0] (.seq (.call 1 (.cons (.pg 0 [.fld "Going" "rows"]) .nil))) (.nm 0) .none (.pg 1 [.key 0,.fld "Going" "uses"])) .nil)))) .nil))⟩
def gu:Fn:=⟨[false,false,false],5,(.cons (.set 3 (.make "Going" 6 (.cons (.nm 0) (.cons (.nm 1) (.cons (.nm 2) .nil))))) (.cons (.fr (.nm 4) (.rg1 (.bop .add (.blt .len (.cons (.nm 0) .nil)) (.int 1))) (.cons (.ex (.meth "Going" "cross" 12 3 (.cons (.nm 4) .nil))) .nil)) (.cons (.ret (.meth "Going" "plan" 13 3 .nil)) .nil)))⟩
def f6:Fn:=⟨[false,false],2,(.cons (.ret (.ife (.cmp .lt (.nm 1) (.blt .len (.cons (.nm 0) .nil))) (.ix (.nm 0) (.nm 1)) (.int 0))) .nil)⟩
def sW:Fn:=⟨[false,false],3,(.cons (.set 2 (.call 15 (.cons (.nm 0) (.cons (.nm 1) .nil)))) (.cons (.ret (.lst (.cons (.bop .mul (.blt .abs (.cons (.nm 2) .nil)) (.blt .int (.cons (.cmp .ge (.blt .abs (.cons (.nm 2) .nil)) (.bop .pow (.int 10) (.int 18))) .nil))) (.cons (.bop .mod (.bop .mul (.bop .add (.bop .add (.bop .mod (.nm 2) (.int 2147483647)) (.bop .mul (.int 7121) (.nm 1))) (.int 43)) (.int 48271)) (.int 2147483629)) (.cons (.int 0) .nil))))) .nil))⟩
def mw:Fn:=⟨[true,false],4,(.cons (.iff (.cmp .gt (.ix (.nm 0) (.int 0)) (.int 0)) (.cons (.set 2 (.bop .mod (.ix (.nm 0) (.int 0)) (.nm 1))) (.cons (.sti 0 (.int 0) (.bop .fdiv (.ix (.nm 0) (.int 0)) (.nm 1))) (.cons (.ret (.nm 2)) .nil))) .nil) (.cons (.sti 0 (.int 2) (.bop .add (.ix (.nm 0) (.int 2)) (.int 1))) (.cons (.set 3 (.bop .mod (.bop .mul (.bop .add (.ix (.nm 0) (.int 1)) (.bop .mul (.int 39373) (.ix (.nm 0) (.int 2)))) (.bop .add (.int 48271) (.ix (.nm 0) (.int 2)))) (.int 2147483647))) (.cons (.sti 0 (.int 1) (.bop .mod (.bop .add (.bop .mul (.nm 3) (.bop .add (.bop .mod (.nm 3) (.int 40009)) (.int 7))) (.ix (.nm 0) (.int 2))) (.int 2147483629))) (.cons (.ret (.bop .mod (.bop .fdiv (.bop .mod (.bop .mul (.ix (.nm 0) (.int 1)) (.bop .add (.bop .mod (.ix (.nm 0) (.int 1)) (.int 1009)) (.int 3))) (.int 998244353)) (.int 7)) (.nm 1))) .nil)))))⟩
def n5:Fn:=⟨[true],3,(.cons (.set 1 (.call 17 (.cons (.nm 0) (.cons (.int 4) .nil)))) (.cons (.set 2 (.bop .add (.int 100) (.call 17 (.cons (.nm 0) (.cons (.int 99999900) .nil))))) (.cons (.ret (.ix (.lst (.cons (.ix (.lst (.cons (.int 100) (.cons (.int 101) (.cons (.int 12345) (.cons (.int 10000) (.cons (.int 9999) .nil)))))) (.call 17 (.cons (.nm 0) (.cons (.int 5) .nil)))) (.cons (.bop .add (.int 100) (.call 17 (.cons (.nm 0) (.cons (.int 6) .nil)))) (.cons (.nm 2) (.cons (.int 99999999) .nil))))) (.nm 1))) .nil)))⟩
def F_rows:Fn:=⟨[true],11,(.cons (.set 1 (.ife (.cmp .eq (.call 17 (.cons (.nm 0) (.cons (.int 8) .nil))) (.int 0)) (.bop .add (.int 20) (.call 17 (.cons (.nm 0) (.cons (.int 41) .nil)))) (.call 17 (.cons (.nm 0) (.cons (.int 11) .nil))))) (.cons (.set 2 (.ix (.lst (.cons (.int 2) (.cons (.int 5) (.cons (.int 9) .nil)))) (.call 17 (.cons (.nm 0) (.cons (.int 3) .nil))))) (.cons (.set 3 (.lst .nil)) (.cons (.fr (.nm 4) (.rg1 (.nm 1)) (.cons (.par [5,6] (.cons (.call 17 (.cons (.nm 0) (.cons (.int 10) .nil))) (.cons (.call 17 (.cons (.nm 0) (.cons (.int 5) .nil))) .nil))) (.cons (.iff (.cmp .lt (.nm 5) (.nm 2)) (.cons (.app 3 (.tup (.cons (.str "set") (.cons (.nm 6) (.cons (.call 18 (.cons (.nm 0) .nil)) .nil))))) (.cons (.cont) .nil)) .nil) (.cons (.set 5 (.call 17 (.cons (.nm 0) (.cons (.int 9) .nil)))) (.cons (.par [7,8] (.cons (.call 17 (.cons (.nm 0) (.cons (.int 5) .nil))) (.cons (.call 17 (.cons (.nm 0) (.cons (.bop .add (.nm 1) (.int 1)) .nil))) .nil))) (.cons (.set 9 (.blt .max (.cons (.int 0) (.cons (.blt .min (.cons (.nm 1) (.cons (.bop .sub (.bop .add (.nm 4) (.call 17 (.cons (.nm 0) (.cons (.int 7) .nil)))) (.int 2)) .nil))) .nil)))) (.cons (.set 10 (.lst (.cons (.tup (.cons (.str "set") (.cons (.nm 6) (.cons (.call 17 (.cons (.nm 0) (.cons (.int 100) .nil))) .nil)))) (.cons (.tup (.cons (.str "sum") (.cons (.nm 6) (.cons (.nm 7) .nil)))) (.cons (.tup (.cons (.str "less") (.cons (.nm 6) (.cons (.nm 7) .nil)))) (.cons (.tup (.cons (.str "tell") (.cons (.nm 6) .nil))) (.cons (.tup (.cons (.str "go") (.cons (.nm 9) .nil))) .nil))))))) (.cons (.set 10 (.cat (.nm 10) (.lst (.cons (.tup (.cons (.str "nil") (.cons (.nm 6) (.cons (.nm 9) .nil)))) (.cons (.tup (.cons (.str "nil") (.cons (.nm 6) (.cons (.nm 8) .nil)))) (.cons (.tup (.cons (.str "tell") (.cons (.nm 6) .nil))) (.cons (.ix (.lst (.cons (.tup (.cons (.str "go") (.cons (.nm 8) .nil))) (.cons (.tup (.cons (.str "stop") .nil)) .nil))) (.call 17 (.cons (.nm 0) (.cons (.int 2) .nil)))) .nil))))))) (.cons (.app 3 (.ix (.nm 10) (.nm 5))) .nil))))))))) (.cons (.ret (.nm 3)) .nil)))))⟩
def n6:Fn:=⟨[true,false],4,(.cons (.set 2 (.call 17 (.cons (.nm 0) (.cons (.int 3) .nil)))) (.cons (.set 3 (.comp 2 [] (.enm (.nm 1)) (.tp [0,1]) (.some (.cmp .inn (.ix (.nm 1) (.int 0)) (.tup (.cons (.str "go") (.cons (.str "nil") .nil))))) (.nm 0))) (.cons (.ret (.comp 1 [2,0] (.seq (.nm 3)) (.nm 0) (.some (.ix (.lst (.cons (.bl false) (.cons (.cmp .eq (.call 17 (.cons (.nm 2) (.cons (.int 2) .nil))) (.int 0)) (.cons (.bl true) .nil)))) (.nm 1))) (.nm 0))) .nil)))⟩
def n8:Fn:=⟨[true],3,(.cons (.set 1 (.bop .sub (.int 4999) (.bop .mul (.call 17 (.cons (.nm 0) (.cons (.int 2) .nil))) (.call 17 (.cons (.nm 0) (.cons (.int 4990) .nil)))))) (.cons (.set 2 (.ix (.lst (.cons (.int 0) (.cons (.bop .add (.int 1) (.call 17 (.cons (.nm 0) (.cons (.int 12) .nil)))) (.cons (.call 17 (.cons (.nm 0) (.cons (.int 80) .nil))) (.cons (.nm 1) .nil))))) (.call 17 (.cons (.nm 0) (.cons (.int 4) .nil))))) (.cons (.ret (.tup (.cons (.nm 2) (.cons (.ix (.lst (.cons (.int 6) (.cons (.bop .add (.int 7) (.call 17 (.cons (.nm 0) (.cons (.int 12) .nil)))) (.cons (.bop .add (.int 6) (.call 17 (.cons (.nm 0) (.cons (.int 80) .nil)))) (.cons (.nm 1) .nil))))) (.call 17 (.cons (.nm 0) (.cons (.int 4) .nil)))) .nil)))) .nil)))⟩
def fe:Fn:=⟨[false],1,(.cons (.ret (.and (.cmp .eq (.ix (.nm 0) (.int 0)) (.str "set")) (.cmp .gt (.ix (.nm 0) (.int 2)) (.int 99)))) .nil)⟩
def jR:Fn:=⟨[false,false,false],3,(.cons (.ret (.ife (.or (.call 22 (.cons (.ix (.nm 0) (.nm 2)) .nil)) (.cmp .inn (.nm 2) (.nm 1))) (.int 2) (.int 1))) .nil)⟩
def F_late_plan:Fn:=⟨[false,false,false],14,(.cons (.asg (.tp [3,4,5,6]) (.tup (.cons (.lst .nil) (.cons (.dnew) (.cons (.lst .nil) (.cons (.int 0) .nil)))))) (.cons (.fr (.nm 7) (.rg1 (.bop .add (.blt .len (.cons (.nm 0) .nil)) (.int 1))) (.cons (.set 8 (.cmp .eq (.nm 7) (.blt .len (.cons (.nm 0) .nil)))) (.cons (.iff (.and (.cmp .ne (.nm 5) (.lst .nil)) (.not (.nm 8))) (.cons (.set 9 (.call 25 (.cons (.nm 0) (.cons (.bop .add (.nm 7) (.int 1)) (.cons (.bop .add (.nm 6) (.call 23 (.cons (.nm 0) (.cons (.nm 1) (.cons (.nm 7) .nil))))) .nil))))) (.cons (.set 8 (.cmp .gt (.bop .sub (.nm 9) (.ix (.ix (.nm 5) (.int 0)) (.int 1))) (.ix (.nm 2) (.int 1)))) .nil)) .nil) (.cons (.iff (.and (.cmp .ne (.nm 5) (.lst .nil)) (.nm 8)) (.cons (.set 10 (.call 25 (.cons (.nm 0) (.cons (.nm 7) (.cons (.nm 6) .nil))))) (.cons (.app 3 (.lst (.cons (.nm 7) (.cons (.lst .nil) (.cons (.nm 10) .nil))))) (.cons (.fr (.tp [11,12]) (.seq (.nm 5)) (.cons (.sdk 4 (.nm 11) (.bop .sub (.ln 3) (.int 1))) (.cons (.iff (.pin true (.ix (.ix (.nm 0) (.nm 11)) (.int 2)) 3 [.ix (1),.ix (-1)]) (.cons (.apd 3 [.ix (1),.ix (-1)] (.ix (.ix (.nm 0) (.nm 11)) (.int 2))) .nil) .nil) .nil))) (.cons (.set 5 (.lst .nil)) (.cons (.set 6 (.bop .add (.nm 10) (.bop .mul (.int 2) (.pl 3 [.ix (1),.ix (-1)])))) .nil))))) .nil) (.cons (.iff (.cmp .eq (.nm 7) (.blt .len (.cons (.nm 0) .nil))) (.cons (.brk) .nil) .nil) (.cons (.iff (.call 22 (.cons (.ix (.nm 0) (.nm 7)) .nil)) (.alo (.nen 3) 3 [.ix (1),.ix (-1)] [.ix (2),.ix (-1)] 13 10 (.cons (.iff (.and (.cmp .inn (.ix (.ix (.nm 0) (.nm 7)) (.int 2)) (.nm 13)) (.cmp .le (.bop .sub (.nm 6) (.nm 10)) (.ix (.nm 2) (.int 0)))) (.cons (.sdk 4 (.nm 7) (.bop .sub (.ln 3) (.int 1))) .nil) (.cons (.iff (.and (.nen 3) (.and (.cmp .nin (.ix (.ix (.nm 0) (.nm 7)) (.int 2)) (.nm 13)) (.and (.cmp .eq (.nm 5) (.lst .nil)) (.cmp .le (.bop .sub (.bop .add (.nm 6) (.int 2)) (.nm 10)) (.ix (.nm 2) (.int 0)))))) (.cons (.app 13 (.ix (.ix (.nm 0) (.nm 7)) (.int 2))) (.cons (.sdk 4 (.nm 7) (.bop .sub (.ln 3) (.int 1))) (.cons (.set 6 (.bop .add (.nm 6) (.int 2))) .nil))) (.cons (.app 5 (.tup (.cons (.nm 7) (.cons (.nm 6) .nil)))) .nil)) .nil)) .nil)) .nil) (.cons (.set 6 (.bop .add (.nm 6) (.call 23 (.cons (.nm 0) (.cons (.nm 1) (.cons (.nm 7) .nil)))))) .nil))))))) (.cons (.ret (.tup (.cons (.comp 3 [] (.seq (.nm 3)) (.tp [0,1,2]) .none (.tup (.cons (.nm 0) (.cons (.bnw .tuple (.nm 1)) .nil)))) (.cons (.comp 1 [4] (.seq (.sdd 4)) (.nm 0) .none (.pg 1 [.key 0])) .nil)))) .nil)))⟩
def f9:Fn:=⟨[false,false,false],3,(.cons (.set 2 (.bop .add (.nm 2) (.bop .mul (.int 2) (.blt .int (.cons (.or (.cmp .eq (.nm 1) (.int 0)) (.cmp .nin (.ix (.ix (.nm 0) (.bop .sub (.nm 1) (.int 1))) (.int 0)) (.tup (.cons (.str "go") (.cons (.str "stop") .nil))))) .nil))))) (.cons (.ret (.bop .sub (.bop .add (.nm 2) (.int 2)) (.bop .mod (.nm 2) (.int 2)))) .nil))⟩
def F_sparse:Fn:=⟨[true],5,(.cons (.set 1 (.comp 1 [0] (.rg1 (.bop .add (.int 1) (.call 17 (.cons (.nm 0) (.cons (.int 3) .nil))))) (.nm 0) .none (.call 18 (.cons (.nm 1) .nil)))) (.cons (.set 2 (.ix (.lst (.cons (.int 3) (.cons (.int 8) (.cons (.int 20) .nil)))) (.call 17 (.cons (.nm 0) (.cons (.int 3) .nil))))) (.cons (.set 3 (.lst .nil)) (.cons (.fr (.nm 4) (.rg1 (.bop .add (.int 20) (.call 17 (.cons (.nm 0) (.cons (.ix (.lst (.cons (.int 30) (.cons (.int 101) .nil))) (.call 17 (.cons (.nm 0) (.cons (.int 2) .nil)))) .nil))))) (.cons (.iff (.and (.cmp .eq (.call 17 (.cons (.nm 0) (.cons (.nm 2) .nil))) (.int 0)) (.cmp .lt (.blt .len (.cons (.compB 3 1 [] (.nm 0) (.some (.call 22 (.cons (.nm 0) .nil))) (.nm 0)) .nil)) (.int 60))) (.cons (.app 3 (.tup (.cons (.str "set") (.cons (.call 17 (.cons (.nm 0) (.cons (.int 5) .nil))) (.cons (.ix (.nm 1) (.call 17 (.cons (.nm 0) (.cons (.blt .len (.cons (.nm 1) .nil)) .nil)))) .nil))))) .nil) (.cons (.app 3 (.ix (.lst (.cons (.tup (.cons (.str "tell") (.cons (.int 1) .nil))) (.cons (.tup (.cons (.str "nil") (.cons (.int 1) (.cons (.nm 4) .nil)))) (.cons (.tup (.cons (.str "stop") .nil)) (.cons (.tup (.cons (.str "set") (.cons (.int 0) (.cons (.int 99) .nil)))) (.cons (.tup (.cons (.str "go") (.cons (.nm 4) .nil))) .nil)))))) (.call 17 (.cons (.nm 0) (.cons (.int 5) .nil))))) .nil)) .nil)) (.cons (.ret (.nm 3)) .nil)))))⟩
def mx:Fn:=⟨[false,false],2,(.cons (.iff (.isi .seq (.nm 1)) (.cons (.iff (.or (.cmp .ne (.isi .list (.nm 0)) (.isi .list (.nm 1))) (.cmp .ne (.isi .tuple (.nm 0)) (.isi .tuple (.nm 1)))) (.cons (.ret (.bl false)) .nil) .nil) (.cons (.iff (.cmp .ne (.blt .len (.cons (.nm 0) .nil)) (.blt .len (.cons (.nm 1) .nil))) (.cons (.ret (.bl false)) .nil) .nil) (.cons (.ret (.blt .all (.cons (.comp 2 [] (.zip (.nm 0) (.nm 1)) (.tp [0,1]) .none (.call 27 (.cons (.nm 0) (.cons (.nm 1) .nil)))) .nil))) .nil))) .nil) (.cons (.iff (.or (.isn false (.nm 1)) (.isi .str (.nm 1))) (.cons (.ret (.and (.cmp .eq (.nm 0) (.nm 1)) (.cmp .eq (.isi .str (.nm 0)) (.isi .str (.nm 1))))) .nil) .nil) (.cons (.iff (.isi .bool (.nm 1)) (.cons (.ret (.and (.isi .bool (.nm 0)) (.cmp .eq (.nm 0) (.nm 1)))) .nil) .nil) (.cons (.ret (.and (.isi .int (.nm 0)) (.and (.not (.isi .bool (.nm 0))) (.cmp .eq (.nm 0) (.nm 1))))) .nil))))⟩
def F_law:Fn:=⟨[false],10,(.cons (.fr (.nm 1) (.rg1 (.bop .add (.int 1) (.blt .min (.cons (.int 8) (.cons (.blt .len (.cons (.nm 0) .nil)) .nil))))) (.cons (.set 2 (.call 16 (.cons (.nm 0) (.cons (.nm 1) .nil)))) (.cons (.fr (.nm 3) (.seq (.tup (.cons (.call 19 (.cons (.nm 2) .nil)) (.cons (.call 26 (.cons (.nm 2) .nil)) .nil)))) (.cons (.set 4 (.call 20 (.cons (.nm 2) (.cons (.nm 3) .nil)))) (.cons (.fr (.nm 5) (.seq (.tup (.cons (.call 21 (.cons (.nm 2) .nil)) (.cons (.call 21 (.cons (.nm 2) .nil)) .nil)))) (.cons (.set 6 (.tup (.cons (.bnw .list (.nm 3)) (.cons (.bnw .list (.nm 4)) .nil)))) (.cons (.set 7 (.call 24 (.cons (.nm 3) (.cons (.nm 4) (.cons (.nm 5) .nil))))) (.cons (.fr (.nm 8) (.rg1 (.int 2)) (.cons (.set 9 (.call 14 (.cons (.ix (.nm 6) (.int 0)) (.cons (.ix (.nm 6) (.int 1)) (.cons (.nm 5) .nil))))) (.cons (.iff (.or (.not (.callS 27 (.cons (.nm 9) (.cons (.nm 7) .nil)))) (.cmp .ne (.nm 6) (.tup (.cons (.nm 3) (.cons (.nm 4) .nil))))) (.cons (.ret (.bl false)) .nil) .nil) (.cons (.apd 9 [.ix (0)] (.tup (.cons (.int 0) (.cons (.tup .nil) .nil)))) (.cons (.apd 9 [.ix (1)] (.int 0)) .nil))))) .nil)))) .nil))) .nil))) (.cons (.ret (.cmp .eq (.call 14 (.cons (.lst .nil) (.cons (.lst .nil) (.cons (.tup (.cons (.int 0) (.cons (.int 6) .nil))) .nil)))) (.tup (.cons (.lst .nil) (.cons (.lst .nil) .nil))))) .nil))⟩
def iz:Df:=⟨"is_great","is_great",top 2,["row"],["row"],iy⟩
def gw:Df:=⟨"greats_of","greats_of",top 3,["rows"],["rows"],gq⟩
def n9:Df:=⟨"falls","falls",top 4,["row"],["row"],jQ⟩
def i6:Df:=⟨"size_of","size_of",top 8,["rows","longs","at"],["rows","longs","at"],dZ⟩
def iA:Df:=⟨"has_over","has_over",top 9,["rows","gap"],["rows","gap"],eM⟩
def fg:Df:=⟨"first_word","first_word",top 10,["rows","gap","place"],["rows","gap","place"],cY⟩
def cI:Df:=⟨"__init__","Going.__init__",gp 0 (top 12),["self","rows","longs","reach"],["self","rows","longs","reach"],cH⟩
def dN:Df:=⟨"is_due","Going.is_due",gp 1 (top 12),["self","gap"],["self","gap","behind","first","place"],bA⟩
def gx:Df:=⟨"lay","Going.lay",gp 2 (top 12),["self","gap"],["self","gap","numbers","at","place"],F_Going_lay⟩
def eC:Df:=⟨"finds","Going.finds",gp 3 (top 12),["self","number"],["self","number"],bJ⟩
def dn:Df:=⟨"may_put","Going.may_put",gp 4 (top 12),["self","number"],["self","number"],aW⟩
def fh:Df:=⟨"come","Going.come",gp 5 (top 12),["self","at"],["self","at","number"],bB⟩
def eD:Df:=⟨"cross","Going.cross",gp 6 (top 12),["self","gap"],["self","gap"],bK⟩
def fj:Df:=⟨"plan","Going.plan",gp 7 (top 12),["self"],["self","pools"],fc⟩
def gy:Df:=⟨"pools_for","pools_for",top 13,["rows","longs","reach"],["rows","longs","reach","going","gap"],gu⟩
def i7:Df:=⟨"_law_cell_at","_law_cell_at",top 15,["_law_script","_law_k"],["_law_script","_law_k"],f6⟩
def sX:Df:=⟨"_law_tape","_law_tape",top 16,["_law_script","_law_k"],["_law_script","_law_k","_law_cell"],sW⟩
def sY:Df:=⟨"_law_take","_law_take",top 17,["_law_tape_here","_law_many"],["_law_tape_here","_law_many","_law_found","_law_once"],mw⟩
def oa:Df:=⟨"_law_great","_law_great",top 18,["_law_tape_here"],["_law_tape_here","_law_way","_law_any_one"],n5⟩
def sZ:Df:=⟨"_law_rows","_law_rows",top 19,["_law_tape_here"],["_law_tape_here","_law_many","_law_share","_law_made_rows","_law_number","_law_way","_law_r","_law_s","_law_t","_law_near","_law_some"],F_rows⟩
def og:Df:=⟨"_law_longs","_law_longs",top 20,["_law_tape_here","_law_rows_here"],["_law_tape_here","_law_rows_here","_law_share","_law_jumps"],n6⟩
def oh:Df:=⟨"_law_reach","_law_reach",top 21,["_law_tape_here"],["_law_tape_here","_law_any_one","_law_back"],n8⟩
def fq:Df:=⟨"_law_is_great","_law_is_great",top 22,["_law_row"],["_law_row"],fe⟩
def tf:Df:=⟨"_law_size","_law_size",top 23,["_law_rows_here","_law_longs_here","_law_k"],["_law_rows_here","_law_longs_here","_law_k"],jR⟩
def gz:Df:=⟨"_law_late_plan","_law_late_plan",top 25,["_law_rows_here","_law_longs_here","_law_reach_here"],["_law_rows_here","_law_longs_here","_law_reach_here","_law_pools","_law_uses","_law_late","_law_place","_law_gap","_law_due","_law_behind","_law_begin","_law_k","_law_spot","_law_numbers"],F_late_plan⟩
def i9:Df:=⟨"_law_word_at","_law_word_at",top 26,["_law_rows_here","_law_gap","_law_place"],["_law_rows_here","_law_gap","_law_place"],f9⟩
def kT:Df:=⟨"_law_sparse","_law_sparse",top 27,["_law_tape_here"],["_law_tape_here","_law_numbers","_law_share","_law_found","_law_k"],F_sparse⟩
def th:Df:=⟨"_law_same","_law_same",top 28,["_law_found","_law_due"],["_law_found","_law_due"],mx⟩
def D_law:Df:=⟨"law","law",top 29,["_law_script"],["_law_script","_law_k","_law_tape_here","_law_rows_here","_law_longs_here","_law_reach_here","_law_handed","_law_due","_law_turn","_law_found"],F_law⟩
def pl:Pl where
 ds:=[(iz,.fn),(gw,.fn),(n9,.fn),(i6,.fn),(iA,.fn),(fg,.fn),(cI,.ini "Going"),(dN,.me "Going"),(gx,.me "Going"),(eC,.me "Going"),(dn,.me "Going"),(fh,.me "Going"),(eD,.me "Going"),(fj,.me "Going"),(gy,.fn),(i7,.fn),(sX,.fn),(sY,.fn),(oa,.fn),(sZ,.fn),(og,.fn),(oh,.fn),(fq,.fn),(tf,.fn),(gz,.fn),(i9,.fn),(kT,.fn),(th,.fn),(D_law,.fn)]
 cs:=[("GREATEST_SMALL",.int 99),("OVER_CELLS",.int 2),("WORD_CELLS",.int 2)]
 nog:=["abs","all","bool","enumerate","int","isinstance","len","list","max","min","range","sorted","str","tuple","zip"]
 fld:=[("Going","begin"),("Going","gaps"),("Going","longs"),("Going","place"),("Going","reach"),("Going","rows"),("Going","uses"),("Going","waiting"),("Going","words")]
abbrev Ca:Nat:=28
theorem Cb:(pl.ds.all fun z=>vO pl.tb z.1)=true:=by decide +kernel
abbrev It(i:Int):OD:=.fz (.int i)
abbrev Tp(a b c:Int):OD:=.lst [It a,It b,It c]
structure TpOk (b c:Int)(n:Nat):Prop where
 b0:0≤b
 b1:b < 2147483629
 c0:0≤c
 c1:c≤n
theorem dq{i j:Int}(h:(-(2 ^ 64) < i/\i < 2 ^ 64)\/(-(2 ^ 64) < j/\j < 2 ^ 64)):vc .mul (.int i) (.int j)=some (.int (i * j)):=bs rfl (bs rfl (bs (bg h rfl) rfl))
theorem cJ{i j:Int}(h:0 < j):vc .mod (.int i) (.int j)=some (.int (i % j)):=bs rfl (bs rfl (bs (bg h rfl) rfl))
theorem wM{i j:Int}(h:0 < j/\j < 1073741824):vc .fdiv (.int i) (.int j)=some (.int (i / j)):=bs rfl (bs rfl (bs (bg h rfl) rfl))
theorem Cc{x m:Int}(h0:0 < m)(h:m≤2 ^ 64):-(2 ^ 64) < x % m/\x % m < 2 ^ 64:=by
 have h1:=Int.emod_nonneg x (show m≠0 by omega)
 have h2:=Int.emod_lt_of_pos x h0
 omega
theorem up{m a k b:Nat}(h:m≤a)(e:Nat.ble (a + k) b=true):m + k≤b:=Nat.le_trans (Nat.add_le_add_right h k) (Nat.le_of_ble_eq_true e)
theorem upA{m k b:Nat}(e:Nat.ble k b=true):m + k≤m + b:=Nat.add_le_add_left (Nat.le_of_ble_eq_true e) m
theorem av{n m:Nat}{a b c many:Int}(h:TpOk b c m)(hm:m≤1000000)(h0:0 < many)(h1:many < 1073741824):∃x a' b' c',pl.pg.call (n + 1) 17 [Tp a b c,It many]=some (It x,[Tp a' b' c',It many])/\0≤x/\x < many/\TpOk b' c' (m + 1):=by
 have hb:=h.b0
 have hb1:=h.b1
 have hc:=h.c0
 have hc1:=h.c1
 by_cases ha:0 < a
 ·refine⟨a % many,a / many,b,c,?_,Int.emod_nonneg _ (by omega),Int.emod_lt_of_pos _ h0,⟨h.b0,h.b1,h.c0,by omega⟩⟩
  refine ai (fn:=mw) (ρ:=[some (Tp (a / many) b c),some (It many),some (It (a % many)),none]) rfl rfl ?_ rfl
  refine aH (aQ (az (aw rfl rfl rfl rfl (show some (decide (0 < a))=some true by rw[decide_eq_true ha]))) ?_)
  refine ab (ao (af rfl rfl rfl rfl (cJ h0)) rfl rfl rfl) ?_
  refine ab (mr (af rfl rfl rfl rfl (wM ⟨h0,h1⟩)) rfl rfl rfl rfl rfl rfl rfl) rfl
 ·exact⟨_,a,_,c + 1,ai (fn:=mw) rfl rfl (ab (aG (az (aw rfl rfl rfl rfl (show some (decide (0 < a))=some false by rw[decide_eq_false ha]))) rfl) (ab (mr rfl rfl rfl rfl rfl rfl rfl rfl) (ab (ao (af (af (af rfl (af rfl rfl rfl rfl (dq (.inl (by decide)))) rfl rfl rfl) (af rfl rfl rfl rfl rfl) rfl rfl (dq (.inr (by omega)))) rfl rfl rfl (cJ (by decide))) rfl rfl rfl) (ab (mr (af (af (af rfl (af (af rfl rfl rfl rfl (cJ (by decide))) rfl rfl rfl rfl) rfl rfl (dq (.inl (Cc (by decide) (by decide))))) rfl rfl rfl rfl) rfl rfl rfl (cJ (by decide))) rfl rfl rfl rfl rfl rfl rfl) (aH (au (af (af (af (af rfl (af (af rfl rfl rfl rfl (cJ (by decide))) rfl rfl rfl rfl) rfl rfl (dq (.inl (Cc (by decide) (by decide))))) rfl rfl rfl (cJ (by decide))) rfl rfl rfl (wM (by decide))) rfl rfl rfl (cJ h0)) rfl)))))) rfl,Int.emod_nonneg _ (by omega),Int.emod_lt_of_pos _ h0,⟨Int.emod_nonneg _ (by decide),Int.emod_lt_of_pos _ (by decide),by omega,by omega⟩⟩
theorem zh{n:Nat}{ns:List Int}{k:Nat}:∃x,pl.pg.call (n + 1) 15 [.fz (.list (ns.map PyData.int)),It k]=some (It x,[.fz (.list (ns.map PyData.int)),It k]):=by
 by_cases hk:(k:Int) < ns.length
 ·have hk':k < ns.length:=by omega
  refine⟨ns[k],ai (fn:=f6) rfl rfl (aH (au (iZ (az (aw rfl rfl rfl rfl (k:=true) ?_)) (aV rfl rfl rfl (cW (nZ (x:=.int ns[k]) ?_)))) rfl)) rfl⟩
  ·show some (decide ((k:Int) < ((ns.map PyData.int).length:Nat)))=some true
   rw[List.length_map,decide_eq_true hk]
  ·rw[List.getElem?_map,List.getElem?_eq_getElem hk'];rfl
 ·refine⟨0,ai (fn:=f6) rfl rfl (aH (au (nV (az (aw rfl rfl rfl rfl (k:=false) ?_)) rfl) rfl)) rfl⟩
  show some (decide ((k:Int) < ((ns.map PyData.int).length:Nat)))=some false
  rw[List.length_map,decide_eq_false hk]
theorem zi{n:Nat}{ns:List Int}{k:Nat}(hk:k≤8):∃a b,pl.pg.call (n + 2) 16 [.fz (.list (ns.map PyData.int)),It k]=some (Tp a b 0,[.fz (.list (ns.map PyData.int)),It k])/\TpOk b 0 0:=by
 obtain⟨x,hx⟩:=zh (n:=n) (ns:=ns) (k:=k)
 refine⟨_,_,ai (fn:=sW) rfl rfl (ab (ao (ae rfl rfl hx rfl) rfl rfl rfl) (aH (au (iw (aa (af rfl (bE (aa (aw rfl (af rfl rfl rfl rfl rfl) rfl rfl rfl) ag) rfl rfl) rfl rfl (dq (.inr ?_))) (aa (af (af (af (af (af rfl rfl rfl rfl (cJ (by decide))) (af rfl rfl rfl rfl (dq (.inl (by decide)))) rfl rfl rfl) rfl rfl rfl rfl) rfl rfl rfl (dq (.inr (by decide)))) rfl rfl rfl (cJ (by decide))) (aa rfl ag))) rfl rfl) rfl))) rfl,Int.emod_nonneg _ (by decide),Int.emod_lt_of_pos _ (by decide),Int.le_refl _,Int.le_refl _⟩
 exact (show ∀q:Bool,-(2 ^ 64) < (if q=true then (1:Int) else 0)/\(if q=true then (1:Int) else 0) < 2 ^ 64 by decide) _
theorem cx{ks:List Int}{i:Int}(h0:0≤i)(h1:i < ks.length):∃k,k∈ks/\atI (ks.map It) i=some (It k):=by
 obtain⟨x,hx,e⟩:=jP (xs:=ks.map It) h0 (by rw[List.length_map];exact h1)
 obtain⟨k,hk,rfl⟩:=List.mem_map.mp hx
 exact⟨k,hk,e⟩
theorem TpOk.up{b c:Int}{m m':Nat}(h:TpOk b c m)(hm:m≤m'):TpOk b c m':=⟨h.b0,h.b1,h.c0,by have:=h.c1;omega⟩
theorem oi{n m:Nat}{a b c:Int}(h:TpOk b c m)(hm:m≤900000):∃k a' b' c',pl.pg.call (n + 2) 18 [Tp a b c]=some (It k,[Tp a' b' c'])/\100≤k/\TpOk b' c' (m + 4):=by
 obtain⟨w,a1,b1,c1,e1,w0,w1,t1⟩:=av (n:=n) (a:=a) (many:=4) h (up (k:=0) hm rfl) (by decide) (by decide)
 obtain⟨x2,a2,b2,c2,e2,x20,_,t2⟩:=av (n:=n) (a:=a1) (many:=99999900) t1 (up (k:=1) hm rfl) (by decide) (by decide)
 obtain⟨x3,a3,b3,c3,e3,x30,x31,t3⟩:=av (n:=n) (a:=a2) (many:=5) t2 (up (k:=2) hm rfl) (by decide) (by decide)
 obtain⟨x4,a4,b4,c4,e4,x40,x41,t4⟩:=av (n:=n) (a:=a3) (many:=6) t3 (up (k:=3) hm rfl) (by decide) (by decide)
 obtain⟨g,hg,eg⟩:=cx (ks:=[100,101,12345,10000,9999]) x30 x31
 obtain⟨k,hk,ek⟩:=cx (ks:=[g,100 + x4,100 + x2,99999999]) w0 w1
 refine⟨k,a4,b4,c4,ai (fn:=n5) rfl rfl (ab (ao (ae rfl rfl e1 rfl) rfl rfl rfl) (ab (ao (af rfl (ae rfl rfl e2 rfl) rfl rfl rfl) rfl rfl rfl) (aH (au (aV (iw (aa (aV rfl (ae rfl rfl e3 rfl) rfl (cA eg)) (aa (af rfl (ae rfl rfl e4 rfl) rfl rfl rfl) (aa rfl (aa rfl ag)))) rfl rfl) rfl rfl (cA ek)) rfl)))) rfl,?_,t4⟩
 have hg':100≤g:=(show ∀x∈[100,101,12345,10000,9999],(100:Int)≤x by decide) g hg
 rcases List.mem_cons.mp hk with rfl | hk
 ·exact hg'
 rcases List.mem_cons.mp hk with rfl | hk
 ·exact Int.le_add_of_nonneg_right x40
 rcases List.mem_cons.mp hk with rfl | hk
 ·exact Int.le_add_of_nonneg_right x20
 rw[List.mem_singleton.mp hk]
 decide
theorem oj{n m:Nat}{a b c:Int}(h:TpOk b c m)(hm:m≤900000):∃r0 r1 a' b' c',pl.pg.call (n + 2) 21 [Tp a b c]=some (.fz (.tuple [.int r0,.int r1]),[Tp a' b' c'])/\TpOk b' c' (m + 8)/\6≤r1/\r1≤10000/\0≤r0/\r0≤10000:=by
 obtain⟨x1,a1,b1,c1,e1,x10,x11,t1⟩:=av (n:=n) (a:=a) (many:=2) h (up (k:=0) hm rfl) (by decide) (by decide)
 obtain⟨x2,a2,b2,c2,e2,x20,x21,t2⟩:=av (n:=n) (a:=a1) (many:=4990) t1 (up (k:=1) hm rfl) (by decide) (by decide)
 obtain⟨x3,a3,b3,c3,e3,x30,x31,t3⟩:=av (n:=n) (a:=a2) (many:=12) t2 (up (k:=2) hm rfl) (by decide) (by decide)
 obtain⟨x4,a4,b4,c4,e4,x40,x41,t4⟩:=av (n:=n) (a:=a3) (many:=80) t3 (up (k:=3) hm rfl) (by decide) (by decide)
 obtain⟨x5,a5,b5,c5,e5,x50,x51,t5⟩:=av (n:=n) (a:=a4) (many:=4) t4 (up (k:=4) hm rfl) (by decide) (by decide)
 obtain⟨x6,a6,b6,c6,e6,x60,x61,t6⟩:=av (n:=n) (a:=a5) (many:=12) t5 (up (k:=5) hm rfl) (by decide) (by decide)
 obtain⟨x7,a7,b7,c7,e7,x70,x71,t7⟩:=av (n:=n) (a:=a6) (many:=80) t6 (up (k:=6) hm rfl) (by decide) (by decide)
 obtain⟨x8,a8,b8,c8,e8,x80,x81,t8⟩:=av (n:=n) (a:=a7) (many:=4) t7 (up (k:=7) hm rfl) (by decide) (by decide)
 obtain⟨g,hg,eg⟩:=cx (ks:=[0,1 + x3,x4,4999 - x1 * x2]) x50 x51
 obtain⟨k,hk,ek⟩:=cx (ks:=[6,7 + x6,6 + x7,4999 - x1 * x2]) x80 x81
 have hx:x1=0\/x1=1:=by omega
 have hm0:0≤x1 * x2/\x1 * x2 < 4990:=by
  rcases hx with rfl | rfl
  ·rw[Int.zero_mul];omega
  ·rw[Int.one_mul];omega
 have h6:6≤k/\k≤10000:=by
  rcases List.mem_cons.mp hk with rfl | hk
  ·omega
  rcases List.mem_cons.mp hk with rfl | hk
  ·omega
  rcases List.mem_cons.mp hk with rfl | hk
  ·omega
  rw[List.mem_singleton.mp hk];omega
 have h0:0≤g/\g≤10000:=by
  rcases List.mem_cons.mp hg with rfl | hg
  ·omega
  rcases List.mem_cons.mp hg with rfl | hg
  ·omega
  rcases List.mem_cons.mp hg with rfl | hg
  ·omega
  rw[List.mem_singleton.mp hg];omega
 exact⟨g,k,a8,b8,c8,ai (fn:=n8) rfl rfl (ab (ao (ρ3:=[some (Tp a2 b2 c2),some (It (4999 - x1 * x2)),none]) (af rfl (af (ae (ρ3:=[some (Tp a1 b1 c1),none,none]) rfl rfl e1 rfl) (ae (ρ3:=[some (Tp a2 b2 c2),none,none]) rfl rfl e2 rfl) rfl rfl (dq (.inl (by omega)))) rfl rfl rfl) rfl rfl rfl) (ab (ao (ρ3:=[some (Tp a5 b5 c5),some (It (4999 - x1 * x2)),some (It g)]) (aV (iw (zs:=[It 0,It (1 + x3),It x4,It (4999 - x1 * x2)]) (aa rfl (aa (af rfl (ae (ρ3:=[some (Tp a3 b3 c3),some (It (4999 - x1 * x2)),none]) rfl rfl e3 rfl) rfl rfl rfl) (aa (ae (ρ3:=[some (Tp a4 b4 c4),some (It (4999 - x1 * x2)),none]) rfl rfl e4 rfl) (aa rfl ag)))) rfl rfl) (ae (ρ3:=[some (Tp a5 b5 c5),some (It (4999 - x1 * x2)),none]) rfl rfl e5 rfl) rfl (cA eg)) rfl rfl rfl) (aH (au (dH (aa rfl (aa (aV (iw (zs:=[It 6,It (7 + x6),It (6 + x7),It (4999 - x1 * x2)]) (aa rfl (aa (af rfl (ae (ρ3:=[some (Tp a6 b6 c6),some (It (4999 - x1 * x2)),some (It g)]) rfl rfl e6 rfl) rfl rfl rfl) (aa (af rfl (ae (ρ3:=[some (Tp a7 b7 c7),some (It (4999 - x1 * x2)),some (It g)]) rfl rfl e7 rfl) rfl rfl rfl) (aa rfl ag)))) rfl rfl) (ae (ρ3:=[some (Tp a8 b8 c8),some (It (4999 - x1 * x2)),some (It g)]) rfl rfl e8 rfl) rfl (cA ek)) ag)) rfl rfl rfl) rfl)))) rfl,t8,h6.1,h6.2,h0.1,h0.2⟩
inductive R where | st (r k:Int) | ot (w:Str) (xs:List Int) (h:w≠"set"/\PyData.strOk w=true)
abbrev my(a b:Int):R:=.ot "sum" [a,b] (by decide +kernel)
abbrev iB(a b:Int):R:=.ot "less" [a,b] (by decide +kernel)
abbrev dr(a:Int):R:=.ot "tell" [a] (by decide +kernel)
abbrev oGo(a:Int):R:=.ot "go" [a] (by decide +kernel)
abbrev jS(a b:Int):R:=.ot "nil" [a,b] (by decide +kernel)
abbrev wN:R:=.ot "stop" [] (by decide +kernel)
def R.d:R->PyData | .st r k=>.tuple [.str "set",.int r,.int k] | .ot w xs _=>.tuple (.str w::xs.map PyData.int)
abbrev Rs(rs:List R):OD:=.lst (rs.map fun r=>.fz r.d)
theorem tj{rs:List R}{i:Int}(h0:0≤i)(h1:i < rs.length):∃r,r∈rs/\atI (rs.map fun r=>OD.fz r.d) i=some (.fz r.d):=by
 obtain⟨x,hx,e⟩:=jP (xs:=rs.map fun r=>OD.fz r.d) h0 (by rw[List.length_map];exact h1)
 obtain⟨r,hr,rfl⟩:=List.mem_map.mp hx
 exact⟨r,hr,e⟩
theorem vU{ρ:DEnv}{j:Nat}{rs:List R}{i:Int}{r:R}(h:ρ[j]?.join=some (Rs rs))(h1:atI (rs.map fun r=>OD.fz r.d) i=some (.fz r.d)):bu ρ (.rf j) i=some (.fz r.d,ρ):=by
 obtain⟨k,e1,e2⟩:=bnd h1
 have e3:itemS (Rs rs) i=some (r.d,Rs rs):=by
  simp only[Rs,itemS,e1,e2,OD.dat]
  rw[bt e2]
 simp only[bu,h,e3]
 rw[set_self (join_some h)]
theorem jT{rs:List R}{r:R}:Rs (rs++[r])=.lst ((rs.map fun r=>OD.fz r.d)++[.fz r.d]):=by rw[Rs,List.map_append];rfl
theorem qa{n m:Nat}{a b c many share i:Int}{rs:List R}{o4 o5 o6 o7 o8 o9 o10:Option OD}(h:TpOk b c m)(hm:m≤100000)(hl:rs.length≤1000)(m0:0≤many)(m1:many≤100) :
  ∃fl ρ',((bF (.nm 4) (.fz (.int i)) [some (Tp a b c),some (It many),some (It share),some (Rs rs),o4,o5,o6,o7,o8,o9,o10]).bind fun ρ1=>aD (pl.pg.ct (n + 2)) (match F_rows.body with | .cons _ (.cons _ (.cons _ (.cons (.fr _ _ b) _)))=>b | _=>.nil) ρ1)=some (fl,ρ')/\(fl=.nx\/fl=.ct)/\∃(r:R) (a' b' c':Int) (p4 p5 p6 p7 p8 p9 p10:Option OD),ρ'=[some (Tp a' b' c'),some (It many),some (It share),some (Rs (rs++[r])),p4,p5,p6,p7,p8,p9,p10]/\TpOk b' c' (m + 8):=by
 obtain⟨x1,a1,b1,c1,e1,x10,x11,t1⟩:=av (n:=n + 1) (a:=a) (many:=10) h (up (k:=0) hm rfl) (by decide) (by decide)
 obtain⟨x2,a2,b2,c2,e2,x20,x21,t2⟩:=av (n:=n + 1) (a:=a1) (many:=5) t1 (up (k:=1) hm rfl) (by decide) (by decide)
 by_cases hw:x1 < share
 ·obtain⟨g,a3,b3,c3,e3,g0,t3⟩:=oi (n:=n) (a:=a2) t2 (up (k:=2) hm rfl)
  refine⟨.ct,_,bs rfl (ab (mq (ρ3:=[some (Tp a2 b2 c2),some (It many),some (It share),some (Rs rs),some (It i),some (It x1),some (It x2),o7,o8,o9,o10]) (aa (ae (ρ3:=[some (Tp a1 b1 c1),some (It many),some (It share),some (Rs rs),some (It i),o5,o6,o7,o8,o9,o10]) rfl rfl e1 rfl) (aa (ae (ρ3:=[some (Tp a2 b2 c2),some (It many),some (It share),some (Rs rs),some (It i),o5,o6,o7,o8,o9,o10]) rfl rfl e2 rfl) ag)) rfl rfl rfl) (Ek (aQ (az (aw rfl rfl rfl rfl (show some (decide (x1 < share))=some true by rw[decide_eq_true hw]))) (ab (dJ (ρ3:=[some (Tp a3 b3 c3),some (It many),some (It share),some (Rs (rs++[.st x2 g])),some (It i),some (It x1),some (It x2),o7,o8,o9,o10]) (xs:=rs.map fun r=>.fz r.d) rfl (dH (z:=.fz (R.st x2 g).d) (aa rfl (aa rfl (aa (ae (ρ3:=[some (Tp a3 b3 c3),some (It many),some (It share),some (Rs rs),some (It i),some (It x1),some (It x2),o7,o8,o9,o10]) rfl rfl e3 rfl) ag))) rfl rfl rfl) rfl rfl (by rw[List.length_map];omega) (by rw[jT];rfl)) rfl)))),.inr rfl,.st x2 g,a3,b3,c3,some (It i),some (It x1),some (It x2),o7,o8,o9,o10,rfl,t3.up (upA (k:=6) rfl)⟩
 ·obtain⟨x3,a3,b3,c3,e3,x30,x31,t3⟩:=av (n:=n + 1) (a:=a2) (many:=9) t2 (up (k:=2) hm rfl) (by decide) (by decide)
  obtain⟨x4,a4,b4,c4,e4,x40,x41,t4⟩:=av (n:=n + 1) (a:=a3) (many:=5) t3 (up (k:=3) hm rfl) (by decide) (by decide)
  obtain⟨x5,a5,b5,c5,e5,x50,x51,t5⟩:=av (n:=n + 1) (a:=a4) (many:=many + 1) t4 (up (k:=4) hm rfl) (by omega) (by omega)
  obtain⟨x6,a6,b6,c6,e6,x60,x61,t6⟩:=av (n:=n + 1) (a:=a5) (many:=7) t5 (up (k:=5) hm rfl) (by decide) (by decide)
  obtain⟨x7,a7,b7,c7,e7,x70,x71,t7⟩:=av (n:=n + 1) (a:=a6) (many:=100) t6 (up (k:=6) hm rfl) (by decide) (by decide)
  obtain⟨x8,a8,b8,c8,e8,x80,x81,t8⟩:=av (n:=n + 1) (a:=a7) (many:=2) t7 (up (k:=7) hm rfl) (by decide) (by decide)
  obtain⟨r8,_,e9⟩:=tj (rs:=[oGo x5,wN]) x80 x81
  obtain⟨nr,enr⟩:∃nr:Int,nr=(if (if i + x6 - 2 < many then i + x6 - 2 else many) > 0 then (if i + x6 - 2 < many then i + x6 - 2 else many) else 0):=⟨_,rfl⟩
  obtain⟨r,_,e10⟩:=tj (rs:=[.st x2 x7,my x2 x4,iB x2 x4,dr x2,oGo nr,jS x2 nr,jS x2 x5,dr x2,r8]) x30 x31
  refine⟨.nx,_,bs rfl (ab (mq (ρ3:=[some (Tp a2 b2 c2),some (It many),some (It share),some (Rs rs),some (It i),some (It x1),some (It x2),o7,o8,o9,o10]) (aa (ae (ρ3:=[some (Tp a1 b1 c1),some (It many),some (It share),some (Rs rs),some (It i),o5,o6,o7,o8,o9,o10]) rfl rfl e1 rfl) (aa (ae (ρ3:=[some (Tp a2 b2 c2),some (It many),some (It share),some (Rs rs),some (It i),o5,o6,o7,o8,o9,o10]) rfl rfl e2 rfl) ag)) rfl rfl rfl) (ab (aG (az (aw rfl rfl rfl rfl (show some (decide (x1 < share))=some false by rw[decide_eq_false hw]))) rfl) ?_)),.inl rfl,r,a8,b8,c8,some (It i),some (It x3),some (It x2),some (It x4),some (It x5),some (It nr),some (Rs [.st x2 x7,my x2 x4,iB x2 x4,dr x2,oGo nr,jS x2 nr,jS x2 x5,dr x2,r8]),rfl,t8⟩
  refine ab (ao (ρ3:=[some (Tp a3 b3 c3),some (It many),some (It share),some (Rs rs),some (It i),some (It x3),some (It x2),o7,o8,o9,o10]) (ae (ρ3:=[some (Tp a3 b3 c3),some (It many),some (It share),some (Rs rs),some (It i),some (It x1),some (It x2),o7,o8,o9,o10]) rfl rfl e3 rfl) rfl rfl rfl) ?_
  refine ab (mq (ρ3:=[some (Tp a5 b5 c5),some (It many),some (It share),some (Rs rs),some (It i),some (It x3),some (It x2),some (It x4),some (It x5),o9,o10]) (aa (ae (ρ3:=[some (Tp a4 b4 c4),some (It many),some (It share),some (Rs rs),some (It i),some (It x3),some (It x2),o7,o8,o9,o10]) rfl rfl e4 rfl) (aa (ae (ρ3:=[some (Tp a5 b5 c5),some (It many),some (It share),some (Rs rs),some (It i),some (It x3),some (It x2),o7,o8,o9,o10]) rfl rfl e5 rfl) ag)) rfl rfl rfl) ?_
  refine ab (ao (ρ3:=[some (Tp a6 b6 c6),some (It many),some (It share),some (Rs rs),some (It i),some (It x3),some (It x2),some (It x4),some (It x5),some (It nr),o10]) (bE (aa rfl (aa (bE (aa rfl (aa (af (af rfl (ae (ρ3:=[some (Tp a6 b6 c6),some (It many),some (It share),some (Rs rs),some (It i),some (It x3),some (It x2),some (It x4),some (It x5),o9,o10]) rfl rfl e6 rfl) rfl rfl rfl) rfl rfl rfl rfl) ag)) rfl rfl) ag)) rfl (show _=some (PyData.int nr) by rw[enr];rfl)) rfl rfl rfl) ?_
  refine ab (ao (ρ3:=[some (Tp a7 b7 c7),some (It many),some (It share),some (Rs rs),some (It i),some (It x3),some (It x2),some (It x4),some (It x5),some (It nr),some (Rs [.st x2 x7,my x2 x4,iB x2 x4,dr x2,oGo nr])]) (iw (zs:=[.fz (R.st x2 x7).d,.fz (my x2 x4).d,.fz (iB x2 x4).d,.fz (dr x2).d,.fz (oGo nr).d]) (aa (dH (z:=.fz (R.st x2 x7).d) (aa rfl (aa rfl (aa (ae (ρ3:=[some (Tp a7 b7 c7),some (It many),some (It share),some (Rs rs),some (It i),some (It x3),some (It x2),some (It x4),some (It x5),some (It nr),o10]) rfl rfl e7 rfl) ag))) rfl rfl rfl) (aa rfl (aa rfl (aa rfl (aa rfl ag))))) rfl rfl) rfl rfl rfl) ?_
  refine ab (ao (ρ3:=[some (Tp a8 b8 c8),some (It many),some (It share),some (Rs rs),some (It i),some (It x3),some (It x2),some (It x4),some (It x5),some (It nr),some (Rs [.st x2 x7,my x2 x4,iB x2 x4,dr x2,oGo nr,jS x2 nr,jS x2 x5,dr x2,r8])]) (B9 rfl (iw (aa rfl (aa rfl (aa rfl (aa (aV rfl (ae (ρ3:=[some (Tp a8 b8 c8),some (It many),some (It share),some (Rs rs),some (It i),some (It x3),some (It x2),some (It x4),some (It x5),some (It nr),some (Rs [.st x2 x7,my x2 x4,iB x2 x4,dr x2,oGo nr])]) rfl rfl e8 rfl) rfl (cA e9)) ag)))) rfl rfl) rfl rfl (show 9≤1000000 by decide)) rfl rfl rfl) ?_
  exact ab (dJ (ρ3:=[some (Tp a8 b8 c8),some (It many),some (It share),some (Rs (rs++[r])),some (It i),some (It x3),some (It x2),some (It x4),some (It x5),some (It nr),some (Rs [.st x2 x7,my x2 x4,iB x2 x4,dr x2,oGo nr,jS x2 nr,jS x2 x5,dr x2,r8])]) (xs:=rs.map fun r=>.fz r.d) rfl (aV rfl rfl rfl (vU rfl e10)) rfl rfl (by rw[List.length_map];omega) (by rw[jT];rfl)) rfl
theorem ja{lo:Int}{n:Nat}:∀d∈ck lo n,∃i,d=.int i:=fun d hd=>by
 obtain⟨i,_,rfl⟩:=List.mem_map.mp hd
 exact⟨_,rfl⟩
theorem qb{n m:Nat}{a b c many sh:Int}(h:TpOk b c (m + 3))(hm:m≤90000)(m0:0≤many)(m1:many≤60):∃(rs:List R) (a' b' c':Int) (o4 o5 o6 o7 o8 o9 o10:Option OD),cv (fun d ρ'=>(bF (.nm 4) (.fz d) ρ').bind fun ρ1=>aD (pl.pg.ct (n + 2)) (match F_rows.body with | .cons _ (.cons _ (.cons _ (.cons (.fr _ _ b) _)))=>b | _=>.nil) ρ1) (ck 0 many.toNat) [some (Tp a b c),some (It many),some (It sh),some (Rs []),none,none,none,none,none,none,none]=some (.nx,[some (Tp a' b' c'),some (It many),some (It sh),some (Rs rs),o4,o5,o6,o7,o8,o9,o10])/\rs.length≤60/\TpOk b' c' (m + 500):=by
 have hM:many.toNat≤60:=by omega
 have hM2:many≤100:=Int.le_trans m1 (by decide)
 obtain⟨ρ',e2,rs,a2,b2,c2,o4,o5,o6,o7,o8,o9,o10,rfl,hl,_,t2⟩:=i5 (step:=fun d ρ'=>(bF (.nm 4) (.fz d) ρ').bind fun ρ1=>aD (pl.pg.ct (n + 2)) (match F_rows.body with | .cons _ (.cons _ (.cons _ (.cons (.fr _ _ b) _)))=>b | _=>.nil) ρ1)
  (fun ds ρ=>∃(rs:List R) (a b c:Int) (o4 o5 o6 o7 o8 o9 o10:Option OD),ρ=[some (Tp a b c),some (It many),some (It sh),some (Rs rs),o4,o5,o6,o7,o8,o9,o10]/\rs.length + ds.length=many.toNat/\(∀d∈ds,∃i,d=.int i)/\TpOk b c (m + 3 + 8 * rs.length)) (fun d ds ρ=>by
   rintro⟨rs,a,b,c,o4,o5,o6,o7,o8,o9,o10,rfl,hl,hd,t⟩
   obtain⟨i,rfl⟩:=hd _ List.mem_cons_self
   have hr:rs.length≤60:=Nat.le_trans (Nat.le.intro hl) hM
   obtain⟨fl,ρ',e,hf,r,a',b',c',p4,p5,p6,p7,p8,p9,p10,rfl,t'⟩:=qa (n:=n) (share:=sh) (i:=i) (a:=a) (o4:=o4) (o5:=o5) (o6:=o6) (o7:=o7) (o8:=o8) (o9:=o9) (o10:=o10) t (Nat.le_trans (Nat.add_le_add (Nat.add_le_add_right hm 3) (Nat.mul_le_mul_left 8 hr)) (by decide)) (Nat.le_trans hr (by decide):rs.length≤1000) m0 hM2
   have el:(rs++[r]).length=rs.length + 1:=List.length_append
   exact⟨fl,_,e,hf,rs++[r],a',b',c',p4,p5,p6,p7,p8,p9,p10,rfl,by rw[el,Nat.add_right_comm];exact hl,fun d hd'=>hd d (List.mem_cons_of_mem _ hd'),t'.up (by rw[el];exact Nat.le_refl _)⟩)
  (ds:=ck 0 many.toNat) (ρ:=[some (Tp a b c),some (It many),some (It sh),some (Rs []),none,none,none,none,none,none,none]) ⟨[],a,b,c,none,none,none,none,none,none,none,rfl,by rw[dE,List.length_nil,Nat.zero_add],ja,h⟩
 have hl:rs.length=many.toNat:=hl
 exact⟨rs,a2,b2,c2,o4,o5,o6,o7,o8,o9,o10,e2,hl ▸ hM,t2.up (Nat.le_trans (Nat.add_le_add_left (Nat.mul_le_mul_left 8 (hl ▸ hM)) (m + 3)) (Nat.add_le_add_left (show 3 + 8 * 60≤500 by decide) m))⟩
theorem zj{n m:Nat}{a b c:Int}(h:TpOk b c m)(hm:m≤90000):∃(rs:List R) (a' b' c':Int),pl.pg.call (n + 3) 19 [Tp a b c]=some (Rs rs,[Tp a' b' c'])/\rs.length≤60/\TpOk b' c' (m + 500):=by
 have key:∀(a b c many:Int),TpOk b c (m + 2)->0≤many->many≤60->∃(rs:List R) (a' b' c':Int) (ρ:DEnv),aD (pl.pg.ct (n + 2)) (match F_rows.body with | .cons _ ss=>ss | _=>.nil) [some (Tp a b c),some (It many),none,none,none,none,none,none,none,none,none]=some (.rt (Rs rs),some (Tp a' b' c')::ρ)/\rs.length≤60/\TpOk b' c' (m + 500):=by
  intro a b c many h m0 m1
  obtain⟨x1,a1,b1,c1,e1,x10,x11,t1⟩:=av (n:=n + 1) (a:=a) (many:=3) h (up (k:=2) hm rfl) (by decide) (by decide)
  obtain⟨sh,_,es⟩:=cx (ks:=[2,5,9]) x10 x11
  obtain⟨rs,a2,b2,c2,o4,o5,o6,o7,o8,o9,o10,e2,hl,t2⟩:=qb (n:=n) (a:=a1) (sh:=sh) t1 hm m0 m1
  exact⟨rs,a2,b2,c2,_,ab (ao (ρ3:=[some (Tp a1 b1 c1),some (It many),some (It sh),none,none,none,none,none,none,none,none]) (aV rfl (ae (ρ3:=[some (Tp a1 b1 c1),some (It many),none,none,none,none,none,none,none,none,none]) rfl rfl e1 rfl) rfl (cA es)) rfl rfl rfl) (ab (ao (ρ3:=[some (Tp a1 b1 c1),some (It many),some (It sh),some (Rs []),none,none,none,none,none,none,none]) rfl rfl rfl rfl) (ab (eB (fY rfl rfl (by omega)) e2) (aH (au rfl rfl)))),hl,t2⟩
 obtain⟨x1,a1,b1,c1,e1,x10,x11,t1⟩:=av (n:=n + 1) (a:=a) (many:=8) h (up (k:=0) hm rfl) (by decide) (by decide)
 by_cases h8:x1=0
 ·obtain⟨x2,a2,b2,c2,e2,x20,x21,t2⟩:=av (n:=n + 1) (a:=a1) (many:=41) t1 (up (k:=1) hm rfl) (by decide) (by decide)
  obtain⟨rs,a3,b3,c3,ρ,e3,hl,t3⟩:=key a2 b2 c2 (20 + x2) t2 (by omega) (by omega)
  exact⟨rs,a3,b3,c3,ai (fn:=F_rows) rfl rfl (ab (ao (ρ3:=[some (Tp a2 b2 c2),some (It (20 + x2)),none,none,none,none,none,none,none,none,none]) (iZ (az (aw (ae (ρ3:=[some (Tp a1 b1 c1),none,none,none,none,none,none,none,none,none,none]) rfl rfl e1 rfl) rfl rfl rfl (show some (decide (x1=0))=some true by rw[decide_eq_true h8]))) (af rfl (ae (ρ3:=[some (Tp a2 b2 c2),none,none,none,none,none,none,none,none,none,none]) rfl rfl e2 rfl) rfl rfl rfl)) rfl rfl rfl) e3) rfl,hl,t3⟩
 ·obtain⟨x2,a2,b2,c2,e2,x20,x21,t2⟩:=av (n:=n + 1) (a:=a1) (many:=11) t1 (up (k:=1) hm rfl) (by decide) (by decide)
  obtain⟨rs,a3,b3,c3,ρ,e3,hl,t3⟩:=key a2 b2 c2 x2 t2 (by omega) (by omega)
  exact⟨rs,a3,b3,c3,ai (fn:=F_rows) rfl rfl (ab (ao (ρ3:=[some (Tp a2 b2 c2),some (It x2),none,none,none,none,none,none,none,none,none]) (nV (az (aw (ae (ρ3:=[some (Tp a1 b1 c1),none,none,none,none,none,none,none,none,none,none]) rfl rfl e1 rfl) rfl rfl rfl (show some (decide (x1=0))=some false by rw[decide_eq_false h8]))) (ae (ρ3:=[some (Tp a2 b2 c2),none,none,none,none,none,none,none,none,none,none]) rfl rfl e2 rfl)) rfl rfl rfl) e3) rfl,hl,t3⟩
def R.gr:R->Bool | .st _ k=>decide (99 < k) | .ot _ _ _=>false
def R.num:R->Int | .st _ k=>k | .ot _ _ _=>0
abbrev Rd(r:R):OD:=.fz r.d
abbrev Rl(rs:List R):OD:=.fz (.list (rs.map R.d))
theorem bO{α:Type}{x:α}{xs:List α}:atI (x::xs) 0=some x:=nZ (k:=0) rfl
theorem zk{n:Nat}(r:R):pl.pg.call (n + 1) 0 [Rd r]=some (.fz (.bool r.gr),[Rd r]):=by
 cases r with
 | st r k=>rfl
 | ot w xs h=>exact ai (fn:=iy) rfl rfl (aH (au (mj (aw (aV rfl rfl rfl (cX bO)) rfl rfl rfl (show some (decide (w="set"))=some false by rw[decide_eq_false h.1]))) rfl)) rfl
theorem om{n:Nat}(r:R):pl.pg.call (n + 1) 22 [Rd r]=some (.fz (.bool r.gr),[Rd r]):=by
 cases r with
 | st r k=>rfl
 | ot w xs h=>exact ai (fn:=fe) rfl rfl (aH (au (mj (aw (aV rfl rfl rfl (cX bO)) rfl rfl rfl (show some (decide (w="set"))=some false by rw[decide_eq_false h.1]))) rfl)) rfl
theorem jU{n:Nat}{o:Option OD}:∀{rs:List R} {out:List PyData},∃o',bc (bj (pl.pg.ct (n + 1)) (.nm 0) (.some (.call 22 (.cons (.nm 0) .nil))) (.nm 0)) (rs.map R.d) out [o]=some (out++((rs.filter R.gr).map R.d),[o'])
 | [],out=>⟨o,by rw[List.filter_nil,List.map_nil,List.append_nil];rfl⟩
 | r::rs,out=>by
  cases hg:r.gr with
  | false =>
   obtain⟨o',e⟩:=jU (n:=n) (o:=some (Rd r)) (rs:=rs) (out:=out++[])
   rw[List.append_nil]at e
   refine⟨o',?_⟩
   rw[List.filter_cons_of_neg (by rw[hg];decide)]
   refine bs (x:=([],[some (Rd r)])) (vT rfl (bG (ae (ρ3:=[some (Rd r)]) rfl rfl (by rw[<- hg];exact om r) rfl))) ?_
   rw[List.append_nil];exact e
  | true =>
   obtain⟨o',e⟩:=jU (n:=n) (o:=some (Rd r)) (rs:=rs) (out:=out++[r.d])
   refine⟨o',?_⟩
   rw[List.filter_cons_of_pos hg,List.map_cons]
   refine bs (x:=([r.d],[some (Rd r)])) (vS rfl (bG (ae (ρ3:=[some (Rd r)]) rfl rfl (by rw[<- hg];exact om r) rfl)) rfl rfl) ?_
   rw[List.append_assoc]at e;exact e
def R.wd:R->Str | .st _ _=>"set" | .ot w _ _=>w
def R.tl:R->List PyData | .st r k=>[.int r,.int k] | .ot _ xs _=>xs.map PyData.int
theorem ft:∀ds:List PyData,OD.dats (ds.map OD.fz)=some ds
 | []=>rfl
 | d::ds=>by rw[List.map_cons,OD.dats,ft ds];rfl
theorem gb(ds:List PyData):(OD.lst (ds.map OD.fz)).dat=some (.list ds):=by rw[OD.dat,ft]
theorem jV{ρ ρ':DEnv}{j:Nat}{x:OD}{d:PyData}(h:ρ[j]?.join=some x)(hd:x.dat=some d)(hr:ρ.set j (some (.fz d))=ρ'):frz1 ρ (.rf j)=some (d,ρ'):=by
 simp only[frz1,h,Option.bind_some,hd,Option.map_some,hr]
theorem unca_nil{ρ os:DEnv}:gB ρ [] os=ρ:=by cases os with | nil=>rfl | cons o os=>cases o<;>rfl
theorem R.d_is(r:R):r.d=.tuple (.str r.wd::r.tl):=by cases r<;>rfl
theorem EY{w x y:Str}:∃k,rM .inn (.str w) (.tuple [.str x,.str y])=some k:=⟨_,rfl⟩
theorem tm{rs:List R}:∀d∈cD (rs.map R.d),∃(i:Int) (r:R),d=.tuple [.int i,r.d]:=fun d hd=>by
 obtain⟨k,hk⟩:=List.getElem?_of_mem hd
 obtain⟨e,he,rfl⟩:=iS hk
 rw[List.getElem?_map]at he
 cases hr:rs[k]? with
 | none=>rw[hr]at he;cases he
 | some r=>rw[hr]at he;cases he;exact⟨k,r,rfl⟩
theorem mz{C:Ct}{rs:List R}:∃(ls:List Int) (ρ:DEnv),bc (bj C (.tp [0,1]) (.some (.cmp .inn (.ix (.nm 1) (.int 0)) (.tup (.cons (.str "go") (.cons (.str "nil") .nil))))) (.nm 0)) (cD (rs.map R.d)) [] [none,none]=some (ls.map PyData.int,ρ)/\ls.length≤rs.length:=by
 obtain⟨out,ρ,e,_,⟨ls,rfl,hl⟩,_⟩:=fZ (step:=bj C (.tp [0,1]) (.some (.cmp .inn (.ix (.nm 1) (.int 0)) (.tup (.cons (.str "go") (.cons (.str "nil") .nil))))) (.nm 0))
  (fun ds out ρ=>(∀d∈ds,∃(i:Int) (r:R),d=.tuple [.int i,r.d])/\(∃ls:List Int,out=ls.map PyData.int/\ls.length + ds.length≤rs.length)/\∃o0 o1,ρ=[o0,o1]) (fun d ds out ρ=>by
   rintro⟨hd,⟨ls,rfl,hl⟩,o0,o1,rfl⟩
   obtain⟨i,r,rfl⟩:=hd _ List.mem_cons_self
   rw[List.length_cons]at hl
   obtain⟨k,hk⟩:=EY (w:=r.wd) (x:="go") (y:="nil")
   have ht:bf C (.cmp .inn (.ix (.nm 1) (.int 0)) (.tup (.cons (.str "go") (.cons (.str "nil") .nil)))) [some (It i),some (Rd r)]=some (k,[some (It i),some (Rd r)]):=az (aw (aV rfl rfl rfl (by rw[R.d_is];exact cX bO)) rfl rfl rfl hk)
   cases k with
   | false=>exact⟨[],_,vT rfl ht,fun d h=>hd d (List.mem_cons_of_mem _ h),⟨ls,by rw[List.append_nil],by omega⟩,_,_,rfl⟩
   | true=>exact⟨[.int i],_,vS rfl ht rfl rfl,fun d h=>hd d (List.mem_cons_of_mem _ h),⟨ls++[i],by rw[List.map_append];rfl,by rw[List.length_append,List.length_singleton];omega⟩,_,_,rfl⟩)
  (ds:=cD (rs.map R.d)) (out:=[]) (ρ:=[none,none]) ⟨tm,⟨[],rfl,by rw[dS,List.length_map,List.length_nil,Nat.zero_add];exact Nat.le_refl _⟩,_,_,rfl⟩
 exact⟨ls,ρ,e,by rw[List.length_nil]at hl;omega⟩
theorem mB{n m:Nat}{a b c sh:Int}(s0:0≤sh)(s1:sh < 3)(h:TpOk b c m){js:List Int}(hm:m + js.length≤100000):∃(ls:List Int) (a' b' c':Int) (o:Option OD),bc (bj (pl.pg.ct (n + 1)) (.nm 0) (.some (.ix (.lst (.cons (.bl false) (.cons (.cmp .eq (.call 17 (.cons (.nm 2) (.cons (.int 2) .nil))) (.int 0)) (.cons (.bl true) .nil)))) (.nm 1))) (.nm 0)) (js.map PyData.int) [] [none,some (It sh),some (Tp a b c)]=some (ls.map PyData.int,[o,some (It sh),some (Tp a' b' c')])/\TpOk b' c' (m + js.length):=by
 obtain⟨out,ρ,e,⟨ks,hk⟩,⟨ls,rfl⟩,o,a',b',c',rfl,t⟩:=fZ (step:=bj (pl.pg.ct (n + 1)) (.nm 0) (.some (.ix (.lst (.cons (.bl false) (.cons (.cmp .eq (.call 17 (.cons (.nm 2) (.cons (.int 2) .nil))) (.int 0)) (.cons (.bl true) .nil)))) (.nm 1))) (.nm 0))
  (fun ds out ρ=>(∃ks:List Int,ds=ks.map PyData.int/\ks.length≤js.length)/\(∃ls:List Int,out=ls.map PyData.int)/\∃o a b c,ρ=[o,some (It sh),some (Tp a b c)]/\TpOk b c (m + (js.length - ds.length))) (fun d ds out ρ=>by
   rintro⟨⟨ks,hk,hl⟩,⟨ls,rfl⟩,o,a,b,c,rfl,t⟩
   cases ks with
   | nil=>cases hk
   | cons k ks =>
    cases hk
    rw[List.length_cons,List.length_map]at t
    rw[List.length_cons]at hl
    obtain⟨x1,a1,b1,c1,e1,x10,x11,t1⟩:=av (n:=n) (a:=a) (many:=2) t (by omega) (by decide) (by decide)
    obtain⟨y,hy,ey⟩:=jP (xs:=[OD.fz (.bool false),.fz (.bool (decide (x1=0))),.fz (.bool true)]) s0 s1
    obtain⟨q,rfl⟩:∃q:Bool,y=.fz (.bool q):=by
     simp only[List.mem_cons,List.not_mem_nil,or_false]at hy
     rcases hy with rfl | rfl | rfl<;>exact⟨_,rfl⟩
    have ht:=Ej (C:=pl.pg.ct (n + 1)) (ρ:=[some (It k),some (It sh),some (Tp a b c)]) (aV (iw (aa rfl (aa (aw (ae (f:=17) (es:=.cons (.nm 2) (.cons (.int 2) .nil)) (ρ3:=[some (It k),some (It sh),some (Tp a1 b1 c1)]) rfl rfl e1 rfl) (b:=.int 0) (o:=.eq) rfl rfl rfl rfl) (aa (e:=.bl true) rfl ag)) (e:=.bl false)) rfl rfl) (b:=.nm 1) rfl rfl (cA ey))
    have t2:TpOk b1 c1 (m + (js.length - (ks.map PyData.int).length)):=t1.up (by rw[List.length_map];omega)
    cases q with
    | false=>exact⟨[],_,vT rfl ht,⟨ks,rfl,by omega⟩,⟨ls,by rw[List.append_nil]⟩,_,_,_,_,rfl,t2⟩
    | true=>exact⟨[.int k],_,vS rfl ht rfl rfl,⟨ks,rfl,by omega⟩,⟨ls++[k],by rw[List.map_append];rfl⟩,_,_,_,_,rfl,t2⟩)
  (ds:=js.map PyData.int) (out:=[]) (ρ:=[none,some (It sh),some (Tp a b c)]) ⟨⟨js,rfl,Nat.le_refl _⟩,⟨[],rfl⟩,_,a,b,c,rfl,h.up (by omega)⟩
 exact⟨ls,a',b',c',o,e,t.up (by omega)⟩
theorem vV{n m:Nat}{a b c:Int}{rs:List R}(hr:rs.length≤200)(h:TpOk b c m)(hm:m≤90000):∃(ls:List Int) (a' b' c':Int),pl.pg.call (n + 2) 20 [Tp a b c,Rl rs]=some (.lst (ls.map It),[Tp a' b' c',Rl rs])/\TpOk b' c' (m + 300):=by
 obtain⟨x1,a1,b1,c1,e1,x10,x11,t1⟩:=av (n:=n) (a:=a) (many:=3) h (up (k:=0) hm rfl) (by decide) (by decide)
 obtain⟨js,ρ1,e2,hj⟩:=mz (C:=pl.pg.ct (n + 1)) (rs:=rs)
 obtain⟨ls,a2,b2,c2,o,e3,t2⟩:=mB (n:=n) (a:=a1) x10 x11 t1 (js:=js) (by omega)
 have el:(ls.map PyData.int).map OD.fz=ls.map It:=by rw[List.map_map];rfl
 refine⟨ls,a2,b2,c2,ai (fn:=n6) rfl rfl (ab (ao (ρ3:=[some (Tp a1 b1 c1),some (Rl rs),some (It x1),none]) (ae (ρ3:=[some (Tp a1 b1 c1),some (Rl rs),none,none]) rfl rfl e1 rfl) rfl rfl rfl) (ab (ao (ρ3:=[some (Tp a1 b1 c1),some (Rl rs),some (It x1),some (.lst ((js.map PyData.int).map OD.fz))]) (cU (ρ2:=[some (Tp a1 b1 c1),some (Rl rs),some (It x1),none]) (sU rfl rfl) (by rw[dS,List.length_map];omega) rfl e2 unca_nil) rfl rfl rfl) (aH (au (z:=.lst (ls.map It)) (cU (ρ2:=[some (Tp a2 b2 c2),some (Rl rs),some (It x1),some (.fz (.list (js.map PyData.int)))]) (dM (ds:=js.map PyData.int) rfl (jV rfl (gb _) rfl) rfl) (by rw[List.length_map];omega) rfl e3 rfl) (by rw[el];rfl))))) rfl,t2.up (by omega)⟩
abbrev Il(gs:List Int):OD:=.lst (gs.map It)
theorem eE(gs:List Int):(gs.map PyData.int).map OD.fz=gs.map It:=by rw[List.map_map];rfl
theorem ba(gs:List Int):(Il gs).dat=some (.list (gs.map PyData.int)):=by rw[Il,<- eE,gb]
theorem oo(rs:List R):(rs.map R.d).map OD.fz=rs.map fun r=>OD.fz r.d:=by rw[List.map_map];rfl
theorem tq{ρ:DEnv}{j:Nat}{gs:List Int}{i g:Int}(h:ρ[j]?.join=some (Il gs))(h1:atI (gs.map It) i=some (It g)):bu ρ (.rf j) i=some (It g,ρ):=by
 obtain⟨k,e1,e2⟩:=bnd h1
 have e3:itemS (Il gs) i=some (.int g,Il gs):=by
  simp only[Il,itemS,e1,e2,OD.dat]
  rw[bt e2]
 simp only[bu,h,e3]
 rw[set_self (join_some h)]
theorem kU{n m:Nat}{a b c:Int}(h:TpOk b c m){N:Nat}(hm:m + 4 * N≤800000):∃(gs:List Int) (a' b' c':Int) (o:Option OD),bc (bj (pl.pg.ct (n + 2)) (.nm 0) .none (.call 18 (.cons (.nm 1) .nil))) (ck 0 N) [] [none,some (Tp a b c)]=some (gs.map PyData.int,[o,some (Tp a' b' c')])/\gs.length=N/\(∀g∈gs,100≤g)/\TpOk b' c' (m + 4 * N):=by
 obtain⟨out,ρ,e,gs,a',b',c',o,rfl,hl,hg,rfl,t⟩:=fZ (step:=bj (pl.pg.ct (n + 2)) (.nm 0) .none (.call 18 (.cons (.nm 1) .nil)))
  (fun ds out ρ=>∃(gs:List Int) (a b c:Int) (o:Option OD),out=gs.map PyData.int/\gs.length + ds.length=N/\(∀g∈gs,100≤g)/\ρ=[o,some (Tp a b c)]/\TpOk b c (m + 4 * gs.length)) (fun d ds out ρ=>by
   rintro⟨gs,a,b,c,o,rfl,hl,hg,rfl,t⟩
   rw[List.length_cons]at hl
   obtain⟨g,a1,b1,c1,e1,g0,t1⟩:=oi (n:=n) (a:=a) t (Nat.le_trans (Nat.add_le_add_left (Nat.mul_le_mul_left 4 (Nat.le.intro hl)) m) (Nat.le_trans hm (by decide)))
   have el:(gs++[g]).length=gs.length + 1:=List.length_append
   refine⟨[.int g],_,pZ (ρ4:=[some (.fz d),some (Tp a1 b1 c1)]) rfl (ae (ρ3:=[some (.fz d),some (Tp a1 b1 c1)]) rfl rfl e1 rfl) rfl,gs++[g],a1,b1,c1,_,by rw[List.map_append];rfl,by rw[el,Nat.add_right_comm];exact hl,fun x hx=>?_,rfl,t1.up (by rw[el];exact Nat.le_refl _)⟩
   rcases List.mem_append.mp hx with hx | hx
   ·exact hg x hx
   ·rw[List.mem_singleton.mp hx];exact g0)
  (ds:=ck 0 N) (out:=[]) (ρ:=[none,some (Tp a b c)]) ⟨[],a,b,c,none,rfl,by rw[dE,List.length_nil,Nat.zero_add],(fun g hg=>absurd hg List.not_mem_nil),rfl,h⟩
 rw[List.length_nil]at hl
 exact⟨gs,a',b',c',o,e,by omega,hg,t.up (by omega)⟩
abbrev spE(a b c:Int)(gs:List Int)(sh:Int)(rs:List R)(o:Option OD):DEnv:=[some (Tp a b c),some (Il gs),some (It sh),some (Rs rs),o]
theorem kW{a b c sh:Int}{gs:List Int}{rs:List R}{o:Option OD}{r:R}:(spE a b c gs sh rs o).set 3 (some (.lst ((rs.map fun r=>OD.fz r.d)++[.fz r.d])))=spE a b c gs sh (rs++[r]) o:=by rw[<- jT];rfl
theorem mC{n:Nat}{a b c sh:Int}{gs:List Int}{rs:List R}{o:Option OD}(hr:rs.length≤1000):bf (pl.pg.ct (n + 2)) (.cmp .lt (.blt .len (.cons (.compB 3 1 [] (.nm 0) (.some (.call 22 (.cons (.nm 0) .nil))) (.nm 0)) .nil)) (.int 60)) (spE a b c gs sh rs o)=some (decide (((rs.filter R.gr).length:Int) < 60),spE a b c gs sh rs o):=by
 obtain⟨o',e⟩:=jU (n:=n + 1) (o:=none) (rs:=rs) (out:=[])
 refine az (aw (bE (ds:=[.list ((rs.filter R.gr).map R.d)]) (d:=.int (rs.filter R.gr).length) (aa (vR (ds:=rs.map R.d) (ρ2:=spE a b c gs sh rs o) (by rw[oo];rfl) (by rw[List.length_map];omega) rfl e (by rw[unca_nil,oo];rfl)) ag) ?_ ?_) rfl rfl rfl rfl)
 ·exact nj (gb _)
 ·show some (PyData.int (((rs.filter R.gr).map R.d).length:Nat))=_
  rw[List.length_map]
theorem kX{n m:Nat}{a b c sh i:Int}{gs:List Int}{rs:List R}{o:Option OD}(h:TpOk b c m)(hm:m≤100000)(hr:rs.length≤1000)(s0:0 < sh)(s1:sh < 100)(hg:∀g∈gs,100≤g)(g0:0 < gs.length)(g1:gs.length < 100)(hc:(rs.filter R.gr).length≤60) :
  ∃ρ',((bF (.nm 4) (.fz (.int i)) (spE a b c gs sh rs o)).bind fun ρ1=>aD (pl.pg.ct (n + 2)) (match F_sparse.body with | .cons _ (.cons _ (.cons _ (.cons (.fr _ _ b) _)))=>b | _=>.nil) ρ1)=some (.nx,ρ')/\∃(r:R) (a' b' c':Int) (p:Option OD),ρ'=spE a' b' c' gs sh (rs++[r]) p/\((rs++[r]).filter R.gr).length≤60/\TpOk b' c' (m + 4):=by
 obtain⟨x1,a1,b1,c1,e1,x10,x11,t1⟩:=av (n:=n + 1) (a:=a) (many:=sh) h (up (k:=0) hm rfl) s0 (by omega)
 have alt:bf (pl.pg.ct (n + 2)) (.and (.cmp .eq (.call 17 (.cons (.nm 0) (.cons (.nm 2) .nil))) (.int 0)) (.cmp .lt (.blt .len (.cons (.compB 3 1 [] (.nm 0) (.some (.call 22 (.cons (.nm 0) .nil))) (.nm 0)) .nil)) (.int 60))) (spE a b c gs sh rs (some (It i)))=some (decide (x1=0/\(rs.filter R.gr).length < 60),spE a1 b1 c1 gs sh rs (some (It i))):=by
  by_cases hx:x1=0
  ·refine t_andT (az (aw (ae (ρ3:=spE a1 b1 c1 gs sh rs (some (It i))) rfl rfl e1 rfl) rfl rfl rfl (show some (decide (x1=0))=some true by rw[decide_eq_true hx]))) ?_
   rw[mC hr]
   congr 2
   simp only[hx,true_and,decide_eq_decide]
   omega
  ·rw[decide_eq_false (fun z=>hx z.1)]
   exact eK (az (aw (ae (ρ3:=spE a1 b1 c1 gs sh rs (some (It i))) rfl rfl e1 rfl) rfl rfl rfl (show some (decide (x1=0))=some false by rw[decide_eq_false hx])))
 obtain⟨x2,a2,b2,c2,e2,x20,x21,t2⟩:=av (n:=n + 1) (a:=a1) (many:=5) t1 (up (k:=1) hm rfl) (by decide) (by decide)
 by_cases hq:x1=0/\(rs.filter R.gr).length < 60
 ·rw[decide_eq_true hq]at alt
  obtain⟨x3,a3,b3,c3,e3,x30,x31,t3⟩:=av (n:=n + 1) (a:=a2) (many:=gs.length) t2 (up (k:=2) hm rfl) (by omega) (by omega)
  obtain⟨g,hgm,eg⟩:=cx (ks:=gs) x30 x31
  refine⟨_,bs rfl (ab (aQ alt (ab (dJ (ρ3:=spE a3 b3 c3 gs sh (rs++[.st x2 g]) (some (It i))) (xs:=rs.map fun r=>.fz r.d) rfl (dH (z:=.fz (R.st x2 g).d) (aa rfl (aa (ae (ρ3:=spE a2 b2 c2 gs sh rs (some (It i))) rfl rfl e2 rfl) (aa (aV rfl (ae (ρ3:=spE a3 b3 c3 gs sh rs (some (It i))) (aa rfl (aa (bE (d:=.int gs.length) rfl (nj (ba gs)) (by show some (PyData.int ((gs.map PyData.int).length:Nat))=_;rw[List.length_map])) ag)) rfl e3 rfl) rfl (tq rfl eg)) ag))) rfl rfl rfl) rfl rfl (by rw[List.length_map];omega) kW) rfl)) rfl),.st x2 g,a3,b3,c3,_,rfl,?_,t3.up (upA (k:=3) rfl)⟩
  rw[List.filter_append,List.length_append]
  have:([R.st x2 g].filter R.gr).length≤1:=List.length_filter_le _ _
  omega
 ·rw[decide_eq_false hq]at alt
  obtain⟨r,hrm,er⟩:=tj (rs:=[dr 1,jS 1 i,wN,.st 0 99,oGo i]) x20 x21
  refine⟨_,bs rfl (ab (aG alt (ab (dJ (ρ3:=spE a2 b2 c2 gs sh (rs++[r]) (some (It i))) (xs:=rs.map fun r=>.fz r.d) rfl (aV rfl (ae (ρ3:=spE a2 b2 c2 gs sh rs (some (It i))) rfl rfl e2 rfl) rfl (cA er)) rfl rfl (by rw[List.length_map];omega) kW) rfl)) rfl),r,a2,b2,c2,_,rfl,?_,t2.up (upA (k:=2) rfl)⟩
  have hgr:r.gr=false:=by
   simp only[List.mem_cons,List.not_mem_nil,or_false]at hrm
   rcases hrm with rfl | rfl | rfl | rfl | rfl<;>rfl
  rw[List.filter_append,List.filter_cons_of_neg (by rw[hgr];decide),List.filter_nil,List.append_nil]
  exact hc
theorem kY{n m:Nat}{a b c sh:Int}{gs:List Int}{N:Nat}(h:TpOk b c (m + 20))(hm:m≤95000)(hN:N≤120)(s0:0 < sh)(s1:sh < 100)(hg:∀g∈gs,100≤g)(g0:0 < gs.length)(g1:gs.length < 100):∃(rs:List R) (a' b' c':Int) (o:Option OD),cv (fun d ρ'=>(bF (.nm 4) (.fz d) ρ').bind fun ρ1=>aD (pl.pg.ct (n + 2)) (match F_sparse.body with | .cons _ (.cons _ (.cons _ (.cons (.fr _ _ b) _)))=>b | _=>.nil) ρ1) (ck 0 N) (spE a b c gs sh [] none)=some (.nx,spE a' b' c' gs sh rs o)/\rs.length=N/\(rs.filter R.gr).length≤60/\TpOk b' c' (m + 600):=by
 obtain⟨ρ',e6,rs,a6,b6,c6,o6,rfl,hl,hc,_,t6⟩:=i5 (step:=fun d ρ'=>(bF (.nm 4) (.fz d) ρ').bind fun ρ1=>aD (pl.pg.ct (n + 2)) (match F_sparse.body with | .cons _ (.cons _ (.cons _ (.cons (.fr _ _ b) _)))=>b | _=>.nil) ρ1)
  (fun ds ρ=>∃(rs:List R) (a b c:Int) (o:Option OD),ρ=spE a b c gs sh rs o/\rs.length + ds.length=N/\(rs.filter R.gr).length≤60/\(∀d∈ds,∃i,d=.int i)/\TpOk b c (m + 20 + 4 * rs.length)) (fun d ds ρ=>by
   rintro⟨rs,a,b,c,o,rfl,hl,hc,hd,t⟩
   obtain⟨i,rfl⟩:=hd _ List.mem_cons_self
   have hr:rs.length≤120:=Nat.le_trans (Nat.le.intro hl) hN
   obtain⟨ρ',e,r,a',b',c',p,rfl,hc',t'⟩:=kX (n:=n) (i:=i) (a:=a) (o:=o) t (Nat.le_trans (Nat.add_le_add (Nat.add_le_add_right hm 20) (Nat.mul_le_mul_left 4 hr)) (by decide)) (Nat.le_trans hr (by decide):rs.length≤1000) s0 s1 hg g0 g1 hc
   have el:(rs++[r]).length=rs.length + 1:=List.length_append
   exact⟨.nx,_,e,.inl rfl,rs++[r],a',b',c',p,rfl,by rw[el,Nat.add_right_comm];exact hl,hc',fun d hd'=>hd d (List.mem_cons_of_mem _ hd'),t'.up (by rw[el];exact Nat.le_refl _)⟩)
  (ds:=ck 0 N) (ρ:=spE a b c gs sh [] none) ⟨[],a,b,c,none,rfl,by rw[dE,List.length_nil,Nat.zero_add],Nat.zero_le _,ja,h⟩
 have hl:rs.length=N:=hl
 exact⟨rs,a6,b6,c6,o6,e6,hl,hc,t6.up (Nat.le_trans (Nat.add_le_add_left (Nat.mul_le_mul_left 4 (hl ▸ hN)) (m + 20)) (Nat.add_le_add_left (show 20 + 4 * 120≤600 by decide) m))⟩
theorem tu{n m:Nat}{a b c:Int}(h:TpOk b c m)(hm:m≤90000):∃(rs:List R) (a' b' c':Int),pl.pg.call (n + 3) 26 [Tp a b c]=some (Rs rs,[Tp a' b' c'])/\rs.length≤120/\(rs.filter R.gr).length≤60/\TpOk b' c' (m + 600):=by
 obtain⟨x1,a1,b1,c1,e1,x10,x11,t1⟩:=av (n:=n + 1) (a:=a) (many:=3) h (up (k:=0) hm rfl) (by decide) (by decide)
 obtain⟨gs,a2,b2,c2,o,e2,gl,hg,t2⟩:=kU (n:=n) (a:=a1) t1 (N:=(1 + x1).toNat) (by omega)
 have hN3:(1 + x1).toNat≤3:=by omega
 have t2:=t2.up (show m + 1 + 4 * (1 + x1).toNat≤m + 13 from Nat.add_le_add_left (Nat.mul_le_mul_left 4 hN3) (m + 1))
 obtain⟨x3,a3,b3,c3,e3,x30,x31,t3⟩:=av (n:=n + 1) (a:=a2) (many:=3) t2 (up (k:=13) hm rfl) (by decide) (by decide)
 obtain⟨sh,hs,es⟩:=cx (ks:=[3,8,20]) x30 x31
 have hs':0 < sh/\sh < 100:=(show ∀x∈[3,8,20],(0:Int) < x/\x < 100 by decide) sh hs
 obtain⟨x4,a4,b4,c4,e4,x40,x41,t4⟩:=av (n:=n + 1) (a:=a3) (many:=2) t3 (up (k:=14) hm rfl) (by decide) (by decide)
 obtain⟨w,hw,ew⟩:=cx (ks:=[30,101]) x40 x41
 have hw':0 < w/\w≤101:=(show ∀x∈[30,101],(0:Int) < x/\x≤101 by decide) w hw
 obtain⟨x5,a5,b5,c5,e5,x50,x51,t5⟩:=av (n:=n + 1) (a:=a4) (many:=w) t4 (up (k:=15) hm rfl) hw'.1 (by omega)
 have hX:(20 + x5).toNat≤120:=by clear e1 e2 e3 e4 e5 es ew hg hs hw;omega
 obtain⟨rs,a6,b6,c6,o6,e6,hl,hc,t6⟩:=kY (n:=n) (a:=a5) (t5.up (upA (k:=16) (b:=20) rfl)) (Nat.le_trans hm (by decide)) hX hs'.1 hs'.2 hg (by rw[gl];omega) (by rw[gl];omega)
 refine⟨rs,a6,b6,c6,ai (fn:=F_sparse) rfl rfl (ab (ao (ρ3:=[some (Tp a2 b2 c2),some (Il gs),none,none,none]) (cU (ρ2:=[some (Tp a2 b2 c2),none,none,none,none]) (fY (ρ1:=[some (Tp a1 b1 c1),none,none,none,none]) (n:=1 + x1) (af rfl (ae (ρ3:=[some (Tp a1 b1 c1),none,none,none,none]) rfl rfl e1 rfl) rfl rfl rfl) rfl (by omega)) (by rw[dE];omega) rfl e2 rfl) (by rw[eE];rfl) rfl rfl) (ab (ao (ρ3:=[some (Tp a3 b3 c3),some (Il gs),some (It sh),none,none]) (aV rfl (ae (ρ3:=[some (Tp a3 b3 c3),some (Il gs),none,none,none]) rfl rfl e3 rfl) rfl (cA es)) rfl rfl rfl) (ab (ao (ρ3:=spE a3 b3 c3 gs sh [] none) rfl rfl rfl rfl) (ab (eB (fY (ρ1:=spE a5 b5 c5 gs sh [] none) (n:=20 + x5) (af rfl (ae (ρ3:=spE a5 b5 c5 gs sh [] none) (aa rfl (aa (aV rfl (ae (ρ3:=spE a4 b4 c4 gs sh [] none) rfl rfl e4 rfl) rfl (cA ew)) ag)) rfl e5 rfl) rfl rfl rfl) rfl (by omega)) e6) (aH (au rfl rfl)))))) rfl,hl ▸ hX,hc,t6⟩
structure Cf where
 rows:List R
 longs:List Int
 r0:Int
 r1:Int
structure G where
 pl:Int
 gaps:List Int
 words:List (List Int)
 bg:Int
 us:List (Int × Int)
 wt:List (Int × Int)
abbrev Lo(f:Cf):OD:=.fz (.list (f.longs.map PyData.int))
abbrev Re(f:Cf):OD:=.fz (.tuple [.int f.r0,.int f.r1])
abbrev Wq(q:Int × Int):PyData:=.tuple [.int q.1,.int q.2]
abbrev Wl(wt:List (Int × Int)):OD:=.lst ((wt.map Wq).map OD.fz)
abbrev gN:List Str:=["rows","longs","reach","place","gaps","words","begin","uses","waiting"]
abbrev gD(us:List (Int × Int)):OD:=.dic (us.map fun u=>.inl u.1) (us.map fun u=>It u.2)
abbrev gO(f:Cf)(pl:Int)(gaps:OD)(words:OD)(bg:Int)(us:OD)(wt:OD):OD:=.obj "Going" gN [Rl f.rows,Lo f,Re f,It pl,gaps,words,It bg,us,wt]
abbrev GO(f:Cf)(g:G):OD:=gO f g.pl (Il g.gaps) (.lst (g.words.map Il)) g.bg (gD g.us) (Wl g.wt)
section
variable{f:Cf}{p b:Int}{x4 x5 x7 x8:OD}{ρ:DEnv}
theorem dO:ah (some (gO f p x4 x5 b x7 x8)::ρ) 0 [.fld "Going" "rows"]=some ((gO f p x4 x5 b x7 x8),[0],Rl f.rows):=rfl
theorem oq:ah (some (gO f p x4 x5 b x7 x8)::ρ) 0 [.fld "Going" "longs"]=some ((gO f p x4 x5 b x7 x8),[1],Lo f):=rfl
theorem jW:ah (some (gO f p x4 x5 b x7 x8)::ρ) 0 [.fld "Going" "reach"]=some ((gO f p x4 x5 b x7 x8),[2],Re f):=rfl
theorem cZ:ah (some (gO f p x4 x5 b x7 x8)::ρ) 0 [.fld "Going" "place"]=some ((gO f p x4 x5 b x7 x8),[3],It p):=rfl
theorem jX:ah (some (gO f p x4 x5 b x7 x8)::ρ) 0 [.fld "Going" "gaps"]=some ((gO f p x4 x5 b x7 x8),[4],x4):=rfl
theorem c9:ah (some (gO f p x4 x5 b x7 x8)::ρ) 0 [.fld "Going" "words"]=some ((gO f p x4 x5 b x7 x8),[5],x5):=rfl
theorem jY:ah (some (gO f p x4 x5 b x7 x8)::ρ) 0 [.fld "Going" "begin"]=some ((gO f p x4 x5 b x7 x8),[6],It b):=rfl
theorem tw:ah (some (gO f p x4 x5 b x7 x8)::ρ) 0 [.fld "Going" "uses"]=some ((gO f p x4 x5 b x7 x8),[7],x7):=rfl
theorem cK:ah (some (gO f p x4 x5 b x7 x8)::ρ) 0 [.fld "Going" "waiting"]=some ((gO f p x4 x5 b x7 x8),[8],x8):=rfl
theorem f_place{q:Int}:bp "place" (It q) gN [Rl f.rows,Lo f,Re f,It p,x4,x5,It b,x7,x8]=(gN,[Rl f.rows,Lo f,Re f,It q,x4,x5,It b,x7,x8]):=rfl
theorem vW{q:Int}:bp "begin" (It q) gN [Rl f.rows,Lo f,Re f,It p,x4,x5,It b,x7,x8]=(gN,[Rl f.rows,Lo f,Re f,It p,x4,x5,It q,x7,x8]):=rfl
theorem qc{q:OD}:bp "waiting" q gN [Rl f.rows,Lo f,Re f,It p,x4,x5,It b,x7,x8]=(gN,[Rl f.rows,Lo f,Re f,It p,x4,x5,It b,x7,q]):=rfl
end
theorem zl{n:Nat}{f:Cf}:pl.pg.call (n + 1) 6 [.obj "Going" [] [],Rl f.rows,Lo f,Re f]=some (.fz .none,[GO f ⟨0,[],[],0,[],[]⟩,Rl f.rows,Lo f,Re f]):=cV (fn:=cH) rfl rfl (ab (bU (ns':=["rows"]) (xs':=[Rl f.rows]) (ρ3:=[some (.obj "Going" ["rows"] [Rl f.rows]),some (Rl f.rows),some (Lo f),some (Re f)]) rfl rfl rfl rfl rfl rfl) (ab (bU (ns':=["rows","longs"]) (xs':=[Rl f.rows,Lo f]) (ρ3:=[some (.obj "Going" ["rows","longs"] [Rl f.rows,Lo f]),some (Rl f.rows),some (Lo f),some (Re f)]) rfl rfl rfl rfl rfl rfl) (ab (bU (ns':=["rows","longs","reach"]) (xs':=[Rl f.rows,Lo f,Re f]) (ρ3:=[some (.obj "Going" ["rows","longs","reach"] [Rl f.rows,Lo f,Re f]),some (Rl f.rows),some (Lo f),some (Re f)]) rfl rfl rfl rfl rfl rfl) (ab (bU (ns':=["rows","longs","reach","place"]) (xs':=[Rl f.rows,Lo f,Re f,It 0]) (ρ3:=[some (.obj "Going" ["rows","longs","reach","place"] [Rl f.rows,Lo f,Re f,It 0]),some (Rl f.rows),some (Lo f),some (Re f)]) rfl rfl rfl rfl rfl rfl) (ab (bU (ns':=["rows","longs","reach","place","gaps"]) (xs':=[Rl f.rows,Lo f,Re f,It 0,Il []]) (ρ3:=[some (.obj "Going" ["rows","longs","reach","place","gaps"] [Rl f.rows,Lo f,Re f,It 0,Il []]),some (Rl f.rows),some (Lo f),some (Re f)]) rfl rfl rfl rfl rfl rfl) (ab (bU (ns':=["rows","longs","reach","place","gaps","words"]) (xs':=[Rl f.rows,Lo f,Re f,It 0,Il [],.lst []]) (ρ3:=[some (.obj "Going" ["rows","longs","reach","place","gaps","words"] [Rl f.rows,Lo f,Re f,It 0,Il [],.lst []]),some (Rl f.rows),some (Lo f),some (Re f)]) rfl rfl rfl rfl rfl rfl) (ab (bU (ns':=["rows","longs","reach","place","gaps","words","begin"]) (xs':=[Rl f.rows,Lo f,Re f,It 0,Il [],.lst [],It 0]) (ρ3:=[some (.obj "Going" ["rows","longs","reach","place","gaps","words","begin"] [Rl f.rows,Lo f,Re f,It 0,Il [],.lst [],It 0]),some (Rl f.rows),some (Lo f),some (Re f)]) rfl rfl rfl rfl rfl rfl) (ab (bU (ns':=["rows","longs","reach","place","gaps","words","begin","uses"]) (xs':=[Rl f.rows,Lo f,Re f,It 0,Il [],.lst [],It 0,.dic [] []]) (ρ3:=[some (.obj "Going" ["rows","longs","reach","place","gaps","words","begin","uses"] [Rl f.rows,Lo f,Re f,It 0,Il [],.lst [],It 0,.dic [] []]),some (Rl f.rows),some (Lo f),some (Re f)]) rfl rfl rfl rfl rfl rfl) (ab (bU (ns':=["rows","longs","reach","place","gaps","words","begin","uses","waiting"]) (xs':=[Rl f.rows,Lo f,Re f,It 0,Il [],.lst [],It 0,.dic [] [],.lst []]) (ρ3:=[some (.obj "Going" ["rows","longs","reach","place","gaps","words","begin","uses","waiting"] [Rl f.rows,Lo f,Re f,It 0,Il [],.lst [],It 0,.dic [] [],.lst []]),some (Rl f.rows),some (Lo f),some (Re f)]) rfl rfl rfl rfl rfl rfl) rfl))))))))) rfl
def R.fal(r:R):Bool:=!decide (r.wd="go") && !decide (r.wd="stop")
def ovN(rs:List R):Nat->Bool
 | 0=>true
 | k + 1=>(rs[k]?).elim true R.fal
def fw(rs:List R)(k:Nat)(p:Int):Int:=let q:=if ovN rs k=true then p + 2 else p;q + 2 - q % 2
def sz(f:Cf)(k:Nat):Int:=if (f.rows[k]?).elim false R.gr=true\/(k:Int)∈f.longs then 2 else 1
theorem vX{n:Nat}(r:R):pl.pg.call (n + 1) 2 [Rd r]=some (.fz (.bool r.fal),[Rd r]):=by
 unfold R.fal
 have h1:∀x:Str,ev (pl.pg.ct n) (.cmp .ne (.ix (.nm 0) (.int 0)) (.str x)) [some (Rd r)]=some (.val (.fz (.bool (!decide (r.wd=x)))),[some (Rd r)]):=fun x=>aw (aV rfl rfl rfl (by rw[R.d_is];exact cX bO)) rfl rfl rfl rfl
 cases hb:(!decide (r.wd="go")) with
 | false=>exact ai (fn:=jQ) rfl rfl (aH (au (mj (by rw[<- hb];exact h1 "go")) rfl)) rfl
 | true=>rw[Bool.true_and];exact ai (fn:=jQ) rfl rfl (aH (au (mh (by rw[<- hb];exact h1 "go") (h1 "stop")) rfl)) rfl
theorem fu{rs:List R}{k:Nat}{r:R}(h:rs[k]?=some r):atI (rs.map R.d) (k:Int)=some r.d:=nZ (by rw[List.getElem?_map,h];rfl)
theorem kZ{x:Int}:∀{ls:List Int},memD (.int x) (ls.map PyData.int)=some (decide (x∈ls))
 | []=>by simp[memD]
 | y::ls=>by
  rw[List.map_cons,memD,kZ (ls:=ls)]
  show some (decide (y=x) || decide (x∈ls))=_
  rw[<- Bool.decide_or]
  congr 1
  rw[decide_eq_decide,List.mem_cons]
  exact⟨fun h=>h.imp Eq.symm id,fun h=>h.imp Eq.symm id⟩
theorem inL{x:Int}{ls:List Int}:rM .inn (.int x) (.list (ls.map PyData.int))=some (decide (x∈ls)):=bs (f:=fun ds=>(gd (zI (PyData.int x)=true)).bind fun _=>memD (.int x) ds) rfl (bg rfl kZ)
theorem ninL{x:Int}{ls:List Int}:rM .nin (.int x) (.list (ls.map PyData.int))=some (!decide (x∈ls)):=bs (inL (x:=x) (ls:=ls)) rfl
theorem tx{n:Nat}{f:Cf}{k:Nat}{r:R}(h:f.rows[k]?=some r):pl.pg.call (n + 2) 3 [Rl f.rows,Lo f,It k]=some (It (sz f k),[Rl f.rows,Lo f,It k]):=by
 unfold sz;rw[h]
 have hc:=ae (C:=pl.pg.ct (n + 1)) (f:=0) (es:=.cons (.ix (.nm 0) (.nm 2)) .nil) (ρ:=[some (Rl f.rows),some (Lo f),some (It k)]) (ρ3:=[some (Rl f.rows),some (Lo f),some (It k)]) (aa (aV rfl rfl rfl (cW (fu h))) ag) rfl (zk r) rfl
 cases hg:r.gr with
 | true =>
  rw[hg]at hc
  rw[if_pos (.inl hg)]
  exact ai (fn:=dZ) rfl rfl (aH (au (iZ (kS (bG hc)) rfl) rfl)) rfl
 | false =>
  rw[hg]at hc
  have hl:bf (pl.pg.ct (n + 1)) (.cmp .inn (.nm 2) (.nm 1)) [some (Rl f.rows),some (Lo f),some (It k)]=some (decide ((k:Int)∈f.longs),[some (Rl f.rows),some (Lo f),some (It k)]):=az (aw rfl rfl rfl rfl inL)
  cases hb:decide ((k:Int)∈f.longs) with
  | true =>
   rw[hb]at hl
   rw[if_pos (.inr (of_decide_eq_true hb))]
   exact ai (fn:=dZ) rfl rfl (aH (au (iZ (cG (bG hc) hl) rfl) rfl)) rfl
  | false =>
   rw[hb]at hl
   rw[if_neg fun z=>z.elim (fun z=>absurd (hg.symm.trans z) Bool.false_ne_true) fun z=>of_decide_eq_false hb z]
   exact ai (fn:=dZ) rfl rfl (aH (au (nV (cG (bG hc) hl) rfl) rfl)) rfl
theorem zm{n:Nat}{rs:List R}{k:Nat}(h:k≤rs.length):pl.pg.call (n + 2) 4 [Rl rs,It k]=some (.fz (.bool (ovN rs k)),[Rl rs,It k]):=by
 cases k with
 | zero=>exact ai (fn:=eM) rfl rfl (aH (au (wK rfl) rfl)) rfl
 | succ k =>
  have hb:=vX (n:=n) rs[k]
  have e1:ovN rs (k + 1)=(rs[k]).fal:=by show (rs[k]?).elim true R.fal=_;rw[List.getElem?_eq_getElem h];rfl
  rw[e1]
  have e0:((k + 1:Nat):Int) - 1=(k:Int):=by omega
  exact ai (fn:=eM) rfl rfl (aH (au (wL (aw rfl rfl rfl rfl (show some (decide (((k + 1:Nat):Int)=0))=some false by rw[decide_eq_false (by omega)])) (ae (ρ3:=[some (Rl rs),some (It (k + 1:Nat))]) (aa (aV rfl rfl rfl (cW (d:=(rs[k]).d) (by rw[e0];exact fu (List.getElem?_eq_getElem (by omega))))) ag) rfl hb rfl)) rfl)) rfl
theorem ou{n:Nat}{rs:List R}{k:Nat}{p:Int}(h:k≤rs.length):pl.pg.call (n + 3) 5 [Rl rs,It k,It p]=some (It (fw rs k p),[Rl rs,It k,It p]):=by
 unfold fw
 have hb:=zm (n:=n) h
 have hc:=ae (C:=pl.pg.ct (n + 2)) (f:=4) (es:=.cons (.nm 0) (.cons (.nm 1) .nil)) (ρ:=[some (Rl rs),some (It k),some (It p)]) (ρ3:=[some (Rl rs),some (It k),some (It p)]) rfl rfl hb rfl
 cases hv:ovN rs k with
 | true=>rw[hv]at hc;exact ai (fn:=cY) rfl rfl (ab (aQ (bG hc) (ab rfl rfl)) (aH (au (af rfl (af rfl rfl rfl rfl (cJ (by decide))) rfl rfl rfl) rfl))) rfl
 | false=>rw[hv]at hc;exact ai (fn:=cY) rfl rfl (ab (aG (bG hc) rfl) (aH (au (af rfl (af rfl rfl rfl rfl (cJ (by decide))) rfl rfl rfl) rfl))) rfl
theorem gf(wt:List (Int × Int)):(Wl wt).dat=some (.list (wt.map Wq)):=gb _
theorem tru_l{α:Type}{f:α->PyData}{l:List α}:kC (.list (l.map f))=some (!l.isEmpty):=by
 show some (!(l.map f).isEmpty)=_
 rw[List.isEmpty_map]
theorem ow{α:Type}{f:α->PyData}{l:List α}:g6 (.list (l.map f))=some l.length:=by
 show some (l.map f).length=_
 rw[List.length_map]
theorem blen{α:Type}{f:α->PyData}{l:List α}:zM .len [.list (l.map f)]=some (.int l.length):=by
 show (ei [PyData.list (l.map f)]).bind (fun d=>(g6 d).bind fun n=>some (PyData.int n))=_
 exact bs rfl (bs ow rfl)
def due(f:Cf)(g:G)(k:Nat):Bool:=g.wt.head?.elim false fun q=>decide ((k:Int)=f.rows.length) || decide (fw f.rows (k + 1) (g.pl + sz f k) - q.2 > f.r1)
theorem Cd{n:Nat}{f:Cf}{g:G}{k:Nat}(hk:k≤f.rows.length):pl.pg.call (n + 4) 7 [GO f g,It k]=some (.fz (.bool (due f g k)),[GO f g,It k]):=by
 unfold due
 have ht:bf (pl.pg.ct (n + 3)) (.not (.pt 0 [.fld "Going" "waiting"])) [some (GO f g),some (It k),none,none,none]=some (!(!g.wt.isEmpty),[some (GO f g),some (It k),none,none,none]):=fW (i4 cK (gf _) tru_l)
 cases hw:g.wt with
 | nil =>
  rw[hw]at ht
  exact ai (fn:=bA) (ρ:=[some (GO f g),some (It k),none,none,none]) rfl rfl (aH (aQ ht (aH rfl))) rfl
 | cons q qs =>
  rw[hw]at ht
  have hlen:ev (pl.pg.ct (n + 3)) (.blt .len (.cons (.pg 0 [.fld "Going" "rows"]) .nil)) [some (GO f g),some (It k),none,none,none]=some (.val (It f.rows.length),[some (GO f g),some (It k),none,none,none]):=bE (aa (bX dO rfl) ag) rfl blen
  by_cases he:(k:Int)=f.rows.length
  ·show _=some (OD.fz (PyData.bool (decide ((k:Int)=f.rows.length) || decide (fw f.rows (k + 1) (g.pl + sz f k) - q.2 > f.r1))),_)
   rw[decide_eq_true he,Bool.true_or]
   exact ai (fn:=bA) (ρ:=[some (GO f g),some (It k),none,none,none]) rfl rfl (ab (aG ht rfl) (aH (aQ (az (aw rfl hlen rfl rfl (show some (decide ((k:Int)=f.rows.length))=some true by rw[decide_eq_true he]))) (aH rfl)))) rfl
  ·have hlt:k < f.rows.length:=by omega
   have hs:=tx (n:=n + 1) (f:=f) (List.getElem?_eq_getElem hlt)
   have hv:=ou (n:=n) (rs:=f.rows) (k:=k + 1) (p:=g.pl + sz f k) hlt
   show _=some (OD.fz (PyData.bool (decide ((k:Int)=f.rows.length) || decide (fw f.rows (k + 1) (g.pl + sz f k) - q.2 > f.r1))),_)
   rw[decide_eq_false he,Bool.false_or]
   have hp:ah [some (GO f g),some (It k),some (It (g.pl + sz f k)),none,none] 0 [.ix 0,.fld "Going" "waiting"]=some (GO f g,[8,0],.fz (Wq q)):=bs cK (bs (x:=0) (bs rfl (by rw[hw];exact nY (k:=0) (by simp))) (bs (x:=.fz (Wq q)) (by show (List.map OD.fz (g.wt.map Wq))[0]?=_;rw[hw];rfl) rfl))
   exact ai (fn:=bA) (ρ:=[some (GO f g),some (It k),some (It (g.pl + sz f k)),some (It q.1),some (It q.2)]) rfl rfl (ab (aG ht rfl) (ab (aG (az (aw rfl hlen rfl rfl (show some (decide ((k:Int)=f.rows.length))=some false by rw[decide_eq_false he]))) rfl) (ab (ao (ρ3:=[some (GO f g),some (It k),some (It (g.pl + sz f k)),none,none]) (af (bX cZ rfl) (ae (ρ3:=[some (GO f g),some (It k),none,none,none]) (aa (bX dO rfl) (aa (bX oq rfl) (aa rfl ag))) rfl hs rfl) rfl rfl rfl) rfl rfl rfl) (ab (bs (bX hp rfl) (bs rfl (bs rfl rfl))) (aH (au (aw (af (ae (ρ3:=[some (GO f g),some (It k),some (It (g.pl + sz f k)),some (It q.1),some (It q.2)]) (aa (bX dO rfl) (aa rfl (aa rfl ag))) rfl hv rfl) rfl rfl rfl rfl) (aV (bX jW rfl) rfl rfl rfl) rfl rfl rfl) rfl)))))) rfl
def nu(f:Cf)(at_:Int):Int:=((f.rows[at_.toNat]?).map R.num).getD 0
def Gt(f:Cf)(at_:Int):Prop:=∃(i:Nat) (r k:Int),at_=i/\f.rows[i]?=some (.st r k)
theorem tE{f:Cf}{i:Nat}{r k:Int}(h:f.rows[i]?=some (.st r k)):nu f i=k:=by
 unfold nu
 rw[Int.toNat_natCast,h];rfl
def cL(ns:List Int)(x:Int):List Int:=if x∈ns then ns else ns++[x]
theorem fv{ns:List Int}{x:Int}:Il (ns++[x])=.lst (ns.map It++[It x]):=by rw[Il,List.map_append];rfl
abbrev wF(wt:List (Int × Int)):OD:=.fz (.list (wt.map Wq))
theorem fA{us:List (Int × Int)}{a v:Int}(h:a ∉ us.map (·.1)):bQ (.inl a) (.int v) (us.map fun u=>.inl u.1) (us.map fun u=>It u.2)=((us++[(a,v)]).map fun u=>.inl u.1,(us++[(a,v)]).map fun u=>It u.2):=by
 have hn:¬ ((us.map fun u=>(Sum.inl u.1:Key)).any fun q=>decide (q=.inl a))=true:=by
  intro hh
  obtain⟨q,hq,e⟩:=List.any_eq_true.mp hh
  obtain⟨u,hu,rfl⟩:=List.mem_map.mp hq
  have:=of_decide_eq_true e
  cases this
  exact h (List.mem_map.mpr ⟨u,hu,rfl⟩)
 unfold bQ
 rw[if_neg hn,List.map_append,List.map_append];rfl
theorem tF{C:Ct}{f:Cf}{p b:Int}{x4 x5 x7 x8:OD}{ρ:DEnv}{j:Nat}{a:Int}(hj:(some (gO f p x4 x5 b x7 x8)::ρ)[j]?.join=some (It a))(h:Gt f a):ev C (.ix (.ix (.pg 0 [.fld "Going" "rows"]) (.nm j)) (.int 2)) (some (gO f p x4 x5 b x7 x8)::ρ)=some (.val (It (nu f a)),some (gO f p x4 x5 b x7 x8)::ρ):=by
 obtain⟨i,r,k,rfl,h⟩:=h
 rw[tE h]
 refine aV (aV (y:=.val (It i)) (n:=i) (bX dO rfl) ?_ rfl (cW (fu h))) rfl rfl rfl
 rw[nh,hj]
theorem k4{n:Nat}{f:Cf}{p bg:Int}{gaps:List Int}{x5:OD}{gap:OD}{wtF:OD}(hg:gaps.length < 1000000):∀(wt:List (Int × Int)) (us:List (Int × Int)) (ns:List Int) (o3 o4:Option OD),(∀q∈wt,Gt f q.1)->(us.map (·.1)++wt.map (·.1)).Nodup->us.length + wt.length < 1000->ns.length + wt.length < 1000 ->
  ∃o3' o4',cv (fun d ρ'=>(bF (.tp [3,4]) (.fz d) ρ').bind fun ρ1=>aD (pl.pg.ct n) (match F_Going_lay.body with | .cons _ (.cons (.fr _ _ b) _)=>b | _=>.nil) ρ1) (wt.map Wq) [some (gO f p (Il gaps) x5 bg (gD us) wtF),some gap,some (Il ns),o3,o4]=some (.nx,[some (gO f p (Il gaps) x5 bg (gD (us++wt.map fun q=>(q.1,(gaps.length:Int)))) wtF),some gap,some (Il (wt.foldl (fun ns q=>cL ns (nu f q.1)) ns)),o3',o4'])
 | [],us,ns,o3,o4,_,_,_,_=>⟨o3,o4,by simp only[List.map_nil,List.append_nil];rfl⟩
 | q::wt,us,ns,o3,o4,hG,nd,hl,hn=>by
  rw[List.length_cons]at hl hn
  have hq:=hG q List.mem_cons_self
  have fresh:q.1 ∉ us.map (·.1):=fun hm=>(List.nodup_append.mp nd).2.2 q.1 hm q.1 (by rw[List.map_cons];exact List.mem_cons_self) rfl
  obtain⟨o3',o4',e⟩:=k4 (n:=n) (f:=f) (p:=p) (bg:=bg) (x5:=x5) (gap:=gap) (wtF:=wtF) hg wt (us++[(q.1,(gaps.length:Int))]) (cL ns (nu f q.1)) (some (It q.1)) (some (It q.2)) (fun z hz=>hG z (List.mem_cons_of_mem _ hz)) (by rw[List.map_append,List.append_assoc];exact nd) (by rw[List.length_append,List.length_singleton];omega) (by unfold cL;split;omega;rw[List.length_append,List.length_singleton];omega)
  refine⟨o3',o4',bs (x:=(.nx,[some (gO f p (Il gaps) x5 bg (gD (us++[(q.1,(gaps.length:Int))])) wtF),some gap,some (Il (cL ns (nu f q.1))),some (It q.1),some (It q.2)])) (bs (x:=[some (gO f p (Il gaps) x5 bg (gD us) wtF),some gap,some (Il ns),some (It q.1),some (It q.2)]) rfl ?_) ?_⟩
  ·refine ab (sR (ρ3:=[some (gO f p (Il gaps) x5 bg (gD (us++[(q.1,(gaps.length:Int))])) wtF),some gap,some (Il ns),some (It q.1),some (It q.2)]) (zg jX (ba _) ow) rfl tw rfl rfl rfl (by rw[List.length_map];omega) (fA fresh) rfl) ?_
   have hc:bf (pl.pg.ct n) (.cmp .nin (.ix (.ix (.pg 0 [.fld "Going" "rows"]) (.nm 3)) (.int 2)) (.nm 2)) [some (gO f p (Il gaps) x5 bg (gD (us++[(q.1,(gaps.length:Int))])) wtF),some gap,some (Il ns),some (It q.1),some (It q.2)]=some (!decide (nu f q.1∈ns),[some (gO f p (Il gaps) x5 bg (gD (us++[(q.1,(gaps.length:Int))])) wtF),some gap,some (Il ns),some (It q.1),some (It q.2)]):=az (aw (tF rfl hq) rfl rfl (ba _) ninL)
   by_cases hm:nu f q.1∈ns
   ·rw[decide_eq_true hm]at hc
    unfold cL
    rw[if_pos hm]
    exact ab (aG hc rfl) rfl
   ·rw[decide_eq_false hm]at hc
    unfold cL
    rw[if_neg hm]
    exact ab (aQ hc (ab (dJ (xs:=ns.map It) rfl (tF rfl hq) rfl rfl (by rw[List.length_map];omega) (by rw[fv];rfl)) rfl)) rfl
  ·rw[List.append_assoc]at e
   exact e
theorem aM{α β:Type}{f:α->β}{l:List α}{x:α}:(l++[x]).map f=l.map f++[f x]:=by rw[List.map_append];rfl
theorem vY{l:List OD}{x:OD}:(OD.lst (l++[x])).at [l.length]=some x:=by
 have e:(OD.lst (l++[x])).kids[l.length]?=some x:=by
  show (l++[x])[l.length]?=some x
  rw[List.getElem?_concat_length]
 simp only[OD.at,e]
theorem k5{l:List OD}{x y:OD}:OD.put y [l.length] (.lst (l++[x]))=.lst (l++[y]):=by
 have e:(OD.lst (l++[x])).kids[l.length]?=some x:=by
  show (l++[x])[l.length]?=some x
  rw[List.getElem?_concat_length]
 simp only[OD.put,e,OD.setKid]
 rw[List.set_append_right _ _ (Nat.le_refl _),Nat.sub_self];rfl
def qd(f:Cf)(g:G)(k:Nat):G :=
 ⟨fw f.rows k g.pl + 2 * (g.wt.foldl (fun ns q=>cL ns (nu f q.1)) []).length,g.gaps++[(k:Int)],g.words++[g.wt.foldl (fun ns q=>cL ns (nu f q.1)) []],fw f.rows k g.pl,g.us++g.wt.map fun q=>(q.1,(g.gaps.length:Int)),[]⟩
theorem Ce{n:Nat}{f:Cf}{g:G}{k:Nat}(hk:k≤f.rows.length)(hG:∀q∈g.wt,Gt f q.1)(nd:(g.us.map (·.1)++g.wt.map (·.1)).Nodup)(hl:g.us.length + g.wt.length < 1000)(hg:g.gaps.length < 1000)(hw:g.words.length < 1000) :
  pl.pg.call (n + 4) 8 [GO f g,It k]=some (.fz .none,[GO f (qd f g k),It k]):=by
 unfold qd
 obtain⟨o3,o4,e⟩:=k4 (n:=n + 3) (f:=f) (p:=g.pl) (bg:=g.bg) (gaps:=g.gaps) (x5:=.lst (g.words.map Il)) (gap:=It k) (wtF:=wF g.wt) (by omega) g.wt g.us [] none none hG nd (by omega) (by rw[List.length_nil];omega)
 generalize hns:g.wt.foldl (fun ns q=>cL ns (nu f q.1)) []=ns at e ⊢
 generalize hus:(g.us++g.wt.map fun q=>(q.1,(g.gaps.length:Int)))=us at e ⊢
 have hv:=ou (n:=n) (rs:=f.rows) (k:=k) (p:=g.pl) hk
 generalize fw f.rows k g.pl=v at hv ⊢
 refine cV (fn:=F_Going_lay) (ρ:=[some (GO f ⟨v + 2 * ns.length,g.gaps++[(k:Int)],g.words++[ns],v,us,[]⟩),some (It k),none,o3,o4]) rfl rfl ?_ rfl
 refine ab (ao (ρ3:=[some (GO f g),some (It k),some (Il []),none,none]) rfl rfl rfl rfl) ?_
 refine ab (eB (dM (ds:=g.wt.map Wq) (ρ2:=[some (gO f g.pl (Il g.gaps) (.lst (g.words.map Il)) g.bg (gD g.us) (wF g.wt)),some (It k),some (Il []),none,none]) (zf cK (gf _) rfl) rfl rfl) e) ?_
 refine ab (fX (ρ1:=[some (gO f g.pl (Il (g.gaps++[(k:Int)])) (.lst (g.words.map Il)) g.bg (gD us) (wF g.wt)),some (It k),some (Il ns),o3,o4]) (d:=.int k) jX rfl rfl (by rw[List.length_map];omega) (by rw[fv];rfl)) ?_
 refine bs c9 (pT (xs:=g.words.map Il) (y:=Il ns) rfl (by rw[List.length_map];omega) (by decide) rfl fun u=>⟨[some (gO f (v + 2 * ns.length) (Il (g.gaps++[(k:Int)])) (.lst (g.words.map Il++[.hole u])) v (gD us) (.lst [])),some (It k),some (Il ns),o3,o4],?_,?_⟩)
 ·refine ab (bU (ρ3:=[some (gO f g.pl (Il (g.gaps++[(k:Int)])) (.lst (g.words.map Il++[.hole u])) v (gD us) (wF g.wt)),some (It k),some (Il ns),o3,o4]) (ae (ρ3:=[some (gO f g.pl (Il (g.gaps++[(k:Int)])) (.lst (g.words.map Il++[.hole u])) g.bg (gD us) (wF g.wt)),some (It k),some (Il ns),o3,o4]) (aa (bX dO rfl) (aa rfl (aa (bX cZ rfl) ag))) rfl hv rfl) rfl rfl rfl vW rfl) ?_
  refine ab (bU (z:=It (v + 2 * ns.length)) (ρ3:=[some (gO f (v + 2 * ns.length) (Il (g.gaps++[(k:Int)])) (.lst (g.words.map Il++[.hole u])) v (gD us) (wF g.wt)),some (It k),some (Il ns),o3,o4]) (af (bX jY rfl) (af (dx:=.int 2) (dy:=.int ns.length) rfl (bE rfl (nj (ba _)) blen) rfl rfl (dq (.inl (by decide)))) rfl rfl rfl) rfl rfl rfl f_place rfl) ?_
  exact ab (bU (ρ3:=[some (gO f (v + 2 * ns.length) (Il (g.gaps++[(k:Int)])) (.lst (g.words.map Il++[.hole u])) v (gD us) (.lst [])),some (It k),some (Il ns),o3,o4]) rfl rfl rfl rfl qc rfl) rfl
 ·refine⟨_,Il ns,rfl,?_,rfl,by decide,?_⟩
  ·exact vY
  ·show _=[some (gO f (v + 2 * ns.length) (Il (g.gaps++[(k:Int)])) (OD.put (Il ns) [(g.words.map Il).length] (.lst (g.words.map Il++[.hole u]))) v (gD us) (.lst [])),some (It k),none,o3,o4]
   rw[k5,<- aM];rfl
theorem ixN_last{n:Nat}:ixN (n + 1) (-1)=some n:=by
 unfold ixN
 rw[if_neg (by decide),if_pos (by omega)]
 congr 1
 omega
theorem mD{f:Cf}{p b:Int}{x4 x7 x8 y:OD}{l:List OD}{ρ:DEnv}:ah (some (gO f p x4 (.lst (l++[y])) b x7 x8)::ρ) 0 [.ix (-1),.fld "Going" "words"]=some (gO f p x4 (.lst (l++[y])) b x7 x8,[5,l.length],y) :=
 bs c9 (bs (x:=l.length) (by show ixN (l++[y]).length (-1)=_;rw[List.length_append];exact ixN_last) (bs (x:=y) (by show (l++[y])[l.length]?=_;rw[List.getElem?_concat_length]) rfl))
theorem ox:∀ws:List (List Int),OD.dats (ws.map Il)=some (ws.map fun w=>.list (w.map PyData.int))
 | []=>rfl
 | w::ws=>by rw[List.map_cons,OD.dats,ba,ox ws];rfl
theorem iC(ws:List (List Int)):(OD.lst (ws.map Il)).dat=some (.list (ws.map fun w=>.list (w.map PyData.int))):=by rw[OD.dat,ox]
theorem tG{n:Nat}{f:Cf}{g:G}{x:Int}(h:g.words=[]):pl.pg.call (n + 1) 9 [GO f g,It x]=some (.fz (.bool false),[GO f g,It x]):=by
 have ht:bf (pl.pg.ct n) (.not (.pt 0 [.fld "Going" "words"])) [some (GO f g),some (It x)]=some (!(!g.words.isEmpty),[some (GO f g),some (It x)]):=fW (i4 c9 (iC _) tru_l)
 rw[h]at ht
 exact ai (fn:=bJ) (ρ:=[some (GO f g),some (It x)]) rfl rfl (aH (aQ (kS ht) (aH rfl))) rfl
theorem oy{n:Nat}{f:Cf}{g:G}{x:Int}{ws:List (List Int)}{w:List Int}(h:g.words=ws++[w]):pl.pg.call (n + 1) 9 [GO f g,It x]=some (.fz (.bool (decide (x∈w/\g.pl - g.bg≤f.r0))),[GO f g,It x]):=by
 have ht:bf (pl.pg.ct n) (.not (.pt 0 [.fld "Going" "words"])) [some (GO f g),some (It x)]=some (!(!g.words.isEmpty),[some (GO f g),some (It x)]):=fW (i4 c9 (iC _) tru_l)
 have hx:(!(!g.words.isEmpty))=false:=by rw[h];cases ws<;>rfl
 rw[hx]at ht
 have hp:bf (pl.pg.ct n) (.pin true (.nm 1) 0 [.ix (-1),.fld "Going" "words"]) [some (GO f g),some (It x)]=some (!decide (x∈w),[some (GO f g),some (It x)]):=by
  rw[GO,h,aM]
  exact ml rfl rfl mD (ba w) ninL
 by_cases hm:x∈w
 ·rw[decide_eq_true hm]at hp
  have e:decide (x∈w/\g.pl - g.bg≤f.r0)=decide (g.pl - g.bg≤f.r0):=by rw[decide_eq_decide];exact⟨fun z=>z.2,fun z=>⟨hm,z⟩⟩
  rw[e]
  exact ai (fn:=bJ) (ρ:=[some (GO f g),some (It x)]) rfl rfl (ab (aG (cG ht hp) rfl) (aH (au (aw (af (bX cZ rfl) (bX jY rfl) rfl rfl rfl) (aV (bX jW rfl) rfl rfl rfl) rfl rfl rfl) rfl))) rfl
 ·rw[decide_eq_false hm]at hp
  rw[decide_eq_false (fun z=>hm z.1)]
  exact ai (fn:=bJ) (ρ:=[some (GO f g),some (It x)]) rfl rfl (aH (aQ (cG ht hp) (aH rfl))) rfl
theorem zo{n:Nat}{f:Cf}{g:G}{x:Int}(h:g.words=[]):pl.pg.call (n + 1) 10 [GO f g,It x]=some (.fz (.bool false),[GO f g,It x]):=by
 have ht:bf (pl.pg.ct n) (.not (.pt 0 [.fld "Going" "words"])) [some (GO f g),some (It x)]=some (!(!g.words.isEmpty),[some (GO f g),some (It x)]):=fW (i4 c9 (iC _) tru_l)
 rw[h]at ht
 exact ai (fn:=aW) (ρ:=[some (GO f g),some (It x)]) rfl rfl (aH (aQ (kS ht) (aH rfl))) rfl
theorem wO{n:Nat}{f:Cf}{g:G}{x:Int}{ws:List (List Int)}{w:List Int}(h:g.words=ws++[w]):pl.pg.call (n + 1) 10 [GO f g,It x]=some (.fz (.bool (decide (g.wt=[]/\x ∉ w/\g.pl + 2 - g.bg≤f.r0))),[GO f g,It x]):=by
 have ht:bf (pl.pg.ct n) (.not (.pt 0 [.fld "Going" "words"])) [some (GO f g),some (It x)]=some (!(!g.words.isEmpty),[some (GO f g),some (It x)]):=fW (i4 c9 (iC _) tru_l)
 have hx:(!(!g.words.isEmpty))=false:=by rw[h];cases ws<;>rfl
 rw[hx]at ht
 have hw:bf (pl.pg.ct n) (.pt 0 [.fld "Going" "waiting"]) [some (GO f g),some (It x)]=some (!g.wt.isEmpty,[some (GO f g),some (It x)]):=i4 cK (gf _) tru_l
 have hp:bf (pl.pg.ct n) (.pin false (.nm 1) 0 [.ix (-1),.fld "Going" "words"]) [some (GO f g),some (It x)]=some (decide (x∈w),[some (GO f g),some (It x)]):=by
  rw[GO,h,aM]
  exact ml rfl rfl mD (ba w) inL
 cases hwt:g.wt with
 | cons q qs =>
  rw[hwt]at hw
  rw[decide_eq_false (fun z=>List.cons_ne_nil _ _ z.1)]
  exact ai (fn:=aW) (ρ:=[some (GO f g),some (It x)]) rfl rfl (aH (aQ (cG ht (kS hw)) (aH rfl))) rfl
 | nil =>
  rw[hwt]at hw
  by_cases hm:x∈w
  ·rw[decide_eq_true hm]at hp
   rw[decide_eq_false (fun z=>z.2.1 hm)]
   exact ai (fn:=aW) (ρ:=[some (GO f g),some (It x)]) rfl rfl (aH (aQ (cG ht (cG hw hp)) (aH rfl))) rfl
  ·rw[decide_eq_false hm]at hp
   have e:decide (([]:List (Int × Int))=[]/\x ∉ w/\g.pl + 2 - g.bg≤f.r0)=decide (g.pl + 2 - g.bg≤f.r0):=by rw[decide_eq_decide];exact⟨fun z=>z.2.2,fun z=>⟨rfl,hm,z⟩⟩
   rw[e]
   exact ai (fn:=aW) (ρ:=[some (GO f g),some (It x)]) rfl rfl (ab (aG (cG ht (cG hw hp)) rfl) (aH (au (aw (af (af (bX cZ rfl) rfl rfl rfl rfl) (bX jY rfl) rfl rfl rfl) (aV (bX jW rfl) rfl rfl rfl) rfl rfl rfl) rfl))) rfl
theorem tH{n:Nat}{f:Cf}{g:G}{o:OD}{x:Int}{k:Bool}(h:pl.pg.call (n + 1) 10 [GO f g,It x]=some (.fz (.bool k),[GO f g,It x])):bf (pl.pg.ct (n + 1)) (.meth "Going" "may_put" 10 0 (.cons (.nm 2) .nil)) [some (GO f g),some o,some (It x)]=some (k,[some (GO f g),some o,some (It x)]):=mf (eJ (ρ3:=[some (GO f g),some o,some (It x)]) rfl (by decide +kernel) rfl rfl h rfl)
theorem tI{n:Nat}{f:Cf}{g:G}{o:OD}{x:Int}{k:Bool}(h:pl.pg.call (n + 1) 9 [GO f g,It x]=some (.fz (.bool k),[GO f g,It x])):bf (pl.pg.ct (n + 1)) (.meth "Going" "finds" 9 0 (.cons (.nm 2) .nil)) [some (GO f g),some o,some (It x)]=some (k,[some (GO f g),some o,some (It x)]):=mf (eJ (ρ3:=[some (GO f g),some o,some (It x)]) rfl (by decide +kernel) rfl rfl h rfl)
inductive Come (f:Cf)(g:G)(a:Int):G->Prop
 | put {ws:List (List Int)} {w:List Int} (h:g.words=ws++[w]) (hw:g.wt=[]) (hn:nu f a ∉ w) (hr:g.pl + 2 - g.bg≤f.r0):Come f g a ⟨g.pl + 2,g.gaps,ws++[w++[nu f a]],g.bg,g.us++[(a,(g.gaps.length:Int) - 1)],g.wt⟩
 | got {ws:List (List Int)} {w:List Int} (h:g.words=ws++[w]) (hn:nu f a∈w) (hr:g.pl - g.bg≤f.r0):Come f g a ⟨g.pl,g.gaps,g.words,g.bg,g.us++[(a,(g.gaps.length:Int) - 1)],g.wt⟩
 | wait (h1:∀ws w,g.words=ws++[w]->¬ (g.wt=[]/\nu f a ∉ w/\g.pl + 2 - g.bg≤f.r0)) (h2:∀ws w,g.words=ws++[w]->¬ (nu f a∈w/\g.pl - g.bg≤f.r0)):Come f g a ⟨g.pl,g.gaps,g.words,g.bg,g.us,g.wt++[(a,g.pl)]⟩
theorem k6{n:Nat}{f:Cf}{g:G}{a x:Int}(fresh:a ∉ g.us.map (·.1))(hl:g.us.length < 1000):aD (pl.pg.ct (n + 1)) (.cons (.std 0 [.fld "Going" "uses"] 1 (.bop .sub (.pl 0 [.fld "Going" "gaps"]) (.int 1))) .nil) [some (GO f g),some (It a),some (It x)]=some (.nx,[some (GO f ⟨g.pl,g.gaps,g.words,g.bg,g.us++[(a,(g.gaps.length:Int) - 1)],g.wt⟩),some (It a),some (It x)]) :=
 ab (sR (af (zg jX (ba _) ow) rfl rfl rfl rfl) rfl tw rfl rfl rfl (by rw[List.length_map];omega) (fA fresh) rfl) rfl
theorem oz{wt:List (Int × Int)}{q:Int × Int}:Wl (wt++[q])=.lst ((wt.map Wq).map OD.fz++[.fz (Wq q)]):=by rw[Wl,aM,aM]
theorem jb{n:Nat}{f:Cf}{g:G}{a x:Int}(hl:g.wt.length < 1000):aD (pl.pg.ct (n + 1)) (.cons (.apd 0 [.fld "Going" "waiting"] (.tup (.cons (.nm 1) (.cons (.pg 0 [.fld "Going" "place"]) .nil)))) .nil) [some (GO f g),some (It a),some (It x)]=some (.nx,[some (GO f ⟨g.pl,g.gaps,g.words,g.bg,g.us,g.wt++[(a,g.pl)]⟩),some (It a),some (It x)]) :=
 ab (fX (d:=Wq (a,g.pl)) cK (bs (bs rfl (bs (bs (bs cZ rfl) rfl) rfl)) rfl) rfl (by rw[List.length_map,List.length_map];omega) (by show _=[some (gO f g.pl (Il g.gaps) (.lst (g.words.map Il)) g.bg (gD g.us) (Wl (g.wt++[(a,g.pl)]))),some (It a),some (It x)];rw[oz];rfl)) rfl
theorem zp{n:Nat}{f:Cf}{g:G}{a:Int}(hG:Gt f a)(fresh:a ∉ g.us.map (·.1))(hl:g.us.length < 1000)(hw:g.wt.length < 1000)(hws:∀w∈g.words,w.length < 1000):∃g',pl.pg.call (n + 2) 11 [GO f g,It a]=some (.fz .none,[GO f g',It a])/\Come f g a g':=by
 have hs:dw (pl.pg.ct (n + 1)) (.set 2 (.ix (.ix (.pg 0 [.fld "Going" "rows"]) (.nm 1)) (.int 2))) [some (GO f g),some (It a),none]=some (.nx,[some (GO f g),some (It a),some (It (nu f a))]):=ao (tF rfl hG) rfl rfl rfl
 rcases List.eq_nil_or_concat g.words with h | ⟨ws,w,h⟩
 ·exact⟨_,cV (fn:=bB) rfl rfl (ab hs (ab (aG (tH (zo h)) rfl) (ab (aG (tI (tG h)) (jb hw)) rfl))) rfl,.wait (fun ws w z=>absurd (h.symm.trans z) (by simp)) fun ws w z=>absurd (h.symm.trans z) (by simp)⟩
 ·rw[List.concat_eq_append]at h
  by_cases hp:g.wt=[]/\nu f a ∉ w/\g.pl + 2 - g.bg≤f.r0
  ·have e1:=tH (o:=It a) (wO (n:=n) (f:=f) (x:=nu f a) h)
   rw[decide_eq_true hp]at e1
   have hb:aD (pl.pg.ct (n + 1)) (.cons (.apd 0 [.ix (-1),.fld "Going" "words"] (.nm 2)) (.cons (.agf 0 "Going" "place" .add (.gc 2)) .nil)) [some (GO f g),some (It a),some (It (nu f a))]=some (.nx,[some (GO f ⟨g.pl + 2,g.gaps,ws++[w++[nu f a]],g.bg,g.us,g.wt⟩),some (It a),some (It (nu f a))]):=by
    have hwl:w.length < 1000:=hws w (by rw[h];exact List.mem_append_right _ List.mem_cons_self)
    rw[GO,h,aM]
    refine ab (fX (ρ1:=[some (gO f g.pl (Il g.gaps) (.lst (ws.map Il++[Il (w++[nu f a])])) g.bg (gD g.us) (Wl g.wt)),some (It a),some (It (nu f a))]) (d:=.int (nu f a)) mD rfl rfl (by rw[List.length_map];omega) ?_) (ab (sS cZ rfl rfl rfl rfl rfl rfl f_place ?_) rfl)
    ·show [some (gO f g.pl (Il g.gaps) (OD.put (.lst (w.map It++[It (nu f a)])) [(ws.map Il).length] (.lst (ws.map Il++[Il w]))) g.bg (gD g.us) (Wl g.wt)),some (It a),some (It (nu f a))]=_
     rw[k5,fv]
    ·rw[GO,aM];rfl
   have e2:=tI (o:=It a) (oy (n:=n) (f:=f) (x:=nu f a) (g:=⟨g.pl + 2,g.gaps,ws++[w++[nu f a]],g.bg,g.us,g.wt⟩) (ws:=ws) (w:=w++[nu f a]) rfl)
   rw[decide_eq_true ⟨List.mem_append_right _ List.mem_cons_self,hp.2.2⟩]at e2
   exact⟨_,cV (fn:=bB) rfl rfl (ab hs (ab (aQ e1 hb) (ab (aQ e2 (k6 (g:=⟨g.pl + 2,g.gaps,ws++[w++[nu f a]],g.bg,g.us,g.wt⟩) fresh hl)) rfl))) rfl,.put h hp.1 hp.2.1 hp.2.2⟩
  ·have e1:=tH (o:=It a) (wO (n:=n) (f:=f) (x:=nu f a) h)
   rw[decide_eq_false hp]at e1
   have e2:=tI (o:=It a) (oy (n:=n) (f:=f) (x:=nu f a) h)
   by_cases hq:nu f a∈w/\g.pl - g.bg≤f.r0
   ·rw[decide_eq_true hq]at e2
    exact⟨_,cV (fn:=bB) rfl rfl (ab hs (ab (aG e1 rfl) (ab (aQ e2 (k6 fresh hl)) rfl))) rfl,.got h hq.1 hq.2⟩
   ·rw[decide_eq_false hq]at e2
    refine⟨_,cV (fn:=bB) rfl rfl (ab hs (ab (aG e1 rfl) (ab (aG e2 (jb hw)) rfl))) rfl,.wait (fun ws' w' z=>?_) fun ws' w' z=>?_⟩<;>(obtain⟨rfl,e⟩:=List.append_inj' (h.symm.trans z) rfl;obtain rfl:=(List.cons.inj e).1)
    ·exact hp
    ·exact hq
def gIx:Int->List R->List Int
 | _,[]=>[]
 | i,r::rs=>if r.gr=true then i::gIx (i + 1) rs else gIx (i + 1) rs
theorem oA:∀{a b:List R} {i:Int},gIx i (a++b)=gIx i a++gIx (i + a.length) b
 | [],b,i=>by simp[gIx]
 | r::a,b,i=>by
  have e:i + 1 + (a.length:Int)=i + ((r::a).length:Nat):=by rw[List.length_cons];omega
  rw[List.cons_append,gIx,gIx,oA (a:=a),e]
  split<;>rfl
theorem gIx_mem:∀{rs:List R} {i a:Int},a∈gIx i rs->∃(j:Nat) (r:R),a=i + j/\rs[j]?=some r/\r.gr=true
 | [],i,a,h=>absurd h List.not_mem_nil
 | r::rs,i,a,h=>by
  rw[gIx]at h
  by_cases hg:r.gr=true
  ·rw[if_pos hg]at h
   rcases List.mem_cons.mp h with rfl | h
   ·exact⟨0,r,by simp,rfl,hg⟩
   ·obtain⟨j,q,e,h1,h2⟩:=gIx_mem h
    exact⟨j + 1,q,by rw[e];omega,h1,h2⟩
  ·rw[if_neg hg]at h
   obtain⟨j,q,e,h1,h2⟩:=gIx_mem h
   exact⟨j + 1,q,by rw[e];omega,h1,h2⟩
theorem cM:∀{rs:List R} {i:Int},(gIx i rs).Nodup
 | [],i=>List.nodup_nil
 | r::rs,i=>by
  rw[gIx]
  split
  ·refine List.nodup_cons.mpr ⟨fun h=>?_,cM⟩
   obtain⟨j,q,e,_⟩:=gIx_mem h
   omega
  ·exact cM
theorem gr_st{r:R}(h:r.gr=true):∃x k,r=.st x k:=by
 cases r with
 | st x k=>exact⟨x,k,rfl⟩
 | ot w xs hw=>cases h
theorem zq{f:Cf}{k:Nat}{a:Int}(h:a∈gIx 0 (f.rows.take k)):Gt f a:=by
 obtain⟨j,r,e,h1,h2⟩:=gIx_mem h
 obtain⟨x,y,rfl⟩:=gr_st h2
 refine⟨j,x,y,by omega,?_⟩
 rw[List.getElem?_take]at h1
 split at h1
 ·exact h1
 ·cases h1
theorem fB:∀{rs:List R} {i:Int},(gIx i rs).length=(rs.filter R.gr).length
 | [],i=>rfl
 | r::rs,i=>by
  rw[gIx]
  by_cases hg:r.gr=true
  ·rw[if_pos hg,List.filter_cons_of_pos hg,List.length_cons,List.length_cons,fB]
  ·rw[if_neg hg,List.filter_cons_of_neg hg,fB]
theorem tJ{ns:List Int}{x:Int}:(cL ns x).length≤ns.length + 1:=by
 unfold cL
 split
 ·omega
 ·rw[List.length_append,List.length_singleton];exact Nat.le_refl _
theorem take_one{f:Cf}{k:Nat}{r:R}(h:f.rows[k]?=some r):f.rows.take (k + 1)=f.rows.take k++[r]:=by rw[List.take_succ,h];rfl
theorem jZ{f:Cf}{k:Nat}{r:R}(h:f.rows[k]?=some r):gIx 0 (f.rows.take (k + 1))=gIx 0 (f.rows.take k)++if r.gr=true then [(k:Int)] else []:=by
 have hk:=(List.getElem?_eq_some_iff.mp h).1
 rw[take_one h,oA,List.length_take,Nat.min_eq_left (by omega),gIx,gIx,Int.zero_add]
theorem k7{f:Cf}:∀{wt:List (Int × Int)} {ns:List Int},(wt.foldl (fun ns q=>cL ns (nu f q.1)) ns).length≤ns.length + wt.length
 | [],ns=>Nat.le_refl _
 | q::wt,ns=>by
  have h1:=k7 (f:=f) (wt:=wt) (ns:=cL ns (nu f q.1))
  have h2:=tJ (ns:=ns) (x:=nu f q.1)
  rw[List.foldl_cons,List.length_cons]
  omega
structure Iv (f:Cf)(g:G)(k m:Nat):Prop where
 ix:g.us.map (·.1)++g.wt.map (·.1)=gIx 0 (f.rows.take k)
 wl:g.words.length=g.gaps.length
 gl:g.gaps.length≤m
 wn:∀w∈g.words,w.length≤g.us.length
 far:g.wt≠[]->g.words≠[]->f.r0 < g.pl - g.bg
theorem Iv.start{f:Cf}:Iv f ⟨0,[],[],0,[],[]⟩ 0 0:=⟨rfl,rfl,Nat.le_refl _,fun w h=>absurd h List.not_mem_nil,fun h=>absurd rfl h⟩
theorem Iv.lay{f:Cf}{g:G}{k m:Nat}(I:Iv f g k m):Iv f (qd f g k) k (m + 1):=by
 refine⟨?_,?_,?_,fun w hw=>?_,fun h=>absurd rfl h⟩
 ·show (g.us++_).map (·.1)++[]=_
  rw[List.append_nil,List.map_append,List.map_map,<- I.ix];rfl
 ·show (g.words++[_]).length=(g.gaps++[_]).length
  rw[List.length_append,List.length_append,I.wl];rfl
 ·show (g.gaps++[_]).length≤m + 1
  rw[List.length_append,List.length_singleton]
  exact Nat.succ_le_succ I.gl
 ·show w.length≤(g.us++g.wt.map _).length
  rw[List.length_append,List.length_map]
  rcases List.mem_append.mp hw with h | h
  ·exact Nat.le_trans (I.wn w h) (Nat.le_add_right _ _)
  ·rw[List.mem_singleton.mp h]
   have:=k7 (f:=f) (wt:=g.wt) (ns:=[])
   rw[List.length_nil,Nat.zero_add]at this
   exact Nat.le_trans this (Nat.le_add_left _ _)
theorem Iv.come{f:Cf}{g g':G}{k m:Nat}(I:Iv f g k m){r:R}(hr:f.rows[k]?=some r)(hg:r.gr=true)(h:Come f g k g'):Iv f ⟨g'.pl + 2,g'.gaps,g'.words,g'.bg,g'.us,g'.wt⟩ (k + 1) m:=by
 have hx:∀j:Int,g.wt=[]->(g.us++[((k:Int),j)]).map (·.1)++g.wt.map (·.1)=gIx 0 (f.rows.take (k + 1)):=fun j hw=>by
  have e0:=I.ix
  rw[jZ hr,if_pos hg,<- e0,hw,List.map_nil,List.append_nil,List.append_nil,List.map_append];rfl
 have hl:∀j:Int,(g.us++[((k:Int),j)]).length=g.us.length + 1:=fun j=>by rw[List.length_append];rfl
 cases h with
 | @put ws w h hw hn =>
  have e1:=I.wl
  rw[h,List.length_append]at e1
  refine⟨hx _ hw,?_,I.gl,fun v hv=>?_,fun z=>absurd hw z⟩
  ·show (ws++[_]).length=_
   rw[List.length_append];exact e1
  ·show v.length≤(g.us++[_]).length
   rw[hl]
   rcases List.mem_append.mp hv with z | z
   ·exact Nat.le_succ_of_le (I.wn v (by rw[h];exact List.mem_append_left _ z))
   ·rw[List.mem_singleton.mp z,List.length_append,List.length_singleton]
    exact Nat.succ_le_succ (I.wn w (by rw[h];exact List.mem_append_right _ List.mem_cons_self))
 | @got ws w h hn h0 =>
  have hw:g.wt=[]:=by
   by_cases hw:g.wt=[]
   ·exact hw
   ·have:=I.far hw (by rw[h];simp);omega
  exact⟨hx _ hw,I.wl,I.gl,fun v hv=>by show _≤(g.us++[_]).length;rw[hl];exact Nat.le_succ_of_le (I.wn v hv),fun z=>absurd hw z⟩
 | wait h1 h2 =>
  refine⟨?_,I.wl,I.gl,I.wn,fun _ hw=>?_⟩
  ·show g.us.map (·.1)++(g.wt++[_]).map (fun u:Int × Int=>u.1)=_
   rw[jZ hr,if_pos hg,List.map_append,<- List.append_assoc,I.ix];rfl
  ·show f.r0 < g.pl + 2 - g.bg
   by_cases hwt:g.wt=[]
   ·rcases List.eq_nil_or_concat g.words with e | ⟨ws,w,e⟩
    ·exact absurd e hw
    ·rw[List.concat_eq_append]at e
     by_cases hm:nu f (k:Int)∈w
     ·have:=h2 ws w e;have:¬ g.pl - g.bg≤f.r0:=fun z=>this ⟨hm,z⟩;omega
     ·have:=h1 ws w e;have:¬ g.pl + 2 - g.bg≤f.r0:=fun z=>this ⟨hwt,hm,z⟩;omega
   ·have:=I.far hwt hw;omega
theorem Iv.skip{f:Cf}{g:G}{k m:Nat}(I:Iv f g k m){r:R}(hr:f.rows[k]?=some r)(hg:r.gr=false){s:Int}(hs:1≤s):Iv f ⟨g.pl + s,g.gaps,g.words,g.bg,g.us,g.wt⟩ (k + 1) m :=
 ⟨by rw[jZ hr,hg,if_neg Bool.false_ne_true,List.append_nil];exact I.ix,I.wl,I.gl,I.wn,fun h h'=>by have:=I.far h h';show f.r0 < g.pl + s - g.bg;omega⟩
theorem Iv.more{f:Cf}{g:G}{k m m':Nat}(I:Iv f g k m)(h:m≤m'):Iv f g k m':=⟨I.ix,I.wl,Nat.le_trans I.gl h,I.wn,I.far⟩
theorem Iv.len{f:Cf}{g:G}{k m:Nat}(I:Iv f g k m):g.us.length + g.wt.length≤k:=by
 have:=congrArg List.length I.ix
 rw[List.length_append,List.length_map,List.length_map,fB]at this
 rw[this]
 exact Nat.le_trans (List.length_filter_le _ _) (by rw[List.length_take];exact Nat.min_le_left _ _)
theorem Iv.words_lt{f:Cf}{g:G}{k m:Nat}(I:Iv f g k m):∀w∈g.words,w.length≤k:=fun w hw=>Nat.le_trans (I.wn w hw) (Nat.le_trans (Nat.le_add_right _ _) I.len)
theorem Iv.nodup{f:Cf}{g:G}{k m:Nat}(I:Iv f g k m):(g.us.map (·.1)++g.wt.map (·.1)).Nodup:=by rw[I.ix];exact cM
theorem Iv.gt{f:Cf}{g:G}{k m:Nat}(I:Iv f g k m):∀q∈g.wt,Gt f q.1:=fun q hq=>zq (k:=k) (by rw[<- I.ix];exact List.mem_append_right _ (List.mem_map.mpr ⟨q,hq,rfl⟩))
def laysG(f:Cf)(g:G)(k:Nat):G:=if due f g k=true then qd f g k else g
theorem zr{n:Nat}{f:Cf}{g:G}{k:Nat}(I:Iv f g k k)(hk:k≤f.rows.length)(hN:f.rows.length≤200):dw (pl.pg.ct (n + 4)) (.iff (.meth "Going" "is_due" 7 0 (.cons (.nm 1) .nil)) (.cons (.ex (.meth "Going" "lay" 8 0 (.cons (.nm 1) .nil))) .nil) .nil) [some (GO f g),some (It k)]=some (.nx,[some (GO f (laysG f g k)),some (It k)])/\Iv f (laysG f g k) k (k + 1):=by
 have hb:=Cd (n:=n) (f:=f) (g:=g) hk
 unfold laysG
 generalize due f g k=b at hb ⊢
 have ht:bf (pl.pg.ct (n + 4)) (.meth "Going" "is_due" 7 0 (.cons (.nm 1) .nil)) [some (GO f g),some (It k)]=some (b,[some (GO f g),some (It k)]):=mf (eJ (ρ3:=[some (GO f g),some (It k)]) rfl (by decide +kernel) rfl rfl hb rfl)
 cases b with
 | false=>exact⟨aG ht rfl,I.more (Nat.le_succ _)⟩
 | true =>
  have hl:=I.len
  have hg:=I.gl
  have hwl:=I.wl
  have e:=Ce (n:=n) hk I.gt I.nodup (by omega) (by omega) (by omega)
  exact⟨aQ ht (ab (sT (eJ rfl (by decide +kernel) rfl rfl e rfl)) rfl),I.lay⟩
structure Cross (f:Cf)(g:G)(k:Nat)(g2:G):Prop where
 gr:(f.rows[k]?).elim false R.gr=true->Come f (laysG f g k) k g2
 no:(f.rows[k]?).elim false R.gr=false->g2=laysG f g k
abbrev mE(g:G)(s:Int):G:=⟨g.pl + s,g.gaps,g.words,g.bg,g.us,g.wt⟩
theorem Cg{f:Cf}{k:Nat}{r:R}(hr:f.rows[k]?=some r)(hg:r.gr=true):sz f k=2:=by unfold sz;rw[hr];exact if_pos (.inl hg)
theorem zt{f:Cf}{k:Nat}:1≤sz f k:=by unfold sz;split<;>decide
theorem oB{n:Nat}{f:Cf}{g:G}{k:Nat}(I:Iv f g k k)(hk:k≤f.rows.length)(hN:f.rows.length≤200):(k < f.rows.length->∃g2,pl.pg.call (n + 5) 12 [GO f g,It k]=some (.fz .none,[GO f (mE g2 (sz f k)),It k])/\Cross f g k g2/\Iv f (mE g2 (sz f k)) (k + 1) (k + 1))/\(k=f.rows.length->pl.pg.call (n + 5) 12 [GO f g,It k]=some (.fz .none,[GO f (laysG f g k),It k])/\Iv f (laysG f g k) k (k + 1)):=by
 obtain⟨e1,I1⟩:=zr (n:=n) I hk hN
 generalize hg1:laysG f g k=g1 at e1 I1 ⊢
 have hlen:ev (pl.pg.ct (n + 4)) (.blt .len (.cons (.pg 0 [.fld "Going" "rows"]) .nil)) [some (GO f g1),some (It k)]=some (.val (It f.rows.length),[some (GO f g1),some (It k)]):=bE (aa (bX dO rfl) ag) rfl blen
 by_cases hlt:k < f.rows.length
 ·have hr:=List.getElem?_eq_getElem hlt
  refine⟨fun _=>?_,fun e=>absurd e (by omega)⟩
  have hs:=tx (n:=n + 2) (f:=f) hr
  have hr':(f.rows[k]?).elim false R.gr=(f.rows[k]).gr:=by rw[hr];rfl
  have ht:=az (aw (C:=pl.pg.ct (n + 4)) (ρ:=[some (GO f g1),some (It k)]) (a:=.nm 1) (o:=.lt) (k:=true) rfl hlen rfl rfl (show some (decide ((k:Int) < f.rows.length))=some true by rw[decide_eq_true (by omega)]))
  have hc:bf (pl.pg.ct (n + 4)) (.call 0 (.cons (.ix (.pg 0 [.fld "Going" "rows"]) (.nm 1)) .nil)) [some (GO f g1),some (It k)]=some ((f.rows[k]).gr,[some (GO f g1),some (It k)]):=bG (ae (ρ3:=[some (GO f g1),some (It k)]) (aa (aV (bX dO rfl) rfl rfl (cW (fu hr))) ag) rfl (zk _) rfl)
  have hadd:∀g2:G,dw (pl.pg.ct (n + 4)) (.agf 0 "Going" "place" .add (.call 3 (.cons (.pg 0 [.fld "Going" "rows"]) (.cons (.pg 0 [.fld "Going" "longs"]) (.cons (.nm 1) .nil))))) [some (GO f g2),some (It k)]=some (.nx,[some (GO f (mE g2 (sz f k))),some (It k)]):=fun g2=>sS cZ rfl (ae (ρ3:=[some (GO f g2),some (It k)]) (aa (bX dO rfl) (aa (bX oq rfl) (aa rfl ag))) rfl hs rfl) rfl rfl rfl rfl f_place rfl
  cases hg:(f.rows[k]).gr with
  | false =>
   rw[hg]at hc
   exact⟨_,cV (fn:=bK) rfl rfl (ab e1 (ab (aQ ht (ab (aG hc rfl) (ab (hadd g1) rfl))) rfl)) rfl,⟨fun z=>absurd (hg.symm.trans (hr'.symm.trans z)) Bool.false_ne_true,fun _=>hg1.symm⟩,I1.skip hr hg zt⟩
  | true =>
   rw[hg]at hc
   obtain⟨x,y,est⟩:=gr_st hg
   have hl:=I1.len
   obtain⟨g2,e2,C2⟩:=zp (n:=n + 2) (f:=f) (g:=g1) (a:=k) ⟨k,x,y,rfl,by rw[hr,est]⟩ (fun hm=>by
    have:=gIx_mem (i:=0) (rs:=f.rows.take k) (a:=k) (by rw[<- I1.ix];exact List.mem_append_left _ hm)
    obtain⟨j,r,e,h1,_⟩:=this
    have:=(List.getElem?_eq_some_iff.mp h1).1
    rw[List.length_take]at this
    omega) (by omega) (by omega) (fun w hw=>by have:=I1.words_lt w hw;omega)
   exact⟨_,cV (fn:=bK) rfl rfl (ab e1 (ab (aQ ht (ab (aQ hc (ab (sT (eJ (ρ3:=[some (GO f g2),some (It k)]) rfl (by decide +kernel) rfl rfl e2 rfl)) rfl)) (ab (hadd g2) rfl))) rfl)) rfl,⟨fun _=>by rw[hg1];exact C2,fun z=>absurd (hg.symm.trans (hr'.symm.trans z)).symm Bool.false_ne_true⟩,by rw[Cg hr hg];exact I1.come hr hg C2⟩
 ·have ht:=az (aw (C:=pl.pg.ct (n + 4)) (ρ:=[some (GO f g1),some (It k)]) (a:=.nm 1) (o:=.lt) (k:=false) rfl hlen rfl rfl (show some (decide ((k:Int) < f.rows.length))=some false by rw[decide_eq_false (by omega)]))
  exact⟨fun h=>absurd h hlt,fun _=>⟨cV (fn:=bK) rfl rfl (ab e1 (ab (aG ht rfl) rfl)) rfl,I1⟩⟩
def enF:Int->List R->List PyData
 | _,[]=>[]
 | i,r::rs=>.tuple [.int i,r.d]::enF (i + 1) rs
theorem oC:∀{rs:List R} {i:Int} {j:Nat},(enF i rs)[j]?=(rs[j]?).map fun r=>.tuple [.int (i + j),r.d]
 | [],_,_=>by simp[enF]
 | r::rs,i,0=>by simp[enF]
 | r::rs,i,j + 1=>by
  rw[enF,List.getElem?_cons_succ,List.getElem?_cons_succ,oC]
  congr 1
  funext r
  have e:i + 1 + (j:Int)=i + ((j + 1:Nat):Int):=by omega
  rw[e]
theorem vZ(rs:List R):cD (rs.map R.d)=enF 0 rs:=by
 refine List.ext_getElem? fun j=>?_
 rw[oC,Int.zero_add]
 unfold cD
 rw[List.getElem?_map,List.length_map]
 by_cases hj:j < rs.length
 ·rw[List.getElem?_range hj,List.getElem?_eq_getElem hj]
  simp[List.getD_eq_getElem?_getD,List.getElem?_map,List.getElem?_eq_getElem hj]
 ·rw[List.getElem?_eq_none (by simpa using hj),List.getElem?_eq_none (by omega)];rfl
theorem j2{n:Nat}:∀{rs:List R} {i:Int} {out:List PyData} {o0 o1:Option OD},∃ρ',bc (bj (pl.pg.ct (n + 1)) (.tp [0,1]) (.some (.call 0 (.cons (.nm 1) .nil))) (.nm 0)) (enF i rs) out [o0,o1]=some (out++(gIx i rs).map PyData.int,ρ')
 | [],i,out,o0,o1=>⟨[o0,o1],by rw[gIx,List.map_nil,List.append_nil];rfl⟩
 | r::rs,i,out,o0,o1=>by
  have hc:bf (pl.pg.ct (n + 1)) (.call 0 (.cons (.nm 1) .nil)) [some (It i),some (Rd r)]=some (r.gr,[some (It i),some (Rd r)]):=bG (ae (ρ3:=[some (It i),some (Rd r)]) rfl rfl (zk r) rfl)
  rw[gIx]
  cases hg:r.gr with
  | false =>
   rw[hg]at hc
   obtain⟨ρ',e⟩:=j2 (n:=n) (rs:=rs) (i:=i + 1) (out:=out++[]) (o0:=some (It i)) (o1:=some (Rd r))
   refine⟨ρ',bs (x:=([],[some (It i),some (Rd r)])) (vT rfl hc) ?_⟩
   rw[if_neg Bool.false_ne_true,e,List.append_nil]
  | true =>
   rw[hg]at hc
   obtain⟨ρ',e⟩:=j2 (n:=n) (rs:=rs) (i:=i + 1) (out:=out++[.int i]) (o0:=some (It i)) (o1:=some (Rd r))
   refine⟨ρ',bs (x:=([.int i],[some (It i),some (Rd r)])) (vS rfl hc rfl rfl) ?_⟩
   rw[if_pos rfl,e,List.append_assoc];rfl
theorem tK{n:Nat}{rs:List R}(hr:rs.length≤1000):pl.pg.call (n + 2) 1 [Rl rs]=some (Il (gIx 0 rs),[Rl rs]):=by
 obtain⟨ρ',e⟩:=j2 (n:=n) (rs:=rs) (i:=0) (out:=[]) (o0:=none) (o1:=none)
 rw[List.nil_append,<- vZ]at e
 refine ai (fn:=gq) (ρ:=[some (Rl rs)]) rfl rfl (aH (au (z:=Il (gIx 0 rs)) (cU (ρ2:=[some (Rl rs)]) (sU rfl rfl) (by rw[dS,List.length_map];omega) rfl e unca_nil) (by rw[eE];rfl))) rfl
abbrev Po(q:Int × List Int):PyData:=.tuple [.int q.1,.tuple (q.2.map PyData.int)]
abbrev Pn(ps:List (Int × List Int))(us:List Int):OD:=.tup [.lst ((ps.map Po).map OD.fz),Il us]
theorem iD{C:Ct}:∀{gs:List Int} {ws:List (List Int)} {out:List PyData} {o0 o1:Option OD},∃ρ',bc (bj C (.tp [0,1]) .none (.tup (.cons (.nm 0) (.cons (.bnw .tuple (.nm 1)) .nil)))) (fN (gs.map PyData.int) (ws.map fun w=>.list (w.map PyData.int))) out [o0,o1]=some (out++(gs.zip ws).map Po,ρ')
 | [],ws,out,o0,o1=>⟨[o0,o1],by simp only[List.map_nil,List.zip_nil_left,List.append_nil];rfl⟩
 | g::gs,[],out,o0,o1=>⟨[o0,o1],by simp only[List.map_nil,List.zip_nil_right,List.append_nil];rfl⟩
 | g::gs,w::ws,out,o0,o1=>by
  obtain⟨ρ',e⟩:=iD (C:=C) (gs:=gs) (ws:=ws) (out:=out++[Po (g,w)]) (o0:=some (It g)) (o1:=some (.fz (.list (w.map PyData.int))))
  refine⟨ρ',bs (x:=([Po (g,w)],[some (It g),some (.fz (.list (w.map PyData.int)))])) (pZ rfl (dH (z:=.fz (Po (g,w))) (aa rfl (aa (nW rfl rfl) ag)) rfl rfl rfl) rfl) ?_⟩
  rw[List.append_assoc]at e
  exact e
theorem find_key:∀{us:List (Int × Int)} {i:Nat} {u:Int × Int},(us.map (·.1)).Nodup->us[i]?=some u->(us.map fun u=>(Sum.inl u.1:Key)).findIdx? (fun q=>decide (q=.inl u.1))=some i
 | [],_,_,_,h=>by simp at h
 | v::us,0,u,_,h=>by
  cases h
  rw[List.map_cons,List.findIdx?_cons]
  simp
 | v::us,i + 1,u,nd,h=>by
  rw[List.map_cons]at nd
  obtain⟨n1,n2⟩:=List.nodup_cons.mp nd
  have h:us[i]?=some u:=h
  have hne:v.1≠u.1:=fun e=>n1 (by rw[e];exact List.mem_map.mpr ⟨u,List.mem_of_getElem? h,rfl⟩)
  rw[List.map_cons,List.findIdx?_cons,find_key n2 h]
  have hd:decide ((Sum.inl v.1:Key)=.inl u.1)=false:=decide_eq_false fun e=>hne (Sum.inl.inj e)
  rw[hd];rfl
theorem jc{C:Ct}{f:Cf}{p b:Int}{x4 x5 x8:OD}{us:List (Int × Int)}(nd:(us.map (·.1)).Nodup):∀{vs:List (Int × Int)} {i:Nat} {out:List PyData} {o:Option OD},us.drop i=vs->∃o',bc (bj C (.nm 0) .none (.pg 1 [.key 0,.fld "Going" "uses"])) ((vs.map (·.1)).map PyData.int) out [o,some (gO f p x4 x5 b (gD us) x8)]=some (out++(vs.map (·.2)).map PyData.int,[o',some (gO f p x4 x5 b (gD us) x8)])
 | [],i,out,o,_=>⟨o,by simp only[List.map_nil,List.append_nil];rfl⟩
 | v::vs,i,out,o,h=>by
  have hi:us[i]?=some v:=by
   have:=congrArg (fun l=>l[0]?) h
   simp only[List.getElem?_drop,Nat.add_zero]at this
   exact this
  have ht:us.drop (i + 1)=vs:=by
   have:=congrArg List.tail h
   rw[List.tail_drop]at this
   exact this
  obtain⟨o',e⟩:=jc (C:=C) (f:=f) (p:=p) (b:=b) (x4:=x4) (x5:=x5) (x8:=x8) nd (vs:=vs) (out:=out++[.int v.2]) (o:=some (It v.1)) ht
  have hp:ah [some (It v.1),some (gO f p x4 x5 b (gD us) x8)] 1 [.key 0,.fld "Going" "uses"]=some (gO f p x4 x5 b (gD us) x8,[7,i],It v.2):=bs (x:=(gO f p x4 x5 b (gD us) x8,[7],gD us)) rfl (bs (x:=i) (find_key nd hi) (bs (x:=It v.2) (by show (us.map fun u=>It u.2)[i]?=_;rw[List.getElem?_map,hi];rfl) rfl))
  refine⟨o',bs (x:=([.int v.2],[some (It v.1),some (gO f p x4 x5 b (gD us) x8)])) (pZ rfl (bX hp rfl) rfl) ?_⟩
  rw[List.append_assoc]at e
  exact e
theorem zu{n:Nat}{f:Cf}{g:G}(hr:f.rows.length≤1000)(hg:g.gaps.length < 1000)(hw:g.words.length=g.gaps.length)(hu:g.us.map (·.1)=gIx 0 f.rows):∃y,pl.pg.call (n + 3) 13 [GO f g]=some (Pn (g.gaps.zip g.words) (g.us.map (·.2)),[y]):=by
 obtain⟨ρ1,e1⟩:=iD (C:=pl.pg.ct (n + 2)) (gs:=g.gaps) (ws:=g.words) (out:=[]) (o0:=none) (o1:=none)
 obtain⟨o2,e2⟩:=jc (C:=pl.pg.ct (n + 2)) (f:=f) (p:=g.pl) (b:=g.bg) (x4:=.fz (.list (g.gaps.map PyData.int))) (x5:=.fz (.list (g.words.map fun w=>.list (w.map PyData.int)))) (x8:=Wl g.wt) (us:=g.us) (by rw[hu];exact cM) (vs:=g.us) (i:=0) (out:=[]) (o:=none) rfl
 rw[List.nil_append]at e1 e2
 rw[hu]at e2
 generalize hO:gO f g.pl (.fz (.list (g.gaps.map PyData.int))) (.fz (.list (g.words.map fun w=>.list (w.map PyData.int)))) g.bg (gD g.us) (Wl g.wt)=O at e2
 have hus:(g.us.map (·.1)).length=(gIx 0 f.rows).length:=by rw[hu]
 refine⟨O,ai (fn:=fc) (ρ:=[some O,none]) rfl rfl (ab (ao (ρ3:=[some O,some (.lst (((g.gaps.zip g.words).map Po).map OD.fz))]) (cU (ρ2:=[some O,none]) (sV (ρ1:=[some (gO f g.pl (.fz (.list (g.gaps.map PyData.int))) (.lst (g.words.map Il)) g.bg (gD g.us) (Wl g.wt)),none]) (ρ2:=[some O,none]) (zf jX (ba _) rfl) (zf c9 (iC _) (by rw[<- hO];rfl)) rfl rfl rfl rfl) ?_ rfl e1 unca_nil) rfl rfl rfl) (aH (au (z:=Pn (g.gaps.zip g.words) (g.us.map (·.2))) (dH (rs:=[.val (.lst (((g.gaps.zip g.words).map Po).map OD.fz)),.val (Il (g.us.map (·.2)))]) (zs:=[.lst (((g.gaps.zip g.words).map Po).map OD.fz),Il (g.us.map (·.2))]) (ρ1:=[some O,none]) (ρ2:=[some O,none]) (aa (ρ1:=[some O,none]) rfl (aa ?_ ag)) rfl rfl rfl) rfl))) rfl⟩
 ·unfold fN
  rw[List.length_zipWith,List.length_map]
  omega
 ·have:=cU (C:=pl.pg.ct (n + 2)) (ρ:=[some O,none]) (ρ2:=[some O,none]) (nt:=1) (fr:=[0]) (it:=.seq (.call 1 (.cons (.pg 0 [.fld "Going" "rows"]) .nil))) (dM (ds:=(gIx 0 f.rows).map PyData.int) (ae (ρ3:=[some O,none]) (aa (bX (d:=.list (f.rows.map R.d)) (p:=(O,[0],Rl f.rows)) (by rw[<- hO];rfl) rfl) ag) rfl (tK (n:=n) hr) rfl) (show frz1 _ (.val (Il (gIx 0 f.rows)))=some (.list ((gIx 0 f.rows).map PyData.int),_) by show ((Il (gIx 0 f.rows)).dat).map _=_;rw[ba];rfl) rfl) (by rw[List.length_map];rw[fB];have:=List.length_filter_le R.gr f.rows;omega) (zc:=([some O],[none,none])) (by rw[<- hO];rfl) e2 rfl
  rw[eE]at this
  exact this
theorem cN{lo:Int}{n:Nat}:ck lo (n + 1)=.int lo::ck (lo + 1) n:=by
 unfold ck
 rw[List.range_succ_eq_map,List.map_cons,List.map_map]
 congr 1
 ·simp
 ·refine List.map_congr_left fun i _=>?_
  show PyData.int (lo + ((i + 1:Nat):Int))=_
  congr 1
  omega
abbrev pE(f:Cf)(g:G)(o:Option OD):DEnv:=[some (Rl f.rows),some (Lo f),some (Re f),some (GO f g),o]
theorem Iv.lays{f:Cf}{g:G}{k:Nat}(I:Iv f g k k):Iv f (laysG f g k) k (k + 1):=by
 unfold laysG
 split
 ·exact I.lay
 ·exact I.more (Nat.le_succ _)
inductive Path (f:Cf):Nat->G->G->Prop
 | nil {k:Nat} {g:G} (hk:k=f.rows.length) (I:Iv f g k k):Path f k g g
 | cons {k:Nat} {g g2 g':G} (hk:k < f.rows.length) (I:Iv f g k k) (C:Cross f g k g2) (h:Path f (k + 1) (mE g2 (sz f k)) g'):Path f k g g'
theorem v3{f:Cf}{g:G}(h:g.wt≠[]):due f g f.rows.length=true:=by
 unfold due
 cases hw:g.wt with
 | nil=>exact absurd hw h
 | cons q qs=>show (decide _ || _)=true;rw[decide_eq_true rfl];rfl
theorem k8{f:Cf}{g:G}:(laysG f g f.rows.length).wt=[]:=by
 unfold laysG
 by_cases h:g.wt=[]
 ·split
  ·rfl
  ·exact h
 ·rw[if_pos (v3 h)];rfl
theorem iE{n:Nat}{f:Cf}{g g':G}{o:Option OD}{k:Nat}(e:pl.pg.call (n + 5) 12 [GO f g,It k]=some (.fz .none,[GO f g',It k])):((bF (.nm 4) (.fz (.int k)) (pE f g o)).bind fun ρ1=>aD (pl.pg.ct (n + 5)) (.cons (.ex (.meth "Going" "cross" 12 3 (.cons (.nm 4) .nil))) .nil) ρ1)=some (.nx,pE f g' (some (It k))) :=
 bs (x:=pE f g (some (It k))) rfl (ab (sT (eJ (ρ3:=pE f g' (some (It k))) rfl (by decide +kernel) rfl rfl e rfl)) rfl)
theorem iF{n:Nat}{f:Cf}(hN:f.rows.length≤200):∀{m k:Nat} {g:G} {o:Option OD},k + m=f.rows.length->Iv f g k k->∃g' o',cv (fun d ρ'=>(bF (.nm 4) (.fz d) ρ').bind fun ρ1=>aD (pl.pg.ct (n + 5)) (.cons (.ex (.meth "Going" "cross" 12 3 (.cons (.nm 4) .nil))) .nil) ρ1) (ck k (m + 1)) (pE f g o)=some (.nx,pE f (laysG f g' f.rows.length) o')/\Iv f (laysG f g' f.rows.length) f.rows.length (f.rows.length + 1)/\Path f k g g'
 | 0,k,g,o,h,I=>by
  obtain rfl:k=f.rows.length:=h
  obtain⟨e,J⟩:=(oB (n:=n) I (Nat.le_refl _) hN).2 rfl
  refine⟨g,some (It f.rows.length),?_,J,.nil rfl I⟩
  rw[cN]
  exact bs (iE e) rfl
 | m + 1,k,g,o,h,I=>by
  have hk:k < f.rows.length:=by omega
  obtain⟨g2,e,C,J⟩:=(oB (n:=n) I (Nat.le_of_lt hk) hN).1 hk
  obtain⟨g'',o',e',h',W⟩:=iF (n:=n) hN (m:=m) (k:=k + 1) (o:=some (It k)) (by omega) J
  refine⟨g'',o',?_,h',.cons hk I C W⟩
  rw[cN]
  exact bs (iE e) e'
theorem Ci{n:Nat}{f:Cf}:(pl.pg.ct (n + 5)).mak 6 [.obj "Going" [] [],Rl f.rows,Lo f,Re f]=some (.fz .none,[GO f ⟨0,[],[],0,[],[]⟩,Rl f.rows,Lo f,Re f]):=by
 have e:(pl.pg.ct (n + 5)).mak=pl.pg.mak (n + 5):=rfl
 rw[e,Pg.mak_succ pl.pg (n + 4) 6]
 exact zl
theorem oE{n:Nat}{f:Cf}(hN:f.rows.length≤200):∃g:G,pl.pg.call (n + 6) 14 [Rl f.rows,Lo f,Re f]=some (Pn (g.gaps.zip g.words) (g.us.map (·.2)),[Rl f.rows,Lo f,Re f])/\∃g0,g=laysG f g0 f.rows.length/\Iv f g f.rows.length (f.rows.length + 1)/\Path f 0 ⟨0,[],[],0,[],[]⟩ g0:=by
 obtain⟨g0,o,e,I,W⟩:=iF (n:=n) hN (m:=f.rows.length) (k:=0) (g:=⟨0,[],[],0,[],[]⟩) (o:=none) (by omega) Iv.start
 have hw:=k8 (f:=f) (g:=g0)
 generalize hg:laysG f g0 f.rows.length=g at e I hw
 have hu:g.us.map (·.1)=gIx 0 f.rows:=by
  have:=I.ix
  rw[hw,List.map_nil,List.append_nil,List.take_length]at this
  exact this
 have hgl:=I.gl
 obtain⟨y,ep⟩:=zu (n:=n + 2) (f:=f) (g:=g) (by omega) (by omega) I.wl hu
 refine⟨g,ai (fn:=gu) (ρ:=[some (Rl f.rows),some (Lo f),some (Re f),some y,o]) rfl rfl ?_ rfl,g0,hg.symm,I,W⟩
 refine ab (ao (ρ3:=pE f ⟨0,[],[],0,[],[]⟩ none) (ze rfl rfl Ci rfl) rfl rfl rfl) ?_
 refine ab (eB (fY (n:=f.rows.length + 1) (ρ1:=pE f ⟨0,[],[],0,[],[]⟩ none) (af (dx:=.int f.rows.length) (bE rfl rfl blen) rfl rfl rfl rfl) rfl (by omega)) (by rw[show ((f.rows.length:Int) + 1).toNat=f.rows.length + 1 by omega];exact e)) ?_
 exact aH (au (eJ (ρ3:=[some (Rl f.rows),some (Lo f),some (Re f),some y,o]) rfl (by decide +kernel) rfl rfl ep rfl) rfl)
theorem oF{n:Nat}{f:Cf}{k:Nat}{r:R}(h:f.rows[k]?=some r):pl.pg.call (n + 2) 23 [Rl f.rows,Lo f,It k]=some (It (sz f k),[Rl f.rows,Lo f,It k]):=by
 unfold sz;rw[h]
 have hc:=ae (C:=pl.pg.ct (n + 1)) (f:=22) (es:=.cons (.ix (.nm 0) (.nm 2)) .nil) (ρ:=[some (Rl f.rows),some (Lo f),some (It k)]) (ρ3:=[some (Rl f.rows),some (Lo f),some (It k)]) (aa (aV rfl rfl rfl (cW (fu h))) ag) rfl (om r) rfl
 cases hg:r.gr with
 | true =>
  rw[hg]at hc
  rw[if_pos (.inl hg)]
  exact ai (fn:=jR) rfl rfl (aH (au (iZ (kS (bG hc)) rfl) rfl)) rfl
 | false =>
  rw[hg]at hc
  have hl:bf (pl.pg.ct (n + 1)) (.cmp .inn (.nm 2) (.nm 1)) [some (Rl f.rows),some (Lo f),some (It k)]=some (decide ((k:Int)∈f.longs),[some (Rl f.rows),some (Lo f),some (It k)]):=az (aw rfl rfl rfl rfl inL)
  cases hb:decide ((k:Int)∈f.longs) with
  | true =>
   rw[hb]at hl
   rw[if_pos (.inr (of_decide_eq_true hb))]
   exact ai (fn:=jR) rfl rfl (aH (au (iZ (cG (bG hc) hl) rfl) rfl)) rfl
  | false =>
   rw[hb]at hl
   rw[if_neg fun z=>z.elim (fun z=>absurd (hg.symm.trans z) Bool.false_ne_true) fun z=>of_decide_eq_false hb z]
   exact ai (fn:=jR) rfl rfl (aH (au (nV (cG (bG hc) hl) rfl) rfl)) rfl
theorem v5(r:R):rM .nin (.str r.wd) (.tuple [.str "go",.str "stop"])=some r.fal:=by
 show some (!(decide ("go"=r.wd) || (decide ("stop"=r.wd) || false)))=some (!decide (r.wd="go") && !decide (r.wd="stop"))
 rw[Bool.or_false,Bool.not_or,decide_eq_decide.mpr (eq_comm (a:=Str.ofString "go")),decide_eq_decide.mpr (eq_comm (a:=Str.ofString "stop"))]
theorem tL{n:Nat}{rs:List R}{k:Nat}{p:Int}(h:k≤rs.length):pl.pg.call (n + 1) 25 [Rl rs,It k,It p]=some (It (fw rs k p),[Rl rs,It k,It p]):=by
 have ho:ev (pl.pg.ct n) (.or (.cmp .eq (.nm 1) (.int 0)) (.cmp .nin (.ix (.ix (.nm 0) (.bop .sub (.nm 1) (.int 1))) (.int 0)) (.tup (.cons (.str "go") (.cons (.str "stop") .nil))))) [some (Rl rs),some (It k),some (It p)]=some (.val (.fz (.bool (ovN rs k))),[some (Rl rs),some (It k),some (It p)]):=by
  cases k with
  | zero=>exact wK rfl
  | succ k =>
   have e0:((k + 1:Nat):Int) - 1=(k:Int):=by omega
   have e1:ovN rs (k + 1)=(rs[k]).fal:=by show (rs[k]?).elim true R.fal=_;rw[List.getElem?_eq_getElem h];rfl
   rw[e1]
   exact wL (aw rfl rfl rfl rfl (show some (decide (((k + 1:Nat):Int)=0))=some false by rw[decide_eq_false (by omega)])) (aw (dx:=.str (rs[k]).wd) (dy:=.tuple [.str "go",.str "stop"]) (aV (aV rfl rfl rfl (cW (d:=(rs[k]).d) (by rw[e0];exact fu (List.getElem?_eq_getElem (by omega))))) rfl rfl (by rw[R.d_is];exact cX bO)) rfl rfl rfl (v5 _))
 unfold fw
 generalize ovN rs k=b at ho
 cases b with
 | true=>exact ai (fn:=f9) rfl rfl (ab (ao (af (d:=.int (p + 2)) rfl (af rfl (bE (d:=.int 1) (aa ho ag) rfl rfl) rfl rfl (dq (.inl (by decide)))) rfl rfl rfl) rfl rfl rfl) (aH (au (af rfl (af rfl rfl rfl rfl (cJ (by decide))) rfl rfl rfl) rfl))) rfl
 | false=>exact ai (fn:=f9) rfl rfl (ab (ao (af (d:=.int p) rfl (af rfl (bE (d:=.int 0) (aa ho ag) rfl rfl) rfl rfl (dq (.inl (by decide)))) rfl rfl (show some (PyData.int (p + 2 * 0))=_ by rw[Int.mul_zero,Int.add_zero])) rfl rfl rfl) (aH (au (af rfl (af rfl rfl rfl rfl (cJ (by decide))) rfl rfl rfl) rfl))) rfl
abbrev Tr:=Int × List Int × Int
abbrev tO(t:Tr):OD:=.lst [It t.1,Il t.2.1,It t.2.2]
abbrev TO(ts:List Tr):OD:=.lst (ts.map tO)
abbrev lE(f:Cf)(x3 x4 x5:OD)(p:Int)(o7 o8 o9 o10 o11 o12 o13:Option OD):DEnv:=[some (Rl f.rows),some (Lo f),some (Re f),some x3,some x4,some x5,some (It p),o7,o8,o9,o10,o11,o12,o13]
structure Tl (g:G)(ts:List Tr):Prop where
 gs:ts.map (·.1)=g.gaps
 ws:ts.map (·.2.1)=g.words
 bg:∀t,ts.getLast?=some t->t.2.2=g.bg
theorem wQ:∀wt:List (Int × Int),PyData.canLayAll0 (wt.map Wq)=true
 | []=>rfl
 | _::r=>by simp[PyData.canLayAll0,PyData.canLay0,wQ r]
theorem wR:∀wt:List (Int × Int),PyData.depthAll (wt.map Wq)≤1
 | []=>by simp[PyData.depthAll]
 | _::r=>by have:=wR r;simp[PyData.depthAll,PyData.depth];omega
theorem Cj(wt:List (Int × Int)):rM .eq (.list (wt.map Wq)) (.list [])=some wt.isEmpty:=by
 have h:SeqAt.shaped (.list (wt.map Wq))=true:=by have:=wR wt;simp[SeqAt.shaped,PyData.canLay0,PyData.depth,wQ];omega
 have h2:SeqAt.shaped (.list [])=true:=by decide +kernel
 have:PyData.eqv (.list (wt.map Wq)) (.list [])=wt.isEmpty:=by cases wt<;>simp[PyData.eqv,PyData.eqvAll]
 show (if (SeqAt.shaped (.list (wt.map Wq)) && SeqAt.shaped (.list []))=true then some (PyData.eqv (.list (wt.map Wq)) (.list [])) else none)=_
 rw[h,h2,Bool.and_self,if_pos rfl,this]
theorem v7{ρ:DEnv}{j:Nat}{ds:List PyData}{i:Int}{d:PyData}(h:ρ[j]?.join=some (.lst (ds.map OD.fz)))(h1:atI (ds.map OD.fz) i=some (.fz d)):bu ρ (.rf j) i=some (.fz d,ρ):=by
 obtain⟨k,e1,e2⟩:=bnd h1
 have e3:itemS (.lst (ds.map OD.fz)) i=some (d,.lst (ds.map OD.fz)):=by
  simp only[itemS,e1,e2,OD.dat]
  rw[bt e2]
 simp only[bu,h,e3]
 rw[set_self (join_some h)]
section
variable{n k:Nat}{f:Cf}{x3 x4:OD}{wt:List (Int × Int)}{p:Int}{o7 o8 o9 o10 o11 o12 o13:Option OD}
theorem mF:bf (pl.pg.ct n) (.cmp .ne (.nm 5) (.lst .nil)) (lE f x3 x4 (Wl wt) p o7 o8 o9 o10 o11 o12 o13)=some (!wt.isEmpty,lE f x3 x4 (Wl wt) p o7 o8 o9 o10 o11 o12 o13):=az (aw (dx:=.list (wt.map Wq)) (dy:=.list []) rfl rfl (gf _) rfl (bs (Cj wt) rfl))
theorem oG:bf (pl.pg.ct n) (.cmp .eq (.nm 5) (.lst .nil)) (lE f x3 x4 (Wl wt) p o7 o8 o9 o10 o11 o12 o13)=some (wt.isEmpty,lE f x3 x4 (Wl wt) p o7 o8 o9 o10 o11 o12 o13):=az (aw (dx:=.list (wt.map Wq)) (dy:=.list []) rfl rfl (gf _) rfl (Cj wt))
theorem wU:ev (pl.pg.ct n) (.cmp .eq (.nm 7) (.blt .len (.cons (.nm 0) .nil))) (lE f x3 x4 (Wl wt) p (some (It k)) o8 o9 o10 o11 o12 o13)=some (.val (.fz (.bool (decide ((k:Int)=f.rows.length)))),lE f x3 x4 (Wl wt) p (some (It k)) o8 o9 o10 o11 o12 o13):=aw (dx:=.int k) (dy:=.int f.rows.length) rfl (bE rfl rfl blen) rfl rfl rfl
abbrev lB:Ss:=match F_late_plan.body with | .cons _ (.cons (.fr _ _ b) _)=>b | _=>.nil
abbrev EZ:S':=match lB with | .cons _ (.cons s _)=>s | _=>.brk
theorem Cm{g:G}(hk:k≤f.rows.length)(hw:g.wt=wt)(hp:g.pl=p):∃(d8:Bool) (o9':Option OD),dw (pl.pg.ct (n + 2)) EZ (lE f x3 x4 (Wl wt) p (some (It k)) (some (.fz (.bool (decide ((k:Int)=f.rows.length))))) o9 o10 o11 o12 o13)=some (.nx,lE f x3 x4 (Wl wt) p (some (It k)) (some (.fz (.bool d8))) o9' o10 o11 o12 o13)/\(!wt.isEmpty && d8)=due f g k:=by
 subst hw hp
 unfold due
 cases hw:g.wt with
 | nil =>
  have ht:=mF (n:=n + 2) (f:=f) (x3:=x3) (x4:=x4) (wt:=[]) (p:=g.pl) (o7:=some (It k)) (o8:=some (.fz (.bool (decide ((k:Int)=f.rows.length))))) (o9:=o9) (o10:=o10) (o11:=o11) (o12:=o12) (o13:=o13)
  exact⟨_,o9,aG (eK ht) rfl,rfl⟩
 | cons q qs =>
  have ht:=mF (n:=n + 2) (f:=f) (x3:=x3) (x4:=x4) (wt:=q::qs) (p:=g.pl) (o7:=some (It k)) (o8:=some (.fz (.bool (decide ((k:Int)=f.rows.length))))) (o9:=o9) (o10:=o10) (o11:=o11) (o12:=o12) (o13:=o13)
  by_cases hb:(k:Int)=f.rows.length
  ·rw[decide_eq_true hb]at ht ⊢
   exact⟨true,o9,aG (t_andT ht rfl) rfl,rfl⟩
  ·rw[decide_eq_false hb]at ht ⊢
   have hlt:k < f.rows.length:=by omega
   have e0:((k:Int) + 1)=((k + 1:Nat):Int):=by omega
   refine⟨decide (fw f.rows (k + 1) (g.pl + sz f k) - q.2 > f.r1),some (It (fw f.rows (k + 1) (g.pl + sz f k))),aQ (t_andT ht rfl) (ab (ao (ρ3:=lE f x3 x4 (Wl (q::qs)) g.pl (some (It k)) (some (.fz (.bool false))) (some (It (fw f.rows (k + 1) (g.pl + sz f k)))) o10 o11 o12 o13) (ae (rs:=[.val (Rl f.rows),.val (It ((k:Int) + 1)),.val (It (g.pl + sz f k))]) (ρ3:=lE f x3 x4 (Wl (q::qs)) g.pl (some (It k)) (some (.fz (.bool false))) o9 o10 o11 o12 o13) (aa rfl (aa rfl (aa (af rfl (ae (ρ3:=lE f x3 x4 (Wl (q::qs)) g.pl (some (It k)) (some (.fz (.bool false))) o9 o10 o11 o12 o13) rfl rfl (oF (n:=n) (List.getElem?_eq_getElem hlt)) rfl) rfl rfl rfl) ag))) rfl (by rw[e0];exact tL (n:=n + 1) hlt) rfl) rfl rfl rfl) (ab (ao (aw (dx:=.int (fw f.rows (k + 1) (g.pl + sz f k) - q.2)) (dy:=.int f.r1) (af (dy:=.int q.2) rfl (aV (aV (z:=.fz (Wq q)) (ρ3:=lE f x3 x4 (Wl (q::qs)) g.pl (some (It k)) (some (.fz (.bool false))) (some (It (fw f.rows (k + 1) (g.pl + sz f k)))) o10 o11 o12 o13) rfl rfl rfl ?_) rfl rfl (cX rfl)) rfl rfl rfl) (aV rfl rfl rfl (cX rfl)) rfl rfl rfl) rfl rfl rfl) rfl)),rfl⟩
   exact v7 (ds:=(q::qs).map Wq) rfl bO
end
section
variable{n k:Nat}{f:Cf}{x4 x5:OD}{p:Int}{ts:List Tr}{t:Tr}{o7 o8 o9 o10 o11 o12 o13:Option OD}
theorem fD:TO (ts++[t])=.lst (ts.map tO++[tO t]):=by rw[TO,aM]
theorem p_l1:ah (lE f (TO (ts++[t])) x4 x5 p o7 o8 o9 o10 o11 o12 o13) 3 [.ix (-1)]=some (TO (ts++[t]),[ts.length],tO t):=by
 rw[fD]
 have e:ixN (ts.map tO++[tO t]).length (-1)=some ts.length:=by rw[List.length_append,List.length_map];exact ixN_last
 have e2:(OD.lst (ts.map tO++[tO t])).kids[ts.length]?=some (tO t):=by show (ts.map tO++[tO t])[ts.length]?=_;have:=List.getElem?_concat_length (l:=ts.map tO) (a:=tO t);rwa [List.length_map]at this
 exact bs (x:=(.lst (ts.map tO++[tO t]),[],.lst (ts.map tO++[tO t]))) rfl (bs (x:=ts.length) (show accN _ (.lst (ts.map tO++[tO t])) (.ix (-1))=some ts.length from e) (bs e2 rfl))
theorem v8:ah (lE f (TO (ts++[t])) x4 x5 p o7 o8 o9 o10 o11 o12 o13) 3 [.ix (1),.ix (-1)]=some (TO (ts++[t]),[ts.length,1],Il t.2.1):=bs p_l1 rfl
theorem El:ah (lE f (TO (ts++[t])) x4 x5 p o7 o8 o9 o10 o11 o12 o13) 3 [.ix (2),.ix (-1)]=some (TO (ts++[t]),[ts.length,2],It t.2.2):=bs p_l1 rfl
theorem tM{z:OD}:OD.put z [ts.length,1] (TO (ts++[t]))=.lst (ts.map tO++[.lst [It t.1,z,It t.2.2]]):=by
 rw[fD]
 have e:(OD.lst (ts.map tO++[tO t])).kids[ts.length]?=some (tO t):=by
  show (ts.map tO++[tO t])[ts.length]?=some (tO t)
  have:=List.getElem?_concat_length (l:=ts.map tO) (a:=tO t);rwa [List.length_map]at this
 simp only[OD.put,e,OD.setKid]
 have e2:(tO t).kids[1]?=some (Il t.2.1):=rfl
 simp only[e2]
 have e3:(ts.map tO).length=ts.length:=List.length_map _
 rw[List.set_append_right _ _ (by rw[e3];exact Nat.le_refl _),e3,Nat.sub_self];rfl
theorem j3{C:Ct}{ρ:DEnv}{j:Nat}{a:Int}(h0:ρ[0]?.join=some (Rl f.rows))(hj:ρ[j]?.join=some (It a))(h:Gt f a):ev C (.ix (.ix (.nm 0) (.nm j)) (.int 2)) ρ=some (.val (It (nu f a)),ρ):=by
 obtain⟨i,r,k,rfl,h⟩:=h
 rw[tE h]
 refine aV (aV (ρ1:=ρ) (x:=.val (Rl f.rows)) (y:=.val (It i)) (n:=i) ?_ ?_ rfl (cW (fu h))) rfl rfl rfl
 ·rw[nh,h0]
 ·rw[nh,hj]
theorem zw{C:Ct}{ρ:DEnv}{j:Nat}{a:Int}(h0:ρ[0]?.join=some (Rl f.rows))(hj:ρ[j]?.join=some (It a))(h:Gt f a):iI C (.ix (.ix (.nm 0) (.nm j)) (.int 2)) ρ=some (.int (nu f a)):=by
 obtain⟨i,r,k,rfl,h⟩:=h
 rw[tE h]
 have e1:iI C (.nm 0) ρ=some (.list (f.rows.map R.d)):=bs h0 rfl
 have e2:iI C (.nm j) ρ=some (.int i):=bs hj rfl
 exact bs (bs e1 (bs e2 (bs rfl (bs rfl (fu h))))) (bs rfl (bs rfl (bs rfl rfl)))
theorem tN{C:Ct}{i:Nat}{ke e:E}{ρ:DEnv}{d kd:PyData}{kk:Key}{ks ks':List Key}{xs xs':List OD}{ρ3:DEnv}(he:ev C e ρ=some (.val (.fz d),ρ))(h0:ρ[i]?.join=some (.dic ks xs))(hk:ev C ke ρ=some (.val (.fz kd),ρ))(hkk:keyOf kd=some kk)(hl:xs.length < 1000000)(hp:bQ kk d ks xs=(ks',xs'))(hr:ρ.set i (some (.dic ks' xs'))=ρ3):dw C (.sdk i ke e) ρ=some (.nx,ρ3):=bs he (bs (x:=(d,ρ)) rfl (bs h0 (bs rfl (bs hk (bs (x:=kd) rfl (bs hkk (bs h0 (bs rfl (bg hl (by rw[hp,<- hr]))))))))))
theorem Cn{C:Ct}{ρ:DEnv}{i:Nat}{xs:List OD}(h:ρ[i]?.join=some (.lst xs)):ev C (.ln i) ρ=some (.val (It xs.length),ρ):=bs h (bs rfl rfl)
abbrev layB:Ss:=match lB with | .cons _ (.cons _ (.cons (.iff _ (.cons _ (.cons _ (.cons (.fr _ _ b) _))) _) _))=>b | _=>.nil
theorem tP{b:Int}{g0:Int}:∀{wt us:List (Int × Int)} {ns:List Int} {o11 o12:Option OD},(∀q∈wt,Gt f q.1)->(us.map (·.1)++wt.map (·.1)).Nodup->us.length + wt.length < 1000->ns.length + wt.length < 1000 ->
  ∃o11' o12',cv (fun d ρ'=>(bF (.tp [11,12]) (.fz d) ρ').bind fun ρ1=>aD (pl.pg.ct n) layB ρ1) (wt.map Wq) (lE f (TO (ts++[(g0,ns,b)])) (gD us) x5 p o7 o8 o9 o10 o11 o12 o13)=some (.nx,lE f (TO (ts++[(g0,wt.foldl (fun ns q=>cL ns (nu f q.1)) ns,b)])) (gD (us++wt.map fun q=>(q.1,(ts.length:Int)))) x5 p o7 o8 o9 o10 o11' o12' o13)
 | [],us,ns,o11,o12,_,_,_,_=>⟨o11,o12,by simp only[List.map_nil,List.append_nil];rfl⟩
 | q::wt,us,ns,o11,o12,hG,nd,hl,hn=>by
  rw[List.length_cons]at hl hn
  have hq:=hG q List.mem_cons_self
  have fresh:q.1 ∉ us.map (·.1):=fun hm=>(List.nodup_append.mp nd).2.2 q.1 hm q.1 (by rw[List.map_cons];exact List.mem_cons_self) rfl
  obtain⟨o11',o12',e⟩:=tP (b:=b) (g0:=g0) (wt:=wt) (us:=us++[(q.1,(ts.length:Int))]) (ns:=cL ns (nu f q.1)) (o11:=some (It q.1)) (o12:=some (It q.2)) (fun z hz=>hG z (List.mem_cons_of_mem _ hz)) (by rw[List.map_append,List.append_assoc];exact nd) (by rw[List.length_append,List.length_singleton];omega) (by unfold cL;split;omega;rw[List.length_append,List.length_singleton];omega)
  rw[List.append_assoc]at e
  refine⟨o11',o12',bs (x:=(.nx,lE f (TO (ts++[(g0,cL ns (nu f q.1),b)])) (gD (us++[(q.1,(ts.length:Int))])) x5 p o7 o8 o9 o10 (some (It q.1)) (some (It q.2)) o13)) (bs (x:=lE f (TO (ts++[(g0,ns,b)])) (gD us) x5 p o7 o8 o9 o10 (some (It q.1)) (some (It q.2)) o13) rfl ?_) e⟩
  have hlen:(((ts++[(g0,ns,b)]).map tO).length:Int) - 1=(ts.length:Int):=by rw[List.length_map,List.length_append,List.length_singleton];omega
  refine ab (tN (d:=.int ts.length) (ρ3:=lE f (TO (ts++[(g0,ns,b)])) (gD (us++[(q.1,(ts.length:Int))])) x5 p o7 o8 o9 o10 (some (It q.1)) (some (It q.2)) o13) (af (Cn rfl) rfl rfl rfl (by show some (PyData.int _)=_;rw[hlen])) rfl rfl rfl (by rw[List.length_map];omega) (fA fresh) rfl) ?_
  have hc:=ml (C:=pl.pg.ct n) (neg:=true) (j3 (C:=pl.pg.ct n) (f:=f) (ρ:=lE f (TO (ts++[(g0,ns,b)])) (gD (us++[(q.1,(ts.length:Int))])) x5 p o7 o8 o9 o10 (some (It q.1)) (some (It q.2)) o13) (j:=11) rfl rfl hq) rfl v8 (ba ns) ninL
  by_cases hm:nu f q.1∈ns
  ·rw[decide_eq_true hm]at hc
   unfold cL
   rw[if_pos hm]
   exact ab (aG hc rfl) rfl
  ·rw[decide_eq_false hm]at hc
   unfold cL
   rw[if_neg hm]
   refine ab (aQ hc (ab (fX (xs:=ns.map It) v8 (zw rfl rfl hq) rfl (by rw[List.length_map];omega) ?_) rfl)) rfl
   show [some (Rl f.rows),some (Lo f),some (Re f),some (OD.put (.lst (ns.map It++[It (nu f q.1)])) [ts.length,1] (TO (ts++[(g0,ns,b)]))),some (gD (us++[(q.1,(ts.length:Int))])),some x5,some (It p),o7,o8,o9,o10,some (It q.1),some (It q.2),o13]=_
   rw[tM,lE,fD,<- fv]
end
section
variable{n k:Nat}{f:Cf}{ts:List Tr}{o7 o8 o9 o10 o11 o12 o13:Option OD}
abbrev E3:S':=match lB with | .cons _ (.cons _ (.cons s _))=>s | _=>.brk
theorem zx{g:G}{d8:Bool}(hk:k≤f.rows.length)(hN:f.rows.length≤200)(I:Iv f g k k)(T:Tl g ts)(hd:(!g.wt.isEmpty && d8)=due f g k):∃ts' o10' o11' o12',dw (pl.pg.ct (n + 1)) E3 (lE f (TO ts) (gD g.us) (Wl g.wt) g.pl (some (It k)) (some (.fz (.bool d8))) o9 o10 o11 o12 o13)=some (.nx,lE f (TO ts') (gD (laysG f g k).us) (Wl (laysG f g k).wt) (laysG f g k).pl (some (It k)) (some (.fz (.bool d8))) o9 o10' o11' o12' o13)/\Tl (laysG f g k) ts':=by
 have ht:=mF (n:=n + 1) (f:=f) (x3:=TO ts) (x4:=gD g.us) (wt:=g.wt) (p:=g.pl) (o7:=some (It k)) (o8:=some (.fz (.bool d8))) (o9:=o9) (o10:=o10) (o11:=o11) (o12:=o12) (o13:=o13)
 unfold laysG
 by_cases hdu:due f g k=true
 ·rw[if_pos hdu]
  rw[hdu,Bool.and_eq_true]at hd
  rw[hd.1]at ht
  have h8:=hd.2
  subst h8
  have il:=I.len
  have tl:ts.length=g.gaps.length:=by rw[<- T.gs,List.length_map]
  have gl:=I.gl
  obtain⟨o11',o12',e⟩:=tP (n:=n + 1) (f:=f) (x5:=wF g.wt) (p:=g.pl) (ts:=ts) (o7:=some (It k)) (o8:=some (.fz (.bool true))) (o9:=o9) (o10:=some (It (fw f.rows k g.pl))) (o13:=o13) (b:=fw f.rows k g.pl) (g0:=(k:Int)) (wt:=g.wt) (us:=g.us) (ns:=[]) (o11:=o11) (o12:=o12) I.gt I.nodup (by omega) (by show 0 + _ < _;omega)
  generalize hns:g.wt.foldl (fun ns q=>cL ns (nu f q.1)) []=ns at e
  have s1:dw (pl.pg.ct (n + 1)) (.set 10 (.call 25 (.cons (.nm 0) (.cons (.nm 7) (.cons (.nm 6) .nil))))) (lE f (TO ts) (gD g.us) (Wl g.wt) g.pl (some (It k)) (some (.fz (.bool true))) o9 o10 o11 o12 o13)=some (.nx,lE f (TO ts) (gD g.us) (Wl g.wt) g.pl (some (It k)) (some (.fz (.bool true))) o9 (some (It (fw f.rows k g.pl))) o11 o12 o13):=ao (ae (ρ3:=lE f (TO ts) (gD g.us) (Wl g.wt) g.pl (some (It k)) (some (.fz (.bool true))) o9 o10 o11 o12 o13) rfl rfl (tL (n:=n) hk) rfl) rfl rfl rfl
  have s2:dw (pl.pg.ct (n + 1)) (.app 3 (.lst (.cons (.nm 7) (.cons (.lst .nil) (.cons (.nm 10) .nil))))) (lE f (TO ts) (gD g.us) (Wl g.wt) g.pl (some (It k)) (some (.fz (.bool true))) o9 (some (It (fw f.rows k g.pl))) o11 o12 o13)=some (.nx,lE f (TO (ts++[((k:Int),[],fw f.rows k g.pl)])) (gD g.us) (Wl g.wt) g.pl (some (It k)) (some (.fz (.bool true))) o9 (some (It (fw f.rows k g.pl))) o11 o12 o13):=dJ (z:=tO ((k:Int),[],fw f.rows k g.pl)) (xs:=ts.map tO) (ρ2:=lE f (TO ts) (gD g.us) (Wl g.wt) g.pl (some (It k)) (some (.fz (.bool true))) o9 (some (It (fw f.rows k g.pl))) o11 o12 o13) rfl rfl rfl rfl (by rw[List.length_map];omega) (by rw[lE,fD];rfl)
  have s5:dw (pl.pg.ct (n + 1)) (.set 6 (.bop .add (.nm 10) (.bop .mul (.int 2) (.pl 3 [.ix (1),.ix (-1)])))) (lE f (TO (ts++[((k:Int),ns,fw f.rows k g.pl)])) (gD (g.us++g.wt.map fun q=>(q.1,(ts.length:Int)))) (Wl []) g.pl (some (It k)) (some (.fz (.bool true))) o9 (some (It (fw f.rows k g.pl))) o11' o12' o13)=some (.nx,lE f (TO (ts++[((k:Int),ns,fw f.rows k g.pl)])) (gD (g.us++g.wt.map fun q=>(q.1,(ts.length:Int)))) (Wl []) (fw f.rows k g.pl + 2 * (ns.length:Int)) (some (It k)) (some (.fz (.bool true))) o9 (some (It (fw f.rows k g.pl))) o11' o12' o13):=ao (af rfl (af (d:=.int (2 * (ns.length:Int))) rfl (zg v8 (ba ns) ow) rfl rfl (dq (.inl (by decide)))) rfl rfl rfl) rfl rfl rfl
  refine⟨ts++[((k:Int),ns,fw f.rows k g.pl)],some (It (fw f.rows k g.pl)),o11',o12',aQ (t_andT ht rfl) (ab s1 (ab s2 (ab (eB (ρ1:=lE f (TO (ts++[((k:Int),[],fw f.rows k g.pl)])) (gD g.us) (wF g.wt) g.pl (some (It k)) (some (.fz (.bool true))) o9 (some (It (fw f.rows k g.pl))) o11 o12 o13) (dM rfl (jV rfl (gf _) rfl) rfl) e) (ab (ρ1:=lE f (TO (ts++[((k:Int),ns,fw f.rows k g.pl)])) (gD (g.us++g.wt.map fun q=>(q.1,(ts.length:Int)))) (Wl []) g.pl (some (It k)) (some (.fz (.bool true))) o9 (some (It (fw f.rows k g.pl))) o11' o12' o13) rfl (ab s5 ?_))))),?_⟩
  ·unfold qd
   rw[hns,tl];rfl
  ·unfold qd
   rw[hns]
   exact⟨by rw[aM,T.gs],by rw[aM,T.ws],fun t h=>by rw[List.getLast?_append]at h;obtain rfl:((k:Int),ns,fw f.rows k g.pl)=t:=Option.some.inj h;rfl⟩
 ·rw[if_neg hdu]
  have hdf:due f g k=false:=by simpa using hdu
  rw[hdf]at hd
  refine⟨ts,o10,o11,o12,aG ?_ rfl,T⟩
  cases hw:g.wt.isEmpty with
  | true=>rw[hw]at ht;exact eK ht
  | false =>
   rw[hw]at ht hd
   obtain rfl:d8=false:=hd
   exact t_andT ht rfl
end
section
variable{C:Ct}{c:E}{i j k:Nat}{ps qs:List Acc}{ss:Ss}{ρ ρ1:DEnv}{r:Option (Fl × DEnv)}{p q:OD × List Nat × OD}{ys:List OD}{d:PyData}{z:Fl × DEnv}
theorem zy(h:bf C c ρ=some (false,ρ1))(hg:j≠i/\k≠i/\j≠k/\j < ρ1.length/\k < ρ1.length)(hk:aD C ss ((ρ1.set j (some (.lst []))).set k (some (.fz (.int 0))))=r):aD C (.alo c i ps qs j k ss) ρ=r:=bs h (bg hg hk)
theorem zz(h:bf C c ρ=some (true,ρ1))(hg:j≠i/\k≠i/\j≠k/\j < ρ1.length/\k < ρ1.length)(hp:ah ρ1 i ps=some p)(hy:p.2.2=.lst ys)(hq:ah ρ1 i qs=some q)(hd:q.2.2=.fz d)(ho:HolOk (fun u=>aD C ss (((ρ1.set i (some (OD.put (.hole u) p.2.1 p.1))).set j (some (.lst ys))).set k (some (.fz d)))) i p.2.1 j z):aD C (.alo c i ps qs j k ss) ρ=some z:=bs h (bg hg (bs hp (bs (show m7 p.2.2=some ys by rw[hy];rfl) (bs hq (bs (show m6 q.2.2=some d by rw[hd];rfl) (holRun_is ho))))))
end
section
variable{n k:Nat}{f:Cf}{xs:List OD}{us wt:List (Int × Int)}{p b:Int}{w:List Int}{o7 o8 o9 o10 o11 o12 o13:Option OD}
abbrev aB:Ss:=match lB with | .cons _ (.cons _ (.cons _ (.cons _ (.cons (.iff _ (.alo _ _ _ _ _ _ s) _) _))))=>s | _=>.nil
abbrev cE(f:Cf)(xs:List OD)(us wt:List (Int × Int))(p:Int)(k:Nat)(o8 o9:Option OD)(b:Int)(o11 o12:Option OD)(w:List Int):DEnv:=lE f (.lst xs) (gD us) (Wl wt) p (some (It k)) o8 o9 (some (It b)) o11 o12 (some (Il w))
theorem wV(hG:Gt f k):bf (pl.pg.ct n) (.cmp .inn (.ix (.ix (.nm 0) (.nm 7)) (.int 2)) (.nm 13)) (cE f xs us wt p k o8 o9 b o11 o12 w)=some (decide (nu f k∈w),cE f xs us wt p k o8 o9 b o11 o12 w):=az (aw (dy:=.list (w.map PyData.int)) (j3 rfl rfl hG) rfl rfl (ba _) inL)
theorem oH(hG:Gt f k):bf (pl.pg.ct n) (.cmp .nin (.ix (.ix (.nm 0) (.nm 7)) (.int 2)) (.nm 13)) (cE f xs us wt p k o8 o9 b o11 o12 w)=some (!decide (nu f k∈w),cE f xs us wt p k o8 o9 b o11 o12 w):=az (aw (dy:=.list (w.map PyData.int)) (j3 rfl rfl hG) rfl rfl (ba _) ninL)
theorem tQ:bf (pl.pg.ct n) (.cmp .le (.bop .sub (.nm 6) (.nm 10)) (.ix (.nm 2) (.int 0))) (cE f xs us wt p k o8 o9 b o11 o12 w)=some (decide (p - b≤f.r0),cE f xs us wt p k o8 o9 b o11 o12 w):=az (aw (dx:=.int (p - b)) (dy:=.int f.r0) rfl (aV rfl rfl rfl (cX bO)) rfl rfl rfl)
theorem oI:bf (pl.pg.ct n) (.cmp .le (.bop .sub (.bop .add (.nm 6) (.int 2)) (.nm 10)) (.ix (.nm 2) (.int 0))) (cE f xs us wt p k o8 o9 b o11 o12 w)=some (decide (p + 2 - b≤f.r0),cE f xs us wt p k o8 o9 b o11 o12 w):=az (aw (dx:=.int (p + 2 - b)) (dy:=.int f.r0) rfl (aV rfl rfl rfl (cX bO)) rfl rfl rfl)
theorem tR:bf (pl.pg.ct n) (.nen 3) (cE f xs us wt p k o8 o9 b o11 o12 w)=some (!xs.isEmpty,cE f xs us wt p k o8 o9 b o11 o12 w):=rfl
theorem wW(hf:(k:Int) ∉ us.map (·.1))(hl:us.length < 1000):dw (pl.pg.ct n) (.sdk 4 (.nm 7) (.bop .sub (.ln 3) (.int 1))) (cE f xs us wt p k o8 o9 b o11 o12 w)=some (.nx,cE f xs (us++[((k:Int),(xs.length:Int) - 1)]) wt p k o8 o9 b o11 o12 w):=tN (d:=.int ((xs.length:Int) - 1)) (af (Cn (xs:=xs) rfl) rfl rfl rfl rfl) rfl rfl rfl (by rw[List.length_map];omega) (fA hf) rfl
theorem Cp(hG:Gt f k)(hf:(k:Int) ∉ us.map (·.1))(hl:us.length < 1000)(h1:nu f k∈w)(h2:p - b≤f.r0):aD (pl.pg.ct n) aB (cE f xs us wt p k o8 o9 b o11 o12 w)=some (.nx,cE f xs (us++[((k:Int),(xs.length:Int) - 1)]) wt p k o8 o9 b o11 o12 w):=by
 have e1:=wV (n:=n) (xs:=xs) (us:=us) (wt:=wt) (p:=p) (o8:=o8) (o9:=o9) (b:=b) (o11:=o11) (o12:=o12) (w:=w) hG
 have e2:=tQ (n:=n) (f:=f) (xs:=xs) (us:=us) (wt:=wt) (p:=p) (k:=k) (o8:=o8) (o9:=o9) (b:=b) (o11:=o11) (o12:=o12) (w:=w)
 rw[decide_eq_true h1]at e1
 rw[decide_eq_true h2]at e2
 exact ab (aQ (t_andT e1 e2) (ab (wW hf hl) rfl)) rfl
theorem Cq(hG:Gt f k)(h:¬ (nu f k∈w/\p - b≤f.r0)):bf (pl.pg.ct n) (.and (.cmp .inn (.ix (.ix (.nm 0) (.nm 7)) (.int 2)) (.nm 13)) (.cmp .le (.bop .sub (.nm 6) (.nm 10)) (.ix (.nm 2) (.int 0)))) (cE f xs us wt p k o8 o9 b o11 o12 w)=some (false,cE f xs us wt p k o8 o9 b o11 o12 w):=by
 have e1:=wV (n:=n) (xs:=xs) (us:=us) (wt:=wt) (p:=p) (o8:=o8) (o9:=o9) (b:=b) (o11:=o11) (o12:=o12) (w:=w) hG
 have e2:=tQ (n:=n) (f:=f) (xs:=xs) (us:=us) (wt:=wt) (p:=p) (k:=k) (o8:=o8) (o9:=o9) (b:=b) (o11:=o11) (o12:=o12) (w:=w)
 by_cases hm:nu f k∈w
 ·rw[decide_eq_true hm]at e1
  rw[decide_eq_false fun z=>h ⟨hm,z⟩]at e2
  exact t_andT e1 e2
 ·rw[decide_eq_false hm]at e1
  exact eK e1
theorem Cr(hG:Gt f k)(hf:(k:Int) ∉ us.map (·.1))(hl:us.length < 1000)(hwl:w.length < 1000)(hx:xs≠[])(h1:nu f k ∉ w)(h2:p + 2 - b≤f.r0):aD (pl.pg.ct n) aB (cE f xs us [] p k o8 o9 b o11 o12 w)=some (.nx,cE f xs (us++[((k:Int),(xs.length:Int) - 1)]) [] (p + 2) k o8 o9 b o11 o12 (w++[nu f k])):=by
 have e0:=tR (n:=n) (f:=f) (xs:=xs) (us:=us) (wt:=[]) (p:=p) (k:=k) (o8:=o8) (o9:=o9) (b:=b) (o11:=o11) (o12:=o12) (w:=w)
 have e1:=oH (n:=n) (xs:=xs) (us:=us) (wt:=[]) (p:=p) (o8:=o8) (o9:=o9) (b:=b) (o11:=o11) (o12:=o12) (w:=w) hG
 have e2:=oI (n:=n) (f:=f) (xs:=xs) (us:=us) (wt:=[]) (p:=p) (k:=k) (o8:=o8) (o9:=o9) (b:=b) (o11:=o11) (o12:=o12) (w:=w)
 have e3:=oG (n:=n) (f:=f) (x3:=.lst xs) (x4:=gD us) (wt:=[]) (p:=p) (o7:=some (It k)) (o8:=o8) (o9:=o9) (o10:=some (It b)) (o11:=o11) (o12:=o12) (o13:=some (Il w))
 rw[show xs.isEmpty=false by cases xs with | nil=>exact absurd rfl hx | cons _ _=>rfl]at e0
 rw[decide_eq_false h1]at e1
 rw[decide_eq_true h2]at e2
 refine ab (aG (Cq hG fun z=>h1 z.1) (ab (aQ (t_andT e0 (t_andT e1 (t_andT e3 e2))) (ab (dJ (xs:=w.map It) (ρ3:=cE f xs us [] p k o8 o9 b o11 o12 (w++[nu f k])) rfl (j3 rfl rfl hG) rfl rfl (by rw[List.length_map];omega) ?_) (ab (wW hf hl) (ab rfl rfl)))) rfl)) rfl
 show _=lE f (.lst xs) (gD us) (Wl []) p (some (It k)) o8 o9 (some (It b)) o11 o12 (some (Il (w++[nu f k])))
 rw[fv];rfl
theorem tS(hG:Gt f k)(hl:wt.length < 1000)(h1:¬ (nu f k∈w/\p - b≤f.r0))(h2:¬ (xs≠[]/\nu f k ∉ w/\wt=[]/\p + 2 - b≤f.r0)):aD (pl.pg.ct n) aB (cE f xs us wt p k o8 o9 b o11 o12 w)=some (.nx,cE f xs us (wt++[((k:Int),p)]) p k o8 o9 b o11 o12 w):=by
 have e0:=tR (n:=n) (f:=f) (xs:=xs) (us:=us) (wt:=wt) (p:=p) (k:=k) (o8:=o8) (o9:=o9) (b:=b) (o11:=o11) (o12:=o12) (w:=w)
 have e1:=oH (n:=n) (xs:=xs) (us:=us) (wt:=wt) (p:=p) (o8:=o8) (o9:=o9) (b:=b) (o11:=o11) (o12:=o12) (w:=w) hG
 have e2:=oI (n:=n) (f:=f) (xs:=xs) (us:=us) (wt:=wt) (p:=p) (k:=k) (o8:=o8) (o9:=o9) (b:=b) (o11:=o11) (o12:=o12) (w:=w)
 have e3:=oG (n:=n) (f:=f) (x3:=.lst xs) (x4:=gD us) (wt:=wt) (p:=p) (o7:=some (It k)) (o8:=o8) (o9:=o9) (o10:=some (It b)) (o11:=o11) (o12:=o12) (o13:=some (Il w))
 have ht:bf (pl.pg.ct n) (.and (.nen 3) (.and (.cmp .nin (.ix (.ix (.nm 0) (.nm 7)) (.int 2)) (.nm 13)) (.and (.cmp .eq (.nm 5) (.lst .nil)) (.cmp .le (.bop .sub (.bop .add (.nm 6) (.int 2)) (.nm 10)) (.ix (.nm 2) (.int 0)))))) (cE f xs us wt p k o8 o9 b o11 o12 w)=some (false,cE f xs us wt p k o8 o9 b o11 o12 w):=by
  cases hx:xs with
  | nil=>rw[hx]at e0;exact eK e0
  | cons x0 xr =>
   rw[<- hx]
   rw[hx]at e0
   rw[<- hx]at e0
   refine t_andT (ρ1:=cE f xs us wt p k o8 o9 b o11 o12 w) (by rw[hx]at e0 ⊢;exact e0) ?_
   by_cases hm:nu f k∈w
   ·rw[decide_eq_true hm]at e1;exact eK e1
   ·rw[decide_eq_false hm]at e1
    refine t_andT e1 ?_
    cases hw:wt with
    | cons _ _=>rw[hw]at e3;exact eK e3
    | nil =>
     rw[hw]at e3 e2
     refine t_andT e3 ?_
     rw[decide_eq_false fun z=>h2 ⟨by rw[hx];exact List.cons_ne_nil _ _,hm,hw,z⟩]at e2
     exact e2
 refine ab (aG (Cq hG h1) (ab (aG ht (ab (dJ (xs:=(wt.map Wq).map OD.fz) (z:=.fz (Wq ((k:Int),p))) (ρ2:=cE f xs us wt p k o8 o9 b o11 o12 w) (ρ3:=cE f xs us (wt++[((k:Int),p)]) p k o8 o9 b o11 o12 w) rfl rfl rfl rfl (by rw[List.length_map,List.length_map];omega) ?_) rfl)) rfl)) rfl
 show _=lE f (.lst xs) (gD us) (Wl (wt++[((k:Int),p)])) p (some (It k)) o8 o9 (some (It b)) o11 o12 (some (Il w))
 rw[oz];rfl
end
section
variable{ts:List Tr}{a b m z:OD}
theorem wX:(OD.lst (ts.map tO++[.lst [a,m,b]])).kids[ts.length]?=some (.lst [a,m,b]):=by
 show (ts.map tO++[.lst [a,m,b]])[ts.length]?=_
 have:=List.getElem?_concat_length (l:=ts.map tO) (a:=.lst [a,m,b])
 rwa [List.length_map]at this
theorem Em:(OD.lst (ts.map tO++[.lst [a,m,b]])).at [ts.length,1]=some m:=by
 simp only[OD.at,wX];rfl
theorem Cu:OD.put z [ts.length,1] (.lst (ts.map tO++[.lst [a,m,b]]))=.lst (ts.map tO++[.lst [a,z,b]]):=by
 simp only[OD.put,wX,OD.setKid]
 have e2:(OD.lst [a,m,b]).kids[1]?=some m:=rfl
 simp only[e2]
 have e3:(ts.map tO).length=ts.length:=List.length_map _
 rw[List.set_append_right _ _ (by rw[e3];exact Nat.le_refl _),e3,Nat.sub_self];rfl
end
section
variable{n k:Nat}{f:Cf}{ts:List Tr}{o8 o9 o10 o11 o12 o13:Option OD}
abbrev aS:Ss:=match lB with | .cons _ (.cons _ (.cons _ (.cons _ (.cons (.iff _ s _) _))))=>s | _=>.nil
abbrev hO(ts:List Tr)(t:Tr)(u:V):List OD:=ts.map tO++[.lst [It t.1,.hole u,It t.2.2]]
theorem mG{t:Tr}{us us' wt wt':List (Int × Int)}{p p':Int}{w':List Int}(h:∀u,aD (pl.pg.ct n) aB (cE f (hO ts t u) us wt p k o8 o9 t.2.2 o11 o12 t.2.1)=some (.nx,cE f (hO ts t u) us' wt' p' k o8 o9 t.2.2 o11 o12 w')):aD (pl.pg.ct n) aS (lE f (TO (ts++[t])) (gD us) (Wl wt) p (some (It k)) o8 o9 o10 o11 o12 o13)=some (.nx,lE f (TO (ts++[(t.1,w',t.2.2)])) (gD us') (Wl wt') p' (some (It k)) o8 o9 (some (It t.2.2)) o11 o12 none):=by
 refine zz (ρ1:=lE f (TO (ts++[t])) (gD us) (Wl wt) p (some (It k)) o8 o9 o10 o11 o12 o13) (ys:=t.2.1.map It) (d:=.int t.2.2) ?_ ⟨by decide,by decide,by decide,by show 13 < 14;decide,by show 10 < 14;decide⟩ v8 rfl El rfl fun u=>⟨cE f (hO ts t u) us' wt' p' k o8 o9 t.2.2 o11 o12 w',?_,.lst (hO ts t u),Il w',rfl,Em,rfl,by decide,?_⟩
 ·show some (!((ts++[t]).map tO).isEmpty,_)=_
  rw[aM]
  cases ts.map tO<;>rfl
 ·show aD (pl.pg.ct n) aB [some (Rl f.rows),some (Lo f),some (Re f),some (OD.put (.hole u) [ts.length,1] (TO (ts++[t]))),some (gD us),some (Wl wt),some (It p),some (It k),o8,o9,some (It t.2.2),o11,o12,some (Il t.2.1)]=_
  rw[tM]
  exact h u
 ·show _=[some (Rl f.rows),some (Lo f),some (Re f),some (OD.put (Il w') [ts.length,1] (.lst (hO ts t u))),some (gD us'),some (Wl wt'),some (It p'),some (It k),o8,o9,some (It t.2.2),o11,o12,none]
  rw[Cu,lE,fD]
theorem zA{g g2:G}{r:R}(hN:f.rows.length≤200)(hr:f.rows[k]?=some r)(hg:r.gr=true)(I:Iv f g k (k + 1))(T:Tl g ts)(C:Come f g k g2):∃ts' o10' o13',aD (pl.pg.ct n) aS (lE f (TO ts) (gD g.us) (Wl g.wt) g.pl (some (It k)) o8 o9 o10 o11 o12 o13)=some (.nx,lE f (TO ts') (gD g2.us) (Wl g2.wt) g2.pl (some (It k)) o8 o9 o10' o11 o12 o13')/\Tl g2 ts':=by
 have hk:k < f.rows.length:=(List.getElem?_eq_some_iff.mp hr).1
 have hG:Gt f k:=by obtain⟨x,y,rfl⟩:=gr_st hg;exact⟨k,x,y,rfl,hr⟩
 have il:=I.len
 have fresh:(k:Int) ∉ g.us.map (·.1):=fun h=>by
  have:(k:Int)∈gIx 0 (f.rows.take k):=by rw[<- I.ix];exact List.mem_append_left _ h
  obtain⟨j,_,e1,e2,_⟩:=gIx_mem this
  have:=(List.getElem?_eq_some_iff.mp e2).1
  rw[List.length_take]at this
  omega
 rcases List.eq_nil_or_concat ts with e | ⟨ts0,t,e⟩
 ·subst e
  have hw:g.words=[]:=T.ws.symm
  have no:∀{ws:List (List Int)} {w:List Int},g.words≠ws++[w]:=fun h=>by rw[hw]at h;simp at h
  cases C with
  | put h=>exact absurd h no
  | got h=>exact absurd h no
  | wait h1 h2 =>
   refine⟨[],some (It 0),some (Il []),zy (ρ1:=lE f (TO []) (gD g.us) (Wl g.wt) g.pl (some (It k)) o8 o9 o10 o11 o12 o13) rfl ⟨by decide,by decide,by decide,by show 13 < 14;decide,by show 10 < 14;decide⟩ (tS (xs:=[]) (w:=[]) (b:=0) hG (by omega) (fun z=>absurd z.1 List.not_mem_nil) fun z=>z.1 rfl),T.gs,T.ws,T.bg⟩
 ·rw[List.concat_eq_append]at e
  subst e
  have hb:t.2.2=g.bg:=T.bg t (by rw[List.getLast?_append];rfl)
  have hw:g.words=ts0.map (·.2.1)++[t.2.1]:=by rw[<- T.ws,aM]
  have hgs:g.gaps=ts0.map (·.1)++[t.1]:=by rw[<- T.gs,aM]
  have hwl:t.2.1.length < 1000:=by have:=I.words_lt t.2.1 (by rw[hw];exact List.mem_append_right _ List.mem_cons_self);omega
  have hlen:∀u,((hO ts0 t u).length:Int) - 1=(g.gaps.length:Int) - 1:=fun u=>by rw[hgs,List.length_append,List.length_append,List.length_map,List.length_map];rfl
  have hne:∀u,hO ts0 t u≠[]:=fun u=>by simp
  have same:∀{ws:List (List Int)} {w:List Int},g.words=ws++[w]->ws=ts0.map (·.2.1)/\w=t.2.1:=fun h=>by
   obtain⟨a,b⟩:=List.append_inj' (h.symm.trans hw) rfl
   exact⟨a,List.singleton_inj.mp b⟩
  cases C with
  | @put ws w h hwt hn h0 =>
   obtain⟨rfl,rfl⟩:=same h
   refine⟨ts0++[(t.1,t.2.1++[nu f k],t.2.2)],some (It t.2.2),none,mG fun u=>?_,by rw[aM];exact hgs.symm,by rw[aM],fun t' h'=>?_⟩
   ·have:=Cr (n:=n) (xs:=hO ts0 t u) (us:=g.us) (p:=g.pl) (o8:=o8) (o9:=o9) (b:=t.2.2) (o11:=o11) (o12:=o12) (w:=t.2.1) hG fresh (by omega) hwl (hne u) hn (by rw[hb];exact h0)
    rw[hlen u]at this
    rw[hwt]
    exact this
   ·rw[List.getLast?_append]at h'
    obtain rfl:(t.1,t.2.1++[nu f k],t.2.2)=t':=Option.some.inj h'
    exact hb
  | @got ws w h hn h0 =>
   obtain⟨rfl,rfl⟩:=same h
   refine⟨ts0++[(t.1,t.2.1,t.2.2)],some (It t.2.2),none,mG fun u=>?_,T.gs,T.ws,T.bg⟩
   have:=Cp (n:=n) (xs:=hO ts0 t u) (us:=g.us) (wt:=g.wt) (p:=g.pl) (o8:=o8) (o9:=o9) (b:=t.2.2) (o11:=o11) (o12:=o12) (w:=t.2.1) hG fresh (by omega) hn (by rw[hb];exact h0)
   rw[hlen u]at this
   exact this
  | wait h1 h2 =>
   refine⟨ts0++[(t.1,t.2.1,t.2.2)],some (It t.2.2),none,mG fun u=>?_,T.gs,T.ws,T.bg⟩
   exact tS (xs:=hO ts0 t u) hG (by omega) (by rw[hb];exact h2 _ _ hw) fun z=>h1 _ _ hw ⟨z.2.2.1,z.2.1,by rw[<- hb];exact z.2.2.2⟩
end
section
variable{n:Nat}{f:Cf}
abbrev lS(n:Nat)(d:PyData)(ρ':DEnv):Option (Fl × DEnv):=(bF (.nm 7) (.fz d) ρ').bind fun ρ1=>aD (pl.pg.ct n) lB ρ1
abbrev gE(f:Cf)(g:G)(ts:List Tr)(o7 o8 o9 o10 o11 o12 o13:Option OD):DEnv:=lE f (TO ts) (gD g.us) (Wl g.wt) g.pl o7 o8 o9 o10 o11 o12 o13
abbrev lT:Ss:=match lB with | .cons _ (.cons _ (.cons _ t))=>t | _=>.nil
theorem tT{k:Nat}{g:G}{ts:List Tr}{o7 o8 o9 o10 o11 o12 o13:Option OD}(hN:f.rows.length≤200)(hk:k≤f.rows.length)(I:Iv f g k k)(T:Tl g ts):∃ts' o8' o9' o10' o11' o12',Tl (laysG f g k) ts'/\∀r,aD (pl.pg.ct (n + 2)) lT (gE f (laysG f g k) ts' (some (It k)) o8' o9' o10' o11' o12' o13)=r->lS (n + 2) (.int k) (gE f g ts o7 o8 o9 o10 o11 o12 o13)=r:=by
 obtain⟨d8,o9',e2,hd⟩:=Cm (n:=n) (f:=f) (x3:=TO ts) (x4:=gD g.us) (wt:=g.wt) (p:=g.pl) (o9:=o9) (o10:=o10) (o11:=o11) (o12:=o12) (o13:=o13) hk rfl rfl
 obtain⟨ts',o10',o11',o12',e3,T'⟩:=zx (n:=n + 1) (f:=f) (o9:=o9') (o10:=o10) (o11:=o11) (o12:=o12) (o13:=o13) hk hN I T hd
 refine⟨ts',some (.fz (.bool d8)),o9',o10',o11',o12',T',fun r h=>?_⟩
 exact bs (x:=gE f g ts (some (It k)) o8 o9 o10 o11 o12 o13) rfl (ab (ao (ρ3:=gE f g ts (some (It k)) (some (.fz (.bool (decide ((k:Int)=f.rows.length))))) o9 o10 o11 o12 o13) wU rfl rfl rfl) (ab e2 (ab e3 h)))
theorem wY{k:Nat}{g:G}{ts:List Tr}{o8 o9 o10 o11 o12 o13:Option OD}:bf (pl.pg.ct n) (.cmp .eq (.nm 7) (.blt .len (.cons (.nm 0) .nil))) (gE f g ts (some (It k)) o8 o9 o10 o11 o12 o13)=some (decide ((k:Int)=f.rows.length),gE f g ts (some (It k)) o8 o9 o10 o11 o12 o13):=az wU
theorem zB{g:G}{ts:List Tr}{o7 o8 o9 o10 o11 o12 o13:Option OD}(hN:f.rows.length≤200)(I:Iv f g f.rows.length f.rows.length)(T:Tl g ts):∃ts' p7 p8 p9 p10 p11 p12 p13,lS (n + 2) (.int f.rows.length) (gE f g ts o7 o8 o9 o10 o11 o12 o13)=some (.bk,gE f (laysG f g f.rows.length) ts' p7 p8 p9 p10 p11 p12 p13)/\Tl (laysG f g f.rows.length) ts':=by
 obtain⟨ts',o8',o9',o10',o11',o12',T',h⟩:=tT (n:=n) (f:=f) (o7:=o7) (o8:=o8) (o9:=o9) (o10:=o10) (o11:=o11) (o12:=o12) (o13:=o13) hN (Nat.le_refl _) I T
 have ht:=wY (n:=n + 2) (f:=f) (k:=f.rows.length) (g:=laysG f g f.rows.length) (ts:=ts') (o8:=o8') (o9:=o9') (o10:=o10') (o11:=o11') (o12:=o12') (o13:=o13)
 rw[decide_eq_true rfl]at ht
 exact⟨ts',_,_,_,_,_,_,_,h _ (bs (aQ ht rfl) rfl),T'⟩
theorem zC{k:Nat}{g g2:G}{ts:List Tr}{o7 o8 o9 o10 o11 o12 o13:Option OD}(hN:f.rows.length≤200)(hk:k < f.rows.length)(I:Iv f g k k)(X:Cross f g k g2)(T:Tl g ts):∃ts' p7 p8 p9 p10 p11 p12 p13,lS (n + 2) (.int k) (gE f g ts o7 o8 o9 o10 o11 o12 o13)=some (.nx,gE f (mE g2 (sz f k)) ts' p7 p8 p9 p10 p11 p12 p13)/\Tl (mE g2 (sz f k)) ts':=by
 obtain⟨ts',o8',o9',o10',o11',o12',T',h⟩:=tT (n:=n) (f:=f) (o7:=o7) (o8:=o8) (o9:=o9) (o10:=o10) (o11:=o11) (o12:=o12) (o13:=o13) hN (Nat.le_of_lt hk) I T
 have hr:f.rows[k]?=some f.rows[k]:=List.getElem?_eq_getElem hk
 have ht:=wY (n:=n + 2) (f:=f) (k:=k) (g:=laysG f g k) (ts:=ts') (o8:=o8') (o9:=o9') (o10:=o10') (o11:=o11') (o12:=o12') (o13:=o13)
 rw[decide_eq_false (by omega)]at ht
 have hg:bf (pl.pg.ct (n + 2)) (.call 22 (.cons (.ix (.nm 0) (.nm 7)) .nil)) (gE f (laysG f g k) ts' (some (It k)) o8' o9' o10' o11' o12' o13)=some ((f.rows[k]).gr,gE f (laysG f g k) ts' (some (It k)) o8' o9' o10' o11' o12' o13):=bG (ae (ρ3:=gE f (laysG f g k) ts' (some (It k)) o8' o9' o10' o11' o12' o13) (aa (aV rfl rfl rfl (cW (fu hr))) ag) rfl (om (n:=n + 1) (f.rows[k])) rfl)
 have fin:∀{g':G} {tt:List Tr} {q10 q13:Option OD},dw (pl.pg.ct (n + 2)) (.set 6 (.bop .add (.nm 6) (.call 23 (.cons (.nm 0) (.cons (.nm 1) (.cons (.nm 7) .nil)))))) (gE f g' tt (some (It k)) o8' o9' q10 o11' o12' q13)=some (.nx,gE f (mE g' (sz f k)) tt (some (It k)) o8' o9' q10 o11' o12' q13):=fun {g' tt q10 q13}=>ao (af rfl (ae (ρ3:=gE f g' tt (some (It k)) o8' o9' q10 o11' o12' q13) rfl rfl (oF (n:=n) hr) rfl) rfl rfl rfl) rfl rfl rfl
 cases hb:(f.rows[k]).gr with
 | false =>
  rw[hb]at hg
  have hc:=X.no (by rw[hr];exact hb)
  subst hc
  exact⟨ts',_,_,_,_,_,_,_,h _ (ab (aG ht rfl) (ab (aG hg rfl) (ab fin rfl))),T'.gs,T'.ws,T'.bg⟩
 | true =>
  rw[hb]at hg
  obtain⟨tt,q10,q13,e,T2⟩:=zA (n:=n + 2) (o8:=o8') (o9:=o9') (o10:=o10') (o11:=o11') (o12:=o12') (o13:=o13) hN hr hb I.lays T' (X.gr (by rw[hr];exact hb))
  exact⟨tt,_,_,_,_,_,_,_,h _ (ab (aG ht rfl) (ab (aQ hg e) (ab fin rfl))),T2.gs,T2.ws,T2.bg⟩
theorem Cv{k:Nat}{g g0:G}(hN:f.rows.length≤200)(P:Path f k g g0):∀{m:Nat} {ts:List Tr} {o7 o8 o9 o10 o11 o12 o13:Option OD},k + m=f.rows.length->Tl g ts->∃ts' p7 p8 p9 p10 p11 p12 p13,cv (lS (n + 2)) (ck k (m + 1)) (gE f g ts o7 o8 o9 o10 o11 o12 o13)=some (.nx,gE f (laysG f g0 f.rows.length) ts' p7 p8 p9 p10 p11 p12 p13)/\Tl (laysG f g0 f.rows.length) ts':=by
 induction P with
 | nil hk I =>
  intro m ts o7 o8 o9 o10 o11 o12 o13 h T
  subst hk
  obtain rfl:m=0:=by omega
  obtain⟨ts',p7,p8,p9,p10,p11,p12,p13,e,T'⟩:=zB (n:=n) (o7:=o7) (o8:=o8) (o9:=o9) (o10:=o10) (o11:=o11) (o12:=o12) (o13:=o13) hN I T
  refine⟨ts',p7,p8,p9,p10,p11,p12,p13,?_,T'⟩
  rw[cN]
  exact bs e rfl
 | cons hk I X P ih =>
  intro m ts o7 o8 o9 o10 o11 o12 o13 h T
  obtain⟨m',rfl⟩:∃m',m=m' + 1:=⟨m - 1,by omega⟩
  obtain⟨ts',p7,p8,p9,p10,p11,p12,p13,e,T'⟩:=zC (n:=n) (o7:=o7) (o8:=o8) (o9:=o9) (o10:=o10) (o11:=o11) (o12:=o12) (o13:=o13) hN hk I X T
  obtain⟨ts2,q7,q8,q9,q10,q11,q12,q13,e',T2⟩:=ih (m:=m') (o7:=p7) (o8:=p8) (o9:=p9) (o10:=p10) (o11:=p11) (o12:=p12) (o13:=p13) (by omega) T'
  refine⟨ts2,q7,q8,q9,q10,q11,q12,q13,?_,T2⟩
  rw[cN]
  exact bs e e'
end
abbrev tD(t:Tr):PyData:=.list [.int t.1,.list (t.2.1.map PyData.int),.int t.2.2]
theorem oJ:∀ts:List Tr,OD.dats (ts.map tO)=some (ts.map tD)
 | []=>rfl
 | t::ts=>by
  have e:(tO t).dat=some (tD t):=by simp only[tO,OD.dat,OD.dats,dats_Il1]
  rw[List.map_cons,OD.dats,e,oJ ts];rfl
where dats_Il1 {w:List Int}:OD.dats (w.map It)=some (w.map PyData.int):=by rw[<- eE,ft]
theorem zD(ts:List Tr):(TO ts).dat=some (.list (ts.map tD)):=by rw[TO,OD.dat,oJ]
theorem oK{C:Ct}:∀{ts:List Tr} {out:List PyData} {o0 o1 o2:Option OD},∃ρ',bc (bj C (.tp [0,1,2]) .none (.tup (.cons (.nm 0) (.cons (.bnw .tuple (.nm 1)) .nil)))) (ts.map tD) out [o0,o1,o2]=some (out++(ts.map fun t=>Po (t.1,t.2.1)),ρ')
 | [],out,o0,o1,o2=>⟨[o0,o1,o2],by simp only[List.map_nil,List.append_nil];rfl⟩
 | t::ts,out,o0,o1,o2=>by
  obtain⟨ρ',e⟩:=oK (C:=C) (ts:=ts) (out:=out++[Po (t.1,t.2.1)]) (o0:=some (It t.1)) (o1:=some (.fz (.list (t.2.1.map PyData.int)))) (o2:=some (It t.2.2))
  refine⟨ρ',bs (x:=([Po (t.1,t.2.1)],[some (It t.1),some (.fz (.list (t.2.1.map PyData.int))),some (It t.2.2)])) (pZ rfl (dH (z:=.fz (Po (t.1,t.2.1))) (aa rfl (aa (nW rfl rfl) ag)) rfl rfl rfl) rfl) ?_⟩
  rw[List.append_assoc]at e
  exact e
theorem oM{C:Ct}{us:List (Int × Int)}(nd:(us.map (·.1)).Nodup):∀{vs:List (Int × Int)} {i:Nat} {out:List PyData} {o:Option OD},us.drop i=vs->∃o',bc (bj C (.nm 0) .none (.pg 1 [.key 0])) ((vs.map (·.1)).map PyData.int) out [o,some (gD us)]=some (out++(vs.map (·.2)).map PyData.int,[o',some (gD us)])
 | [],i,out,o,_=>⟨o,by simp only[List.map_nil,List.append_nil];rfl⟩
 | v::vs,i,out,o,h=>by
  have hi:us[i]?=some v:=by
   have:=congrArg (fun l=>l[0]?) h
   simp only[List.getElem?_drop,Nat.add_zero]at this
   exact this
  have ht:us.drop (i + 1)=vs:=by
   have:=congrArg List.tail h
   rw[List.tail_drop]at this
   exact this
  obtain⟨o',e⟩:=oM (C:=C) nd (vs:=vs) (out:=out++[.int v.2]) (o:=some (It v.1)) ht
  have hp:ah [some (It v.1),some (gD us)] 1 [.key 0]=some (gD us,[i],It v.2):=bs (x:=(gD us,[],gD us)) rfl (bs (x:=i) (find_key nd hi) (bs (x:=It v.2) (by show (us.map fun u=>It u.2)[i]?=_;rw[List.getElem?_map,hi];rfl) rfl))
  refine⟨o',bs (x:=([.int v.2],[some (It v.1),some (gD us)])) (pZ rfl (bX hp rfl) rfl) ?_⟩
  rw[List.append_assoc]at e
  exact e
theorem oN:∀{rs:List R} {i:Int},(gIx i rs).Pairwise (·≤·)
 | [],i=>List.Pairwise.nil
 | r::rs,i=>by
  have ih:=oN (rs:=rs) (i:=i + 1)
  unfold gIx
  split
  ·refine List.pairwise_cons.mpr ⟨fun a ha=>?_,ih⟩
   obtain⟨j,_,e,_⟩:=gIx_mem ha
   omega
  ·exact ih
theorem k9:∀us:List (Int × Int),kD (us.map fun u=>(Sum.inl u.1:Key))=some (us.map (·.1))
 | []=>rfl
 | u::us=>bs (k9 us) rfl
theorem zE{g:G}{ts:List Tr}(T:Tl g ts):(ts.map fun t=>Po (t.1,t.2.1))=(g.gaps.zip g.words).map Po:=by
 rw[<- T.gs,<- T.ws,List.zip_map',List.map_map];rfl
theorem Cw{C:Ct}{ρ:DEnv}{i:Nat}{ks:List Key}{xs:List OD}{ns ms:List Int}(h:ρ[i]?.join=some (.dic ks xs))(hk:kD ks=some ns)(hl:ns.length < 64)(hs:sortI ns=ms):ev C (.sdd i) ρ=some (.val (Il ms),ρ):=bs h (bs rfl (bs hk (bg hl (by rw[hs]))))
theorem zF{n:Nat}{f:Cf}{g g0:G}(hN:f.rows.length≤200)(h60:(f.rows.filter R.gr).length≤60)(hg:g=laysG f g0 f.rows.length)(I:Iv f g f.rows.length (f.rows.length + 1))(P:Path f 0 ⟨0,[],[],0,[],[]⟩ g0):pl.pg.call (n + 3) 24 [Rl f.rows,Lo f,Re f]=some (Pn (g.gaps.zip g.words) (g.us.map (·.2)),[Rl f.rows,Lo f,Re f]):=by
 obtain⟨ts,p7,p8,p9,p10,p11,p12,p13,e,T⟩:=Cv (n:=n) hN P (m:=f.rows.length) (ts:=[]) (o7:=none) (o8:=none) (o9:=none) (o10:=none) (o11:=none) (o12:=none) (o13:=none) (Nat.zero_add _) ⟨rfl,rfl,fun t h=>nomatch h⟩
 have hwt:g.wt=[]:=by rw[hg];exact k8
 rw[<- hg]at e T
 have hu:g.us.map (·.1)=gIx 0 f.rows:=by
  have h1:=I.ix
  rw[hwt,List.map_nil,List.append_nil,List.take_length]at h1
  exact h1
 have hs:sortI (g.us.map (·.1))=g.us.map (·.1):=eU (sortI_perm _) (dX _) (by rw[hu];exact oN)
 have hul:g.us.length≤60:=by have:=congrArg List.length hu;rw[List.length_map,fB]at this;omega
 have gl:=I.gl
 have tl:ts.length=g.gaps.length:=by rw[<- T.gs,List.length_map]
 obtain⟨ρ1,e1⟩:=oK (C:=pl.pg.ct (n + 2)) (ts:=ts) (out:=[]) (o0:=none) (o1:=none) (o2:=none)
 obtain⟨o2,e2⟩:=oM (C:=pl.pg.ct (n + 2)) (us:=g.us) (by rw[hu];exact cM) (vs:=g.us) (i:=0) (out:=[]) (o:=none) rfl
 rw[List.nil_append]at e1 e2
 rw[zE T]at e1
 have hl:(((f.rows.length:Nat):Int) + 1).toNat=f.rows.length + 1:=by omega
 have s0:dw (pl.pg.ct (n + 2)) (.asg (.tp [3,4,5,6]) (.tup (.cons (.lst .nil) (.cons .dnew (.cons (.lst .nil) (.cons (.int 0) .nil)))))) (eF 14 [Rl f.rows,Lo f,Re f])=some (.nx,gE f ⟨0,[],[],0,[],[]⟩ [] none none none none none none none):=rfl
 have a1:ev (pl.pg.ct (n + 2)) (.comp 3 [] (.seq (.nm 3)) (.tp [0,1,2]) .none (.tup (.cons (.nm 0) (.cons (.bnw .tuple (.nm 1)) .nil)))) (gE f g ts p7 p8 p9 p10 p11 p12 p13)=some (.val (.lst (((g.gaps.zip g.words).map Po).map OD.fz)),lE f (.fz (.list (ts.map tD))) (gD g.us) (Wl g.wt) g.pl p7 p8 p9 p10 p11 p12 p13):=cU (ρ2:=lE f (.fz (.list (ts.map tD))) (gD g.us) (Wl g.wt) g.pl p7 p8 p9 p10 p11 p12 p13) (dM rfl (jV rfl (zD _) rfl) rfl) (by rw[List.length_map];omega) rfl e1 unca_nil
 have a2:ev (pl.pg.ct (n + 2)) (.comp 1 [4] (.seq (.sdd 4)) (.nm 0) .none (.pg 1 [.key 0])) (lE f (.fz (.list (ts.map tD))) (gD g.us) (Wl g.wt) g.pl p7 p8 p9 p10 p11 p12 p13)=some (.val (Il (g.us.map (·.2))),lE f (.fz (.list (ts.map tD))) (gD g.us) (Wl g.wt) g.pl p7 p8 p9 p10 p11 p12 p13):=by
  have hd:ev (pl.pg.ct (n + 2)) (.sdd 4) (lE f (.fz (.list (ts.map tD))) (gD g.us) (Wl g.wt) g.pl p7 p8 p9 p10 p11 p12 p13)=some (.val (Il (g.us.map (·.1))),lE f (.fz (.list (ts.map tD))) (gD g.us) (Wl g.wt) g.pl p7 p8 p9 p10 p11 p12 p13):=Cw rfl (k9 g.us) (by rw[List.length_map];omega) hs
  have:=cU (C:=pl.pg.ct (n + 2)) (nt:=1) (fr:=[4]) (it:=.seq (.sdd 4)) (ρ:=lE f (.fz (.list (ts.map tD))) (gD g.us) (Wl g.wt) g.pl p7 p8 p9 p10 p11 p12 p13) (ρ2:=lE f (.fz (.list (ts.map tD))) (gD g.us) (Wl g.wt) g.pl p7 p8 p9 p10 p11 p12 p13) (dM (ds:=(g.us.map (·.1)).map PyData.int) hd (show frz1 _ (.val (Il (g.us.map (·.1))))=some (.list ((g.us.map (·.1)).map PyData.int),_) by show ((Il (g.us.map (·.1))).dat).map _=_;rw[ba];rfl) rfl) (by rw[List.length_map,List.length_map];omega) (zc:=([some (gD g.us)],[some (Rl f.rows),some (Lo f),some (Re f),some (.fz (.list (ts.map tD))),none,some (Wl g.wt),some (It g.pl),p7,p8,p9,p10,p11,p12,p13])) rfl e2 rfl
  rw[eE]at this
  exact this
 exact ai (fn:=F_late_plan) rfl rfl (ab s0 (ab (eB (ρ1:=gE f ⟨0,[],[],0,[],[]⟩ [] none none none none none none none) (fY (n:=(f.rows.length:Int) + 1) (af (dx:=.int f.rows.length) (dy:=.int 1) (bE rfl rfl blen) rfl rfl rfl rfl) rfl (by omega)) (by rw[hl];exact e)) (aH (au (z:=Pn (g.gaps.zip g.words) (g.us.map (·.2))) (dH (zs:=[.lst (((g.gaps.zip g.words).map Po).map OD.fz),Il (g.us.map (·.2))]) (aa a1 (aa a2 ag)) rfl rfl rfl) rfl)))) rfl
abbrev Sm(n:Nat)(d:PyData):Prop:=pl.pg.call (n + 1) 27 [.fz d,.fz d]=some (.fz (.bool true),[.fz d,.fz d])
theorem c_same0{n:Nat}{a:Int}:Sm n (.int a):=by
 have h:ev (pl.pg.ct n) (.cmp .eq (.nm 0) (.nm 1)) [some (It a),some (It a)]=some (.val (.fz (.bool true)),[some (It a),some (It a)]):=aw rfl rfl rfl rfl (show some (decide (a=a))=some true by rw[decide_eq_true rfl])
 exact ai (fn:=mx) rfl rfl (ab (aG rfl rfl) (ab (aG rfl rfl) (ab (aG rfl rfl) (aH (au (mh rfl (mh rfl h)) rfl))))) rfl
theorem lg:∀m:Nat,allB (List.replicate m (.bool true))=some (List.replicate m true)
 | 0=>rfl
 | m + 1=>by rw[List.replicate_succ,allB,lg m];rfl
theorem v9{m:Nat}:zM .all [.list (List.replicate m (.bool true))]=some (.bool true):=by
 show (allB (List.replicate m (.bool true))).bind _=_
 rw[lg]
 show some (PyData.bool ((List.replicate m true).all id))=_
 rw[List.all_replicate];simp
theorem tU{ρ:DEnv}{ds:List PyData}:eh ρ [.val (.lst (ds.map OD.fz))]=some [.list ds]:=by
 have:aN ρ (.val (.lst (ds.map OD.fz)))=some (.list ds):=gb ds
 simp only[eh,this];rfl
theorem oO{n:Nat}:∀{ds out:List PyData} {o0 o1:Option OD},(∀d∈ds,Sm n d)->∃o0' o1',bc (bj (pl.pg.ct (n + 1)) (.tp [0,1]) .none (.call 27 (.cons (.nm 0) (.cons (.nm 1) .nil)))) (fN ds ds) out [o0,o1]=some (out++List.replicate ds.length (.bool true),[o0',o1'])
 | [],out,o0,o1,_=>⟨o0,o1,by show some (out,_)=some (out++[],_);rw[List.append_nil]⟩
 | x::xs,out,o0,o1,h=>by
  obtain⟨o',o'',e⟩:=oO (n:=n) (ds:=xs) (out:=out++[.bool true]) (o0:=some (.fz x)) (o1:=some (.fz x)) fun d hd=>h d (List.mem_cons_of_mem _ hd)
  refine⟨o',o'',bs (x:=([.bool true],[some (.fz x),some (.fz x)])) (pZ (x:=.val (.fz (.bool true))) rfl (ae (ρ3:=[some (.fz x),some (.fz x)]) rfl rfl (h x List.mem_cons_self) rfl) rfl) ?_⟩
  rw[List.append_assoc]at e
  exact e
theorem fE{n:Nat}{ds:List PyData}(hl:ds.length≤1000)(h:∀d∈ds,Sm n d):Sm (n + 1) (.list ds)/\Sm (n + 1) (.tuple ds):=by
 obtain⟨o0,o1,e⟩:=oO (n:=n) (ds:=ds) (out:=[]) (o0:=none) (o1:=none) h
 rw[List.nil_append]at e
 have hz:(fN ds ds).length < 1000000:=by unfold fN;rw[List.length_zipWith];omega
 have key:∀x:PyData,rL x=some ds->g6 x=some ds.length->uc .seq x=true->Sm (n + 1) x:=fun x h1 h2 h3=>by
  have hc:=cU (C:=pl.pg.ct (n + 1)) (nt:=2) (fr:=[]) (it:=.zip (.nm 0) (.nm 1)) (ρ:=[some (.fz x),some (.fz x)]) (ρ1:=[some (.fz x),some (.fz x)]) (ρ2:=[some (.fz x),some (.fz x)]) (sV (ρ3:=[some (.fz x),some (.fz x)]) rfl rfl rfl rfl h1 h1) hz rfl e unca_nil
  have hb:zM .len [x]=some (.int ds.length):=by show (g6 x).bind (fun n=>some (PyData.int n))=_;rw[h2];rfl
  have hn:bf (pl.pg.ct (n + 1)) (.cmp .ne (.blt .len (.cons (.nm 0) .nil)) (.blt .len (.cons (.nm 1) .nil))) [some (.fz x),some (.fz x)]=some (false,[some (.fz x),some (.fz x)]):=az (aw (dx:=.int ds.length) (dy:=.int ds.length) (bE rfl rfl hb) (bE rfl rfl hb) rfl rfl (show some (!decide ((ds.length:Int)=ds.length))=some false by rw[decide_eq_true rfl];rfl))
  have hi:∀k,bf (pl.pg.ct (n + 1)) (.cmp .ne (.isi k (.nm 0)) (.isi k (.nm 1))) [some (.fz x),some (.fz x)]=some (false,[some (.fz x),some (.fz x)]):=fun k=>az (aw (dx:=.bool (uc k x)) (dy:=.bool (uc k x)) rfl rfl rfl rfl (by cases uc k x<;>rfl))
  have hq:bf (pl.pg.ct (n + 1)) (.isi .seq (.nm 1)) [some (.fz x),some (.fz x)]=some (true,[some (.fz x),some (.fz x)]):=by
   show some (uc .seq x,_)=_
   rw[h3]
  exact ai (fn:=mx) rfl rfl (aH (aQ hq (ab (aG (cG (hi .list) (hi .tuple)) rfl) (ab (aG hn rfl) (aH (au (bE (ds:=[.list (List.replicate ds.length (.bool true))]) (aa hc ag) tU v9) rfl)))))) rfl
 exact⟨key _ rfl rfl rfl,key _ rfl rfl rfl⟩
abbrev zO(qs:List (Int × List Int))(us:List Int):PyData:=.tuple [.list (qs.map Po),.list (us.map PyData.int)]
theorem tV(qs:List (Int × List Int))(us:List Int):(Pn qs us).dat=some (zO qs us):=by
 simp only[Pn,OD.dat,OD.dats,ft]
 rw[<- eE,ft]
theorem wa{n:Nat}{qs:List (Int × List Int)}{us:List Int}(h1:qs.length≤1000)(h2:us.length≤1000)(h3:∀q∈qs,q.2.length≤1000):Sm (n + 4) (zO qs us):=by
 have hi:∀{m:Nat} {ns:List Int},∀d∈ns.map PyData.int,Sm m d:=fun {m ns} d hd=>by obtain⟨a,_,rfl⟩:=List.mem_map.mp hd;exact c_same0
 have hp:∀d∈qs.map Po,Sm (n + 2) d:=fun d hd=>by
  obtain⟨q,hq,rfl⟩:=List.mem_map.mp hd
  refine (fE (n:=n + 1) (by show 2≤1000;decide) fun d hd=>?_).2
  rcases List.mem_cons.mp hd with rfl | hd
  ·exact c_same0
  ·rw[List.mem_singleton.mp hd]
   exact (fE (n:=n) (by rw[List.length_map];exact h3 q hq) hi).2
 refine (fE (n:=n + 3) (by show 2≤1000;decide) fun d hd=>?_).2
 rcases List.mem_cons.mp hd with rfl | hd
 ·exact (fE (n:=n + 2) (by rw[List.length_map];exact h1) hp).1
 ·rw[List.mem_singleton.mp hd]
  exact (fE (n:=n + 2) (by rw[List.length_map];exact h2) hi).1
theorem lay_ints:∀ns:List Int,PyData.canLayAll0 (ns.map PyData.int)=true
 | []=>rfl
 | _::r=>by simp[PyData.canLayAll0,PyData.canLay0,lay_ints r]
theorem iG:∀ns:List Int,PyData.depthAll (ns.map PyData.int)=0
 | []=>rfl
 | _::r=>by simp[PyData.depthAll,PyData.depth,iG r]
theorem iH:∀rs:List R,PyData.canLayAll0 (rs.map R.d)=true
 | []=>rfl
 | .st _ _::r=>by
  have:PyData.strOk (Str.ofString "set")=true:=by decide +kernel
  simp[PyData.canLayAll0,PyData.canLay0,R.d,iH r,this]
 | .ot _ _ h::r=>by simp[PyData.canLayAll0,PyData.canLay0,R.d,lay_ints,iH r,h.2]
theorem dep_rows:∀rs:List R,PyData.depthAll (rs.map R.d)≤1
 | []=>by simp[PyData.depthAll]
 | .st _ _::r=>by have:=dep_rows r;simp[PyData.depthAll,PyData.depth,R.d,this]
 | .ot _ _ _::r=>by have:=dep_rows r;simp[PyData.depthAll,PyData.depth,R.d,iG,this]
abbrev Hd(rs:List R)(ls:List Int):PyData:=.tuple [.list (rs.map R.d),.list (ls.map PyData.int)]
theorem Cz{rs:List R}{ls:List Int}:rM .ne (Hd rs ls) (Hd rs ls)=some false:=by
 have hd:=dep_rows rs
 have hl:PyData.canLay0 (Hd rs ls)=true:=by simp[PyData.canLay0,PyData.canLayAll0,iH,lay_ints]
 have h:SeqAt.shaped (Hd rs ls)=true:=by
  unfold SeqAt.shaped
  rw[hl,Bool.true_and]
  refine decide_eq_true ?_
  simp[PyData.depth,PyData.depthAll,iG]
  omega
 show (if (SeqAt.shaped (Hd rs ls) && SeqAt.shaped (Hd rs ls))=true then some (PyData.eqv (Hd rs ls) (Hd rs ls)) else none).bind _=_
 rw[h,Bool.and_self,if_pos rfl,eqv_refl _ hl];rfl
abbrev wE(sc k t:OD)(f:Cf)(x6 x7 x8:OD)(o9:Option OD):DEnv:=[some sc,some k,some t,some (Rl f.rows),some (Lo f),some (Re f),some x6,some x7,some x8,o9]
abbrev H1(f:Cf):OD:=.tup [Rl f.rows,Lo f]
abbrev H0(f:Cf):OD:=.tup [Rs f.rows,Il f.longs]
theorem mH{rs:List R}:(Rs rs).dat=some (.list (rs.map R.d)):=by rw[Rs,<- oo];exact gb _
theorem En{sc k t:OD}{f:Cf}{x6 x7 x8:OD}{o9:Option OD}(hx:x6=H0 f\/x6=H1 f):∃y,bu (wE sc k t f x6 x7 x8 o9) (.rf 6) 0=some (Rl f.rows,wE sc k t f (.tup [Rl f.rows,y]) x7 x8 o9)/\bu (wE sc k t f (.tup [Rl f.rows,y]) x7 x8 o9) (.rf 6) 1=some (Lo f,wE sc k t f (H1 f) x7 x8 o9):=by
 rcases hx with rfl | rfl
 ·refine⟨Il f.longs,?_,?_⟩
  ·have:itemS (H0 f) 0=some (.list (f.rows.map R.d),.tup [Rl f.rows,Il f.longs]):=by
    show (match (Rs f.rows).dat with | some d=>some (d,OD.tup ([Rs f.rows,Il f.longs].set 0 (.fz d))) | none=>none)=_
    rw[mH];rfl
   show (match itemS (H0 f) 0 with | some (d,y)=>some (OD.fz d,(wE sc k t f (H0 f) x7 x8 o9).set 6 (some y)) | none=>none)=_
   rw[this];rfl
  ·have:itemS (.tup [Rl f.rows,Il f.longs]) 1=some (.list (f.longs.map PyData.int),H1 f):=by
    show (match (Il f.longs).dat with | some d=>some (d,OD.tup ([Rl f.rows,Il f.longs].set 1 (.fz d))) | none=>none)=_
    rw[ba];rfl
   show (match itemS (.tup [Rl f.rows,Il f.longs]) 1 with | some (d,y)=>some (OD.fz d,(wE sc k t f (.tup [Rl f.rows,Il f.longs]) x7 x8 o9).set 6 (some y)) | none=>none)=_
   rw[this];rfl
 ·exact⟨Lo f,rfl,rfl⟩
theorem CA{ρ:DEnv}{r s:OR}{d e:PyData}(h1:aN ρ r=some d)(h2:aN ρ s=some e):eh ρ [r,s]=some [d,e]:=by simp only[eh,h1,h2];rfl
abbrev bR:Ss:=match F_law.body with | .cons (.fr _ _ (.cons _ (.cons (.fr _ _ b) _))) _=>b | _=>.nil
abbrev bI:Ss:=match bR with | .cons _ (.cons (.fr _ _ b) _)=>b | _=>.nil
abbrev bT:Ss:=match bI with | .cons _ (.cons _ (.cons (.fr _ _ b) _))=>b | _=>.nil
theorem tW{n:Nat}{sc k t:OD}{f:Cf}{qs:List (Int × List Int)}{us:List Int}{x6 x8:OD}{o9:Option OD}(hx:x6=H0 f\/x6=H1 f)(h1:qs.length≤1000)(h2:us.length≤1000)(h3:∀q∈qs,q.2.length≤1000)(e14:pl.pg.call (n + 6) 14 [Rl f.rows,Lo f,Re f]=some (Pn qs us,[Rl f.rows,Lo f,Re f])) :
  ∃o9',aD (pl.pg.ct (n + 6)) bT (wE sc k t f x6 (Pn qs us) x8 o9)=some (.nx,wE sc k t f (H1 f) (Pn qs us) x8 o9'):=by
 have e27:(pl.pg.ct (n + 6)).call 27 ([zO qs us,zO qs us].map OD.fz)=some (.fz (.bool true),[.fz (zO qs us),.fz (zO qs us)]):=wa (n:=n + 1) h1 h2 h3
 have ec:(pl.pg.ct (n + 6)).call=pl.pg.call (n + 6):=rfl
 rw[<- ec]at e14
 obtain⟨y,i1,i2⟩:=En (sc:=sc) (k:=k) (t:=t) (f:=f) (x7:=Pn qs us) (x8:=x8) (o9:=o9) hx
 have s1:dw (pl.pg.ct (n + 6)) (.set 9 (.call 14 (.cons (.ix (.nm 6) (.int 0)) (.cons (.ix (.nm 6) (.int 1)) (.cons (.nm 5) .nil))))) (wE sc k t f x6 (Pn qs us) x8 o9)=some (.nx,wE sc k t f (H1 f) (Pn qs us) x8 (some (Pn qs us))):=ao (z:=Pn qs us) (ρ2:=wE sc k t f (H1 f) (Pn qs us) x8 o9) (ae (rs:=[.val (Rl f.rows),.val (Lo f),.val (Re f)]) (ρ1:=wE sc k t f (H1 f) (Pn qs us) x8 o9) (ρ2:=wE sc k t f (H1 f) (Pn qs us) x8 o9) (ρ3:=wE sc k t f (H1 f) (Pn qs us) x8 o9) (aa (aV (x:=.rf 6) (ρ1:=wE sc k t f x6 (Pn qs us) x8 o9) (by rcases hx with rfl | rfl<;>rfl) rfl rfl i1) (aa (aV (x:=.rf 6) (ρ1:=wE sc k t f (.tup [Rl f.rows,y]) (Pn qs us) x8 o9) rfl rfl rfl i2) (aa rfl ag))) rfl e14 rfl) rfl rfl rfl
 have s2:bf (pl.pg.ct (n + 6)) (.or (.not (.callS 27 (.cons (.nm 9) (.cons (.nm 7) .nil)))) (.cmp .ne (.nm 6) (.tup (.cons (.nm 3) (.cons (.nm 4) .nil))))) (wE sc k t f (H1 f) (Pn qs us) x8 (some (Pn qs us)))=some (false,wE sc k t f (H1 f) (Pn qs us) x8 (some (Pn qs us))):=cG (fW (k:=true) (vQ (vP (rs:=[.rf 9,.rf 7]) (ρ1:=wE sc k t f (H1 f) (Pn qs us) x8 (some (Pn qs us))) rfl (CA (tV qs us) (tV qs us)) e27 rfl))) (az (aw (dx:=Hd f.rows f.longs) (dy:=Hd f.rows f.longs) rfl rfl rfl rfl Cz))
 have s3:dw (pl.pg.ct (n + 6)) (.apd 9 [.ix (0)] (.tup (.cons (.int 0) (.cons (.tup .nil) .nil)))) (wE sc k t f (H1 f) (Pn qs us) x8 (some (Pn qs us)))=some (.nx,wE sc k t f (H1 f) (Pn qs us) x8 (some (.tup [.lst ((qs.map Po).map OD.fz++[.fz (.tuple [.int 0,.tuple []])]),Il us]))):=fX (d:=.tuple [.int 0,.tuple []]) (p:=(Pn qs us,[0],.lst ((qs.map Po).map OD.fz))) (xs:=(qs.map Po).map OD.fz) rfl rfl rfl (by rw[List.length_map,List.length_map];omega) rfl
 have s4:dw (pl.pg.ct (n + 6)) (.apd 9 [.ix (1)] (.int 0)) (wE sc k t f (H1 f) (Pn qs us) x8 (some (.tup [.lst ((qs.map Po).map OD.fz++[.fz (.tuple [.int 0,.tuple []])]),Il us])))=some (.nx,wE sc k t f (H1 f) (Pn qs us) x8 (some (.tup [.lst ((qs.map Po).map OD.fz++[.fz (.tuple [.int 0,.tuple []])]),.lst (us.map It++[It 0])]))):=fX (d:=.int 0) (p:=(.tup [.lst ((qs.map Po).map OD.fz++[.fz (.tuple [.int 0,.tuple []])]),Il us],[1],Il us)) (xs:=us.map It) rfl rfl rfl (by rw[List.length_map];omega) rfl
 exact⟨_,ab s1 (ab (aG s2 rfl) (ab s3 (ab s4 rfl)))⟩
theorem j4{C:Ct}{e:E}{ρ ρ1:DEnv}{x:OR}{ds:List PyData}(h1:ev C e ρ=some (x,ρ1))(h2:(dB ρ1 x).bind seqOf=some ds):ev C (.bnw .list e) ρ=some (.val (.lst (ds.map OD.fz)),ρ1):=bs h1 (bs h2 rfl)
abbrev vE(sc k t:OD)(rs:List R)(x4:OD)(o5 o6 o7 o8 o9:Option OD):DEnv:=[some sc,some k,some t,some (Rl rs),some x4,o5,o6,o7,o8,o9]
abbrev lj(ls:List Int):OD:=.fz (.list (ls.map PyData.int))
theorem jd{n:Nat}{sc k t:OD}{rs:List R}{ls:List Int}{r0 r1:Int}{x4:OD}{o5 o6 o7 o8 o9:Option OD}(hx:x4=Il ls\/x4=lj ls)(hl:rs.length≤120)(h60:(rs.filter R.gr).length≤60):∃p5 p6 p7 p8 p9,((bF (.nm 5) (.fz (.tuple [.int r0,.int r1])) (vE sc k t rs x4 o5 o6 o7 o8 o9)).bind fun ρ1=>aD (pl.pg.ct (n + 6)) bI ρ1)=some (.nx,vE sc k t rs (lj ls) p5 p6 p7 p8 p9):=by
 obtain⟨f,hf⟩:∃f:Cf,f=⟨rs,ls,r0,r1⟩:=⟨_,rfl⟩
 have hN:f.rows.length≤200:=by rw[hf];exact Nat.le_trans hl (by decide)
 obtain⟨g,e14,g0,hg,I,P⟩:=oE (n:=n) (f:=f) hN
 have e24:=zF (n:=n + 3) hN (by rw[hf];exact h60) hg I P
 have il:=I.len
 have gl:=I.gl
 have wl:=I.words_lt
 have hN':f.rows.length≤200:=hN
 have h1:(g.gaps.zip g.words).length≤1000:=by rw[List.length_zip];omega
 have h2:(g.us.map (·.2)).length≤1000:=by rw[List.length_map];omega
 have h3:∀q∈g.gaps.zip g.words,q.2.length≤1000:=fun q hq=>by have:=wl q.2 (List.of_mem_zip hq).2;omega
 generalize g.gaps.zip g.words=qs at *
 generalize g.us.map (·.2)=us at *
 have ec:(pl.pg.ct (n + 6)).call=pl.pg.call (n + 6):=rfl
 have hh:∀{i8:OD} {x6:OD} {o:Option OD},(x6=H0 f\/x6=H1 f)->∃o',aD (pl.pg.ct (n + 6)) bT (wE sc k t f x6 (Pn qs us) i8 o)=some (.nx,wE sc k t f (H1 f) (Pn qs us) i8 o'):=fun h=>tW h h1 h2 h3 e14
 rw[<- ec]at e24
 subst hf
 obtain⟨q1,w1⟩:=hh (i8:=It 0) (x6:=H0 ⟨rs,ls,r0,r1⟩) (o:=o9) (.inl rfl)
 obtain⟨q2,w2⟩:=hh (i8:=It 1) (x6:=H1 ⟨rs,ls,r0,r1⟩) (o:=q1) (.inr rfl)
 have l1:ev (pl.pg.ct (n + 6)) (.bnw .list (.nm 3)) (vE sc k t rs x4 (some (Re ⟨rs,ls,r0,r1⟩)) o6 o7 o8 o9)=some (.val (Rs rs),vE sc k t rs x4 (some (Re ⟨rs,ls,r0,r1⟩)) o6 o7 o8 o9):=by
  have:=j4 (C:=pl.pg.ct (n + 6)) (e:=.nm 3) (ρ:=vE sc k t rs x4 (some (Re ⟨rs,ls,r0,r1⟩)) o6 o7 o8 o9) (ρ1:=vE sc k t rs x4 (some (Re ⟨rs,ls,r0,r1⟩)) o6 o7 o8 o9) (x:=.val (Rl rs)) (ds:=rs.map R.d) rfl rfl
  rw[oo]at this
  exact this
 have l2:ev (pl.pg.ct (n + 6)) (.bnw .list (.nm 4)) (vE sc k t rs x4 (some (Re ⟨rs,ls,r0,r1⟩)) o6 o7 o8 o9)=some (.val (Il ls),vE sc k t rs x4 (some (Re ⟨rs,ls,r0,r1⟩)) o6 o7 o8 o9):=by
  rcases hx with rfl | rfl
  ·have:=j4 (C:=pl.pg.ct (n + 6)) (e:=.nm 4) (ρ:=vE sc k t rs (Il ls) (some (Re ⟨rs,ls,r0,r1⟩)) o6 o7 o8 o9) (ρ1:=vE sc k t rs (Il ls) (some (Re ⟨rs,ls,r0,r1⟩)) o6 o7 o8 o9) (x:=.rf 4) (ds:=ls.map PyData.int) rfl (by have z:listOf (Il ls)=some (ls.map PyData.int):=by { show q0 (ls.map It)=_;rw[<- eE];exact fL _ };show seqOf (Il ls)=_;unfold seqOf;rw[z])
   rw[eE]at this
   exact this
  ·have:=j4 (C:=pl.pg.ct (n + 6)) (e:=.nm 4) (ρ:=vE sc k t rs (lj ls) (some (Re ⟨rs,ls,r0,r1⟩)) o6 o7 o8 o9) (ρ1:=vE sc k t rs (lj ls) (some (Re ⟨rs,ls,r0,r1⟩)) o6 o7 o8 o9) (x:=.val (lj ls)) (ds:=ls.map PyData.int) rfl rfl
   rw[eE]at this
   exact this
 have s1:dw (pl.pg.ct (n + 6)) (.set 6 (.tup (.cons (.bnw .list (.nm 3)) (.cons (.bnw .list (.nm 4)) .nil)))) (vE sc k t rs x4 (some (Re ⟨rs,ls,r0,r1⟩)) o6 o7 o8 o9)=some (.nx,vE sc k t rs x4 (some (Re ⟨rs,ls,r0,r1⟩)) (some (H0 ⟨rs,ls,r0,r1⟩)) o7 o8 o9):=ao (z:=H0 ⟨rs,ls,r0,r1⟩) (ρ2:=vE sc k t rs x4 (some (Re ⟨rs,ls,r0,r1⟩)) o6 o7 o8 o9) (dH (zs:=[Rs rs,Il ls]) (aa l1 (aa l2 ag)) rfl rfl rfl) rfl rfl rfl
 have s2:dw (pl.pg.ct (n + 6)) (.set 7 (.call 24 (.cons (.nm 3) (.cons (.nm 4) (.cons (.nm 5) .nil))))) (vE sc k t rs x4 (some (Re ⟨rs,ls,r0,r1⟩)) (some (H0 ⟨rs,ls,r0,r1⟩)) o7 o8 o9)=some (.nx,vE sc k t rs (lj ls) (some (Re ⟨rs,ls,r0,r1⟩)) (some (H0 ⟨rs,ls,r0,r1⟩)) (some (Pn qs us)) o8 o9):=by
  rcases hx with rfl | rfl
  ·refine ao (z:=Pn qs us) (ρ2:=vE sc k t rs (lj ls) (some (Re ⟨rs,ls,r0,r1⟩)) (some (H0 ⟨rs,ls,r0,r1⟩)) o7 o8 o9) (ae (rs:=[.val (Rl rs),.rf 4,.val (Re ⟨rs,ls,r0,r1⟩)]) (ρ1:=vE sc k t rs (Il ls) (some (Re ⟨rs,ls,r0,r1⟩)) (some (H0 ⟨rs,ls,r0,r1⟩)) o7 o8 o9) (ρ2:=vE sc k t rs (lj ls) (some (Re ⟨rs,ls,r0,r1⟩)) (some (H0 ⟨rs,ls,r0,r1⟩)) o7 o8 o9) (ρ3:=vE sc k t rs (lj ls) (some (Re ⟨rs,ls,r0,r1⟩)) (some (H0 ⟨rs,ls,r0,r1⟩)) o7 o8 o9) rfl ?_ e24 rfl) rfl rfl rfl
   have z:frz1 (vE sc k t rs (Il ls) (some (Re ⟨rs,ls,r0,r1⟩)) (some (H0 ⟨rs,ls,r0,r1⟩)) o7 o8 o9) (.rf 4)=some (.list (ls.map PyData.int),vE sc k t rs (lj ls) (some (Re ⟨rs,ls,r0,r1⟩)) (some (H0 ⟨rs,ls,r0,r1⟩)) o7 o8 o9):=jV rfl (ba _) rfl
   show bx [false,false,false] _ [.val (Rl rs),.rf 4,.val (Re ⟨rs,ls,r0,r1⟩)]=_
   simp only[frz1]at z
   simp only[bx,frz1,OD.dat,Option.map_some]
   rw[z]
  ·exact ao (z:=Pn qs us) (ρ2:=vE sc k t rs (lj ls) (some (Re ⟨rs,ls,r0,r1⟩)) (some (H0 ⟨rs,ls,r0,r1⟩)) o7 o8 o9) (ae (rs:=[.val (Rl rs),.val (lj ls),.val (Re ⟨rs,ls,r0,r1⟩)]) (ρ1:=vE sc k t rs (lj ls) (some (Re ⟨rs,ls,r0,r1⟩)) (some (H0 ⟨rs,ls,r0,r1⟩)) o7 o8 o9) (ρ2:=vE sc k t rs (lj ls) (some (Re ⟨rs,ls,r0,r1⟩)) (some (H0 ⟨rs,ls,r0,r1⟩)) o7 o8 o9) (ρ3:=vE sc k t rs (lj ls) (some (Re ⟨rs,ls,r0,r1⟩)) (some (H0 ⟨rs,ls,r0,r1⟩)) o7 o8 o9) rfl rfl e24 rfl) rfl rfl rfl
 exact⟨_,_,_,_,_,bs (x:=vE sc k t rs x4 (some (Re ⟨rs,ls,r0,r1⟩)) o6 o7 o8 o9) rfl (ab s1 (ab s2 (ab (eB (ds:=ck 0 2) rfl (bs (bs (x:=wE sc k t ⟨rs,ls,r0,r1⟩ (H0 ⟨rs,ls,r0,r1⟩) (Pn qs us) (It 0) o9) rfl w1) (bs (bs (x:=wE sc k t ⟨rs,ls,r0,r1⟩ (H1 ⟨rs,ls,r0,r1⟩) (Pn qs us) (It 1) q1) rfl w2) rfl))) rfl)))⟩
theorem lh{n m:Nat}{sc k:OD}{a b c:Int}{o3 o4 o5 o6 o7 o8 o9:Option OD}{rs:List R}(h:TpOk b c m)(hm:m≤40000)(hl:rs.length≤120)(h60:(rs.filter R.gr).length≤60) :
  ∃ρ',((bF (.nm 3) (.fz (.list (rs.map R.d))) [some sc,some k,some (Tp a b c),o3,o4,o5,o6,o7,o8,o9]).bind fun ρ1=>aD (pl.pg.ct (n + 6)) bR ρ1)=some (.nx,ρ')/\∃a' b' c' p3 p4 p5 p6 p7 p8 p9,ρ'=[some sc,some k,some (Tp a' b' c'),p3,p4,p5,p6,p7,p8,p9]/\TpOk b' c' (m + 2000):=by
 obtain⟨ls,a1,b1,c1,e1,t1⟩:=vV (n:=n + 4) (a:=a) (rs:=rs) (Nat.le_trans hl (by decide)) h (by omega)
 obtain⟨r0,r1,a2,b2,c2,e2,t2,_⟩:=oj (n:=n + 4) (a:=a1) t1 (by omega)
 obtain⟨r2,r3,a3,b3,c3,e3,t3,_⟩:=oj (n:=n + 4) (a:=a2) t2 (by omega)
 have ec:(pl.pg.ct (n + 6)).call=pl.pg.call (n + 6):=rfl
 rw[<- ec]at e1 e2 e3
 obtain⟨p5,p6,p7,p8,p9,f1⟩:=jd (n:=n) (sc:=sc) (k:=k) (t:=Tp a3 b3 c3) (rs:=rs) (ls:=ls) (r0:=r0) (r1:=r1) (x4:=Il ls) (o5:=o5) (o6:=o6) (o7:=o7) (o8:=o8) (o9:=o9) (.inl rfl) hl h60
 obtain⟨q5,q6,q7,q8,q9,f2⟩:=jd (n:=n) (sc:=sc) (k:=k) (t:=Tp a3 b3 c3) (rs:=rs) (ls:=ls) (r0:=r2) (r1:=r3) (x4:=lj ls) (o5:=p5) (o6:=p6) (o7:=p7) (o8:=p8) (o9:=p9) (.inr rfl) hl h60
 have s1:dw (pl.pg.ct (n + 6)) (.set 4 (.call 20 (.cons (.nm 2) (.cons (.nm 3) .nil)))) [some sc,some k,some (Tp a b c),some (Rl rs),o4,o5,o6,o7,o8,o9]=some (.nx,vE sc k (Tp a1 b1 c1) rs (Il ls) o5 o6 o7 o8 o9):=ao (ρ2:=[some sc,some k,some (Tp a1 b1 c1),some (Rl rs),o4,o5,o6,o7,o8,o9]) (ae (ρ3:=[some sc,some k,some (Tp a1 b1 c1),some (Rl rs),o4,o5,o6,o7,o8,o9]) rfl rfl e1 rfl) rfl rfl rfl
 have hi:rN (pl.pg.ct (n + 6)) (.seq (.tup (.cons (.call 21 (.cons (.nm 2) .nil)) (.cons (.call 21 (.cons (.nm 2) .nil)) .nil)))) (vE sc k (Tp a1 b1 c1) rs (Il ls) o5 o6 o7 o8 o9)=some ([.tuple [.int r0,.int r1],.tuple [.int r2,.int r3]],vE sc k (Tp a3 b3 c3) rs (Il ls) o5 o6 o7 o8 o9):=dM (d:=.tuple [.tuple [.int r0,.int r1],.tuple [.int r2,.int r3]]) (dH (z:=.fz (.tuple [.tuple [.int r0,.int r1],.tuple [.int r2,.int r3]])) (aa (ae (ρ3:=vE sc k (Tp a2 b2 c2) rs (Il ls) o5 o6 o7 o8 o9) rfl rfl e2 rfl) (aa (ae (ρ3:=vE sc k (Tp a3 b3 c3) rs (Il ls) o5 o6 o7 o8 o9) rfl rfl e3 rfl) ag)) rfl rfl rfl) rfl rfl
 exact⟨_,bs (x:=[some sc,some k,some (Tp a b c),some (Rl rs),o4,o5,o6,o7,o8,o9]) rfl (ab s1 (ab (eB hi (bs f1 (bs f2 rfl))) rfl)),a3,b3,c3,_,_,_,_,_,_,_,rfl,t3.up (by omega)⟩
theorem pure(ns:List Int)(hns:ns.length≤63):∃ys,pl.pg.call 7 Ca [.fz (.list (ns.map PyData.int))]=some (.fz (.bool true),ys):=by
 have step:∀(i:Nat) (o2 o3 o4 o5 o6 o7 o8 o9:Option OD) (o1:Option OD),i≤8->∃ρ',((bF (.nm 1) (.fz (.int i)) [some (.fz (.list (ns.map PyData.int))),o1,o2,o3,o4,o5,o6,o7,o8,o9]).bind fun ρ1=>aD (pl.pg.ct 6) (match F_law.body with | .cons (.fr _ _ b) _=>b | _=>.nil) ρ1)=some (.nx,ρ')/\∃p1 p2 p3 p4 p5 p6 p7 p8 p9,ρ'=[some (.fz (.list (ns.map PyData.int))),p1,p2,p3,p4,p5,p6,p7,p8,p9]:=by
  intro i o2 o3 o4 o5 o6 o7 o8 o9 o1 hi
  obtain⟨a,b,et,t⟩:=zi (n:=4) (ns:=ns) hi
  obtain⟨rs,a1,b1,c1,e1,hl1,t1⟩:=zj (n:=3) (a:=a) t (Nat.zero_le _)
  obtain⟨rs2,a2,b2,c2,e2,hl2,hc2,t2⟩:=tu (n:=3) (a:=a1) t1 (by decide)
  obtain⟨ρ3,f1,a3,b3,c3,q3,q4,q5,q6,q7,q8,q9,rfl,t3⟩:=lh (n:=0) (sc:=.fz (.list (ns.map PyData.int))) (k:=It i) (a:=a2) (o3:=o3) (o4:=o4) (o5:=o5) (o6:=o6) (o7:=o7) (o8:=o8) (o9:=o9) (rs:=rs) t2 (by decide) (Nat.le_trans hl1 (by decide)) (Nat.le_trans (List.length_filter_le _ _) hl1)
  obtain⟨ρ4,f2,a4,b4,c4,p3,p4,p5,p6,p7,p8,p9,rfl,t4⟩:=lh (n:=0) (sc:=.fz (.list (ns.map PyData.int))) (k:=It i) (a:=a3) (o3:=q3) (o4:=q4) (o5:=q5) (o6:=q6) (o7:=q7) (o8:=q8) (o9:=q9) (rs:=rs2) t3 (by decide) hl2 hc2
  refine⟨_,bs (x:=[some (.fz (.list (ns.map PyData.int))),some (It i),o2,o3,o4,o5,o6,o7,o8,o9]) rfl ?_,some (It i),some (Tp a4 b4 c4),p3,p4,p5,p6,p7,p8,p9,rfl⟩
  refine ab (ao (ρ3:=[some (.fz (.list (ns.map PyData.int))),some (It i),some (Tp a b 0),o3,o4,o5,o6,o7,o8,o9]) (ae (ρ3:=[some (.fz (.list (ns.map PyData.int))),some (It i),o2,o3,o4,o5,o6,o7,o8,o9]) rfl rfl et rfl) rfl rfl rfl) ?_
  have hw:rN (pl.pg.ct 6) (.seq (.tup (.cons (.call 19 (.cons (.nm 2) .nil)) (.cons (.call 26 (.cons (.nm 2) .nil)) .nil)))) [some (.fz (.list (ns.map PyData.int))),some (It i),some (Tp a b 0),o3,o4,o5,o6,o7,o8,o9]=some ([.list (rs.map R.d),.list (rs2.map R.d)],[some (.fz (.list (ns.map PyData.int))),some (It i),some (Tp a2 b2 c2),o3,o4,o5,o6,o7,o8,o9]):=by
   refine dM (d:=.tuple [.list (rs.map R.d),.list (rs2.map R.d)]) (dH (zs:=[Rs rs,Rs rs2]) (z:=mkTup [Rs rs,Rs rs2]) (aa (ae (ρ3:=[some (.fz (.list (ns.map PyData.int))),some (It i),some (Tp a1 b1 c1),o3,o4,o5,o6,o7,o8,o9]) rfl rfl e1 rfl) (aa (ae (ρ3:=[some (.fz (.list (ns.map PyData.int))),some (It i),some (Tp a2 b2 c2),o3,o4,o5,o6,o7,o8,o9]) rfl rfl e2 rfl) ag)) rfl rfl rfl) ?_ rfl
   show ((OD.tup [Rs rs,Rs rs2]).dat).map _=_
   rw[OD.dat,OD.dats,mH,OD.dats,mH];rfl
  exact ab (eB hw (bs f1 (bs f2 rfl))) rfl
 have walk:∀(m i:Nat) (o1 o2 o3 o4 o5 o6 o7 o8 o9:Option OD),i + m≤9->∃ρ',cv (fun d ρ'=>(bF (.nm 1) (.fz d) ρ').bind fun ρ1=>aD (pl.pg.ct 6) (match F_law.body with | .cons (.fr _ _ b) _=>b | _=>.nil) ρ1) (ck i m) [some (.fz (.list (ns.map PyData.int))),o1,o2,o3,o4,o5,o6,o7,o8,o9]=some (.nx,ρ')/\∃p1 p2 p3 p4 p5 p6 p7 p8 p9,ρ'=[some (.fz (.list (ns.map PyData.int))),p1,p2,p3,p4,p5,p6,p7,p8,p9]:=by
  intro m
  induction m with
  | zero=>intro i o1 o2 o3 o4 o5 o6 o7 o8 o9 _;exact⟨_,rfl,_,_,_,_,_,_,_,_,_,rfl⟩
  | succ m ih =>
   intro i o1 o2 o3 o4 o5 o6 o7 o8 o9 h
   obtain⟨ρ1,e1,p1,p2,p3,p4,p5,p6,p7,p8,p9,rfl⟩:=step i o2 o3 o4 o5 o6 o7 o8 o9 o1 (by omega)
   obtain⟨ρ2,e2,h2⟩:=ih (i + 1) p1 p2 p3 p4 p5 p6 p7 p8 p9 (by omega)
   refine⟨ρ2,?_,h2⟩
   rw[cN]
   exact bs e1 e2
 obtain⟨mn,hmn⟩:∃mn:Int,mn=if (ns.length:Int) < 8 then (ns.length:Int) else 8:=⟨_,rfl⟩
 have hb:0≤mn/\mn≤8:=by rw[hmn];split<;>omega
 obtain⟨ρ',e,p1,p2,p3,p4,p5,p6,p7,p8,p9,rfl⟩:=walk (1 + mn).toNat 0 none none none none none none none none none (by omega)
 have hlen:ev (pl.pg.ct 6) (.blt .min (.cons (.int 8) (.cons (.blt .len (.cons (.nm 0) .nil)) .nil))) [some (.fz (.list (ns.map PyData.int))),none,none,none,none,none,none,none,none,none]=some (.val (It mn),[some (.fz (.list (ns.map PyData.int))),none,none,none,none,none,none,none,none,none]):=bE (aa rfl (aa (bE rfl rfl blen) ag)) rfl (by rw[hmn];rfl)
 obtain⟨g,e14,g0,hg,I,P⟩:=oE (n:=0) (f:=⟨[],[],0,6⟩) (by decide)
 have hg0:g=⟨0,[],[],0,[],[]⟩:=by
  rw[hg]
  cases P with
  | nil _ _=>rfl
  | cons hk _ _ _=>exact absurd hk (Nat.not_lt_zero _)
 rw[hg0]at e14
 have ec:(pl.pg.ct 6).call=pl.pg.call 6:=rfl
 rw[<- ec]at e14
 have last:ev (pl.pg.ct 6) (.cmp .eq (.call 14 (.cons (.lst .nil) (.cons (.lst .nil) (.cons (.tup (.cons (.int 0) (.cons (.int 6) .nil))) .nil)))) (.tup (.cons (.lst .nil) (.cons (.lst .nil) .nil)))) [some (.fz (.list (ns.map PyData.int))),p1,p2,p3,p4,p5,p6,p7,p8,p9]=some (.val (.fz (.bool true)),[some (.fz (.list (ns.map PyData.int))),p1,p2,p3,p4,p5,p6,p7,p8,p9]):=aw (x:=.val (Pn [] [])) (y:=.val (.tup [.lst [],.lst []])) (dx:=.tuple [.list [],.list []]) (dy:=.tuple [.list [],.list []]) (ρ1:=[some (.fz (.list (ns.map PyData.int))),p1,p2,p3,p4,p5,p6,p7,p8,p9]) (ρ2:=[some (.fz (.list (ns.map PyData.int))),p1,p2,p3,p4,p5,p6,p7,p8,p9]) (ae (rs:=[.val (.lst []),.val (.lst []),.val (.fz (.tuple [.int 0,.int 6]))]) (ρ1:=[some (.fz (.list (ns.map PyData.int))),p1,p2,p3,p4,p5,p6,p7,p8,p9]) (ρ2:=[some (.fz (.list (ns.map PyData.int))),p1,p2,p3,p4,p5,p6,p7,p8,p9]) rfl rfl e14 rfl) rfl rfl rfl (by decide +kernel)
 exact⟨_,ai (fn:=F_law) rfl rfl (ab (eB (fY (n:=1 + mn) (af rfl hlen rfl rfl rfl) rfl (by omega)) e) (aH (au last rfl))) rfl⟩
set_option maxHeartbeats 0
def lm:Str:="law_nearpool_k16_pools_laid_late"
open PySem.W in
def vi(n:Int):Value:=.int n 0
def vr(a:Addr):Value:=.ref a
def vs(x:Str)(t:Nat):Value:=.str x t
def nt(P:Params)(k:Str)(t:Nat)(v:Value):DictEntry:=⟨PyData.keyHash P k,.str k t,v⟩
def fo(d:Df)(m:Str)(t c:Nat):Obj:=⟨.type "function",none,.func (PySem.W.fnOf d.name d.qual (dQ d.st) (bV d.st) (aI d.st) .none .none .none (.str m t) none (.ref c) .none),List.toArray []⟩
def cq(vs:List Value):Obj:=⟨.type "code",none,.fields (List.toArray vs),List.toArray []⟩
def cu(n q:Str)(t l a r T:Nat):Obj:=cq [vs n t,vs q (t+1),vs "/claim/cut.py" (t+2),vi l,vi a,vi 0,vi 0,vi 3,vr r,.bool true,vi 181,vr (r+1),.none,vr (r+2),vr (r+3),vr (r+4),vi T,vi l,vs "/claim/cut.py" (T+1)]
def cw(n q:Str)(t l a r T:Nat):Obj:=cq [vs n t,vs q (t+1),vs "/claim/cut.py" (t+2),vi l,vi a,vi 0,vi 0,vi 3,vr r,.bool true,vi 181,vr (r+1),.none,.none,.none,vr (r+2),vi T,vi l,vs "/claim/cut.py" (T+1)]
def KK(P:Params):PySem.W.Frag:=[(3,⟨(.type "dict"),none,(.dict (List.toArray [nt P "__name__" 165 (vs lm 356),nt P "__doc__" 166 .none,nt P "__package__" 167 .none,nt P "__loader__" 168 (.builtin "__main__.__loader__#opaque"),nt P "__spec__" 169 .none,nt P "__annotations__" 170 (vr 6),nt P "__builtins__" 171 (vr 4),nt P "__file__" 173 (vs "/claim/cut.py" 172),nt P "__cached__" 174 .none,nt P "GREATEST_SMALL" 190 (.int (99) 189),nt P "is_great" 197 (vr 21),nt P "greats_of" 203 (vr 26),nt P "falls" 210 (vr 33),nt P "OVER_CELLS" 214 (.int (2) 213),nt P "WORD_CELLS" 216 (.int (2) 215),nt P "size_of" 225 (vr 40),nt P "has_over" 233 (vr 47),nt P "first_word" 242 (vr 54),nt P "Going" 344 (vr 118),nt P "pools_for" 355 (vr 129),nt P "_law_cell_at" 365 (vr 136),nt P "_law_tape" 374 (vr 143),nt P "_law_take" 384 (vr 150),nt P "_law_great" 393 (vr 157),nt P "_law_rows" 410 (vr 164),nt P "_law_longs" 416 (vr 169),nt P "_law_reach" 425 (vr 176),nt P "_law_is_great" 432 (vr 183),nt P "_law_size" 441 (vr 190),nt P "_law_placed" 456 (vr 197),nt P "_law_late_plan" 462 (vr 202),nt P "_law_word_at" 471 (vr 209),nt P "_law_sparse" 477 (vr 214),nt P "_law_same" 483 (vr 219),nt P "law" 499 (vr 226)]) 35),List.toArray []⟩),
 (20,cu "is_great" "is_great" 191 3 1 15 195),
 (21,fo iz "nearpool.rows" 187 20),
 (25,cw "greats_of" "greats_of" 198 5 1 22 201),
 (26,fo gw "nearpool.rows" 187 25),
 (32,cu "falls" "falls" 204 7 1 27 208),
 (33,fo n9 "nearpool.rows" 187 32),
 (39,cu "size_of" "size_of" 217 12 3 34 223),
 (40,fo i6 "nearpool.places" 211 39),
 (46,cu "has_over" "has_over" 226 14 2 41 231),
 (47,fo iA "nearpool.places" 211 46),
 (53,cu "first_word" "first_word" 234 16 3 48 240),
 (54,fo fg "nearpool.places" 211 53),
 (67,cu "__init__" "Going.__init__" 257 23 4 62 264),
 (68,fo cI "nearpool.pooling" 243 67),
 (74,cu "is_due" "Going.is_due" 267 34 2 69 275),
 (75,fo dN "nearpool.pooling" 243 74),
 (81,cu "lay" "Going.lay" 278 43 2 76 286),
 (82,fo gx "nearpool.pooling" 243 81),
 (88,cu "finds" "Going.finds" 289 55 2 83 294),
 (89,fo eC "nearpool.pooling" 243 88),
 (95,cu "may_put" "Going.may_put" 297 60 2 90 302),
 (96,fo dn "nearpool.pooling" 243 95),
 (102,cu "come" "Going.come" 305 65 2 97 311),
 (103,fo fh "nearpool.pooling" 243 102),
 (109,cu "cross" "Going.cross" 314 75 2 104 319),
 (110,fo eD "nearpool.pooling" 243 109),
 (114,cw "plan" "Going.plan" 322 83 1 111 325),
 (115,fo fj "nearpool.pooling" 243 114),
 (117,⟨(.type "dict"),none,(.dict (List.toArray [nt P "__module__" 252 (vs "nearpool.pooling" 243),nt P "__firstlineno__" 256 (.int (21) 255),nt P "__init__" 266 (vr 68),nt P "is_due" 277 (vr 75),nt P "lay" 288 (vr 82),nt P "finds" 296 (vr 89),nt P "may_put" 304 (vr 96),nt P "come" 313 (vr 103),nt P "cross" 321 (vr 110),nt P "plan" 327 (vr 115),nt P "__static_attributes__" 337 (vr 116),nt P "__dict__" 339 (vr 119),nt P "__weakref__" 341 (vr 120),nt P "__doc__" 342 .none]) 4),List.toArray []⟩),
 (118,⟨(.type "type"),none,(.cls ⟨"Going",[(.type "object")],[(vr 118),(.type "object")],117,"Going",true,[],[],false,none,false⟩),List.toArray [none,none,(some (vs "Going" 245)),(some (vs "Going" 253)),(some (.builtin "object.__new__")),(some (.bool true))]⟩),
 (128,cu "pools_for" "pools_for" 345 86 3 123 353),
 (129,fo gy "nearpool.pooling" 243 128),
 (135,cu "_law_cell_at" "_law_cell_at" 358 92 2 130 363),
 (136,fo i7 lm 356 135),
 (142,cu "_law_tape" "_law_tape" 366 94 2 137 372),
 (143,fo sX lm 356 142),
 (149,cu "_law_take" "_law_take" 375 97 2 144 382),
 (150,fo sY lm 356 149),
 (156,cu "_law_great" "_law_great" 385 106 1 151 391),
 (157,fo oa lm 356 156),
 (163,cu "_law_rows" "_law_rows" 394 110 1 158 408),
 (164,fo sZ lm 356 163),
 (168,cw "_law_longs" "_law_longs" 411 126 2 165 414),
 (169,fo og lm 356 168),
 (175,cu "_law_reach" "_law_reach" 417 130 1 170 423),
 (176,fo oh lm 356 175),
 (182,cu "_law_is_great" "_law_is_great" 426 134 1 177 430),
 (183,fo fq lm 356 182),
 (189,cu "_law_size" "_law_size" 433 136 3 184 439),
 (190,fo tf lm 356 189),
 (201,cw "_law_late_plan" "_law_late_plan" 457 151 3 198 460),
 (202,fo gz lm 356 201),
 (208,cu "_law_word_at" "_law_word_at" 463 181 3 203 469),
 (209,fo i9 lm 356 208),
 (213,cw "_law_sparse" "_law_sparse" 472 184 1 210 475),
 (214,fo kT lm 356 213),
 (218,cw "_law_same" "_law_same" 478 194 2 215 481),
 (219,fo th lm 356 218),
 (225,cu "law" "law" 484 206 1 220 497),
 (226,fo D_law lm 356 225)]
def qv:Program:=PySem.W.view PySem.Challenge.pw_nearpool_k16_pools_laid_late [1,2,3,4,6,7,8,9,10,12,13,15,16,17,18,19,20,21,22,23,24,25,26,27,28,29]
open PySem.W PyProof.Rows in
theorem wb{p q:Program}{loose:List Str}{Xt:Shared->Bool}{α:Type}{Yf:Shared->α}{Ya:World->α}{N:Nat}{g0:Bool}(e:opening p=plainProg p.main.scope.names)(hN:Nat.ble 600 N=true)(f:∀s,fenceModules? p s=some s)
  (h:∀(w:World) (os:OsState),(topFrom treeTable p w N ⟨boot_heap w.params,Array.mk [],boot_drawn,boot_toks,os⟩).map (fun s=>(openSeen q loose (importedModules p.main.body) Xt g0 s,Yf s))=some (openGood q loose,Ya w)):LeftO p q loose Xt Yf Ya N g0:=fun w=>by
 obtain⟨⟨hh,gs,d,k,os⟩,e1,e2⟩:=Option.map_eq_some_iff.mp (boot_open e hN f w)
 obtain⟨rfl,rfl,rfl,rfl⟩:hh=boot_heap w.params/\gs=Array.mk []/\d=boot_drawn/\k=boot_toks:=by simpa using e2
 unfold openEnds
 rw[e1]
 exact h w os
def hk:PySem.W.Hook:=PySem.W.kHook KK [3,20,21,25,26,32,33,39,40,46,47,53,54,67,68,74,75,81,82,88,89,95,96,102,103,109,110,114,115,117,118,128,129,135,136,142,143,149,150,156,157,163,164,168,169,175,176,182,183,189,190,201,202,208,209,213,214,218,219,225,226] (fun _=>by kernel_rfl)
abbrev xt(s:Shared):Bool:=PySem.W.xlAt qv [] s && PySem.W.recOk (PySem.W.RowW.records (PySem.Challenge.rw_nearpool_k16_pools_laid_late).row.toRowW) s
theorem left:PySem.W.LeftO PySem.Challenge.pw_nearpool_k16_pools_laid_late qv [] xt (PySem.W.Hook.obs hk) (PySem.W.Hook.val hk) 2516:=wb (by kernel_rfl) (by rfl) (fun s=>by kernel_rfl) (fun w os=>by kernel_rfl)
def dd:DefRec:=⟨"law",dQ D_law.st,bV D_law.st,aI D_law.st,match D_law.st with | .FunctionDef _ _ _ _ _ _ _ _ _ p=>p | _=>⟨0,0,0,0⟩⟩
theorem said:(PySem.Challenge.rw_nearpool_k16_pools_laid_late).wellSaid=true:=by kernel_rfl
def tX(K:PySem.W.Frag):L2.Sp:=fun vs H Q _=>∃(a:Addr) (ns:List Int),vs=[.ref a]/\SqL K H a (ns.map V.int)/\ns.length≤63/\∀H',Q (.bl true) H'
def CN:Option (Option Value)->Bool
 | some none=>true
 | _=>false
def zP(f:Nat):Option (Option Value)->Bool
 | some (some (.ref g))=>g == f
 | _=>false
def Ep:Option (Option Value)->Bool
 | some (some (.builtin s))=>decide (s="object.__setattr__")
 | _=>false
theorem tY{o:Option (Option Value)}(h:CN o=true):o=some none:=by
 unfold CN at h;split at h
 ·rfl
 ·cases h
theorem j5{f:Nat}{o:Option (Option Value)}(h:zP f o=true):o=some (some (.ref f)):=by
 unfold zP at h;split at h
 ·rw[beq_iff_eq.mp h]
 ·cases h
theorem zG{o:Option (Option Value)}(h:Ep o=true):o=some (some (.builtin "object.__setattr__")):=by
 unfold Ep at h;split at h
 ·rw[of_decide_eq_true h]
 ·cases h
open PySem.W in
def Er(K:Frag)(C:Addr):Bool:=plainGet K C Str.empty && (hasDictIn K C && (plainOver K C && Ep (findIn K (.ref C) "__setattr__")))
theorem tZ{K:PySem.W.Frag}{C:Addr}(h:Er K C=true):Cls K C:=by
 obtain⟨h1,h⟩:=an2 h;obtain⟨h2,h⟩:=an2 h;obtain⟨h3,h⟩:=an2 h
 exact⟨h1,h2,h3,zG h⟩
open PySem.W in
def E4(K:Frag)(d:Df)(f c:Nat):Kd->Bool
 | .fn=>codeIn K (.ref c) d.qual && (keepIn K (.ref f) && zP f (nsIn K mainGlobals d.name))
 | .me x=>codeIn K (.ref c) d.qual && (keepIn K (.ref f) && (Er K (aq K x) && (zP f (findIn K (.ref (aq K x)) d.name) && isFn K (.ref f))))
 | .ini x=>codeIn K (.ref c) d.qual && (keepIn K (.ref f) && (makesIn K (aq K x) && (zP f (findIn K (.ref (aq K x)) "__init__") && (isFn K (.ref f) && (keepIn K (.ref (aq K x)) && zP (aq K x) (nsIn K mainGlobals x))))))
theorem fk{K:PySem.W.Frag}{h:Heap}{mg:Str->Option Value}(X:K.In h)(G:h.Ns mainGlobals mg){d:Df}{kd:Kd}(m:Str)(t c f:Nat)(l:K.lookup f=some (fo d m t c))(q:E4 K d f c kd=true)
  (b:∀us:List Value,us.length=d.ps.length->bindArgs (PySem.W.fnOf d.name d.qual (dQ d.st) (bV d.st) (aI d.st) .none .none .none (.str m t) none (.ref c) .none) ⟨us,[]⟩=Pure.pure (d.ps.zip us)):wJ K mg (d,kd):=by
 cases kd with
 | fn =>
  obtain⟨h1,q⟩:=an2 q;obtain⟨h2,h3⟩:=an2 q
  exact⟨f,_,jr l h1 h2,.all b,PySem.W.mg_of X G (j5 h3),h2⟩
 | me x =>
  obtain⟨h1,q⟩:=an2 q;obtain⟨h2,q⟩:=an2 q;obtain⟨h3,q⟩:=an2 q;obtain⟨h4,h5⟩:=an2 q
  exact⟨f,_,jr l h1 h2,.all b,tZ h3,j5 h4,h5,h2⟩
 | ini x =>
  obtain⟨h1,q⟩:=an2 q;obtain⟨h2,q⟩:=an2 q;obtain⟨h3,q⟩:=an2 q;obtain⟨h4,q⟩:=an2 q;obtain⟨h5,q⟩:=an2 q;obtain⟨h6,h7⟩:=an2 q
  exact⟨f,_,jr l h1 h2,.all b,⟨h3,j5 h4,h5,h6⟩,PySem.W.mg_of X G (j5 h7)⟩
theorem fm{α:Type}{P:α->Prop}{x:α}{l:List α}(h:P x)(k:∀y∈l,P y):∀y∈x::l,P y:=List.forall_mem_cons.mpr ⟨h,k⟩
theorem fC{K:PySem.W.Frag}{h:Heap}{mg:Str->Option Value}(X:K.In h)(G:h.Ns mainGlobals mg){x:Str}{k:Int}(t:Nat)(e:PySem.W.nsIn K mainGlobals x=some (some (.int k t))):∃v u,mg x=some u/\RelV v u/\∀S H,Fz K S H v (.int k):=⟨.int k,_,PySem.W.mg_of X G e,⟨_,rfl⟩,fun _ _=>.int _⟩
theorem b1{α:Type}{P:List α->Prop}(h:∀a0,P [a0])(l:List α)(e:l.length=1):P l:=by
 match l,e with
 | [a0],_=>exact h a0
theorem b2{α:Type}{P:List α->Prop}(h:∀a0 a1,P [a0,a1])(l:List α)(e:l.length=2):P l:=by
 match l,e with
 | [a0,a1],_=>exact h a0 a1
theorem b3{α:Type}{P:List α->Prop}(h:∀a0 a1 a2,P [a0,a1,a2])(l:List α)(e:l.length=3):P l:=by
 match l,e with
 | [a0,a1,a2],_=>exact h a0 a1 a2
theorem b4{α:Type}{P:List α->Prop}(h:∀a0 a1 a2 a3,P [a0,a1,a2,a3])(l:List α)(e:l.length=4):P l:=by
 match l,e with
 | [a0,a1,a2,a3],_=>exact h a0 a1 a2 a3
theorem gives {w:World} {mg:Str->Option Value} {fa:Addr} {h:Heap} (X:(KK w.params).In h) (G:h.Ns mainGlobals mg) (hmg:mg "law"=some (.ref fa)) :
  ∃fd:FuncData,(∀(s:Shared) (v:Value),BindsTo s fd ⟨[v],[]⟩ [("_law_script",v)])/\∀base:Heap,(KK w.params).In base->base.Ns mainGlobals mg->FnOk (PySem.Challenge.rw_nearpool_k16_pools_laid_late).prog w (KK w.params) mg base CX0 8 fa fd ["_law_script"] (tX (KK w.params)):=by
 have M:Md (KK w.params) mg pl.tb pl.pg pl.D:=Pl.md Cb (fm (fk X G "nearpool.rows" 187 20 21 (by kernel_rfl) (by kernel_rfl) (b1 fun _=>rfl))
  (fm (fk X G "nearpool.rows" 187 25 26 (by kernel_rfl) (by kernel_rfl) (b1 fun _=>rfl))
  (fm (fk X G "nearpool.rows" 187 32 33 (by kernel_rfl) (by kernel_rfl) (b1 fun _=>rfl))
  (fm (fk X G "nearpool.places" 211 39 40 (by kernel_rfl) (by kernel_rfl) (b3 fun _ _ _=>rfl))
  (fm (fk X G "nearpool.places" 211 46 47 (by kernel_rfl) (by kernel_rfl) (b2 fun _ _=>rfl))
  (fm (fk X G "nearpool.places" 211 53 54 (by kernel_rfl) (by kernel_rfl) (b3 fun _ _ _=>rfl))
  (fm (fk X G "nearpool.pooling" 243 67 68 (by kernel_rfl) (by kernel_rfl) (b4 fun _ _ _ _=>rfl))
  (fm (fk X G "nearpool.pooling" 243 74 75 (by kernel_rfl) (by kernel_rfl) (b2 fun _ _=>rfl))
  (fm (fk X G "nearpool.pooling" 243 81 82 (by kernel_rfl) (by kernel_rfl) (b2 fun _ _=>rfl))
  (fm (fk X G "nearpool.pooling" 243 88 89 (by kernel_rfl) (by kernel_rfl) (b2 fun _ _=>rfl))
  (fm (fk X G "nearpool.pooling" 243 95 96 (by kernel_rfl) (by kernel_rfl) (b2 fun _ _=>rfl))
  (fm (fk X G "nearpool.pooling" 243 102 103 (by kernel_rfl) (by kernel_rfl) (b2 fun _ _=>rfl))
  (fm (fk X G "nearpool.pooling" 243 109 110 (by kernel_rfl) (by kernel_rfl) (b2 fun _ _=>rfl))
  (fm (fk X G "nearpool.pooling" 243 114 115 (by kernel_rfl) (by kernel_rfl) (b1 fun _=>rfl))
  (fm (fk X G "nearpool.pooling" 243 128 129 (by kernel_rfl) (by kernel_rfl) (b3 fun _ _ _=>rfl))
  (fm (fk X G lm 356 135 136 (by kernel_rfl) (by kernel_rfl) (b2 fun _ _=>rfl))
  (fm (fk X G lm 356 142 143 (by kernel_rfl) (by kernel_rfl) (b2 fun _ _=>rfl))
  (fm (fk X G lm 356 149 150 (by kernel_rfl) (by kernel_rfl) (b2 fun _ _=>rfl))
  (fm (fk X G lm 356 156 157 (by kernel_rfl) (by kernel_rfl) (b1 fun _=>rfl))
  (fm (fk X G lm 356 163 164 (by kernel_rfl) (by kernel_rfl) (b1 fun _=>rfl))
  (fm (fk X G lm 356 168 169 (by kernel_rfl) (by kernel_rfl) (b2 fun _ _=>rfl))
  (fm (fk X G lm 356 175 176 (by kernel_rfl) (by kernel_rfl) (b1 fun _=>rfl))
  (fm (fk X G lm 356 182 183 (by kernel_rfl) (by kernel_rfl) (b1 fun _=>rfl))
  (fm (fk X G lm 356 189 190 (by kernel_rfl) (by kernel_rfl) (b3 fun _ _ _=>rfl))
  (fm (fk X G lm 356 201 202 (by kernel_rfl) (by kernel_rfl) (b3 fun _ _ _=>rfl))
  (fm (fk X G lm 356 208 209 (by kernel_rfl) (by kernel_rfl) (b3 fun _ _ _=>rfl))
  (fm (fk X G lm 356 213 214 (by kernel_rfl) (by kernel_rfl) (b1 fun _=>rfl))
  (fm (fk X G lm 356 218 219 (by kernel_rfl) (by kernel_rfl) (b2 fun _ _=>rfl))
  (fm (fk X G lm 356 225 226 (by kernel_rfl) (by kernel_rfl) (b1 fun _=>rfl))
  (fun _ h=>by cases h)))))))))))))))))))))))))))))) (fm (fC X G 189 (by kernel_rfl))
  (fm (fC X G 213 (by kernel_rfl))
  (fm (fC X G 215 (by kernel_rfl))
  (fun _ h=>by cases h))))
  (fun x hx=>PySem.W.mg_none_of X G (tY (List.all_eq_true.mp (by kernel_rfl:(pl.nog.all fun x=>CN (PySem.W.nsIn (KK w.params) mainGlobals x))=true) x hx)))
  (fun z hz=>have q:=an2 (List.all_eq_true.mp (by kernel_rfl:(pl.fld.all fun z=>Er (KK w.params) (aq (KK w.params) z.1) && CN (PySem.W.findIn (KK w.params) (.ref (aq (KK w.params) z.1)) z.2))=true) z hz);⟨tZ q.1,tY q.2⟩)
 have e:=hmg.symm.trans (PySem.W.mg_of X G (by kernel_rfl:PySem.W.nsIn (KK w.params) mainGlobals "law"=some (some (.ref 226))))
 cases e
 have F:Fun (KK w.params) D_law.name D_law.qual D_law.st 226 _:=jr (by kernel_rfl:(KK w.params).lookup 226=some (fo D_law lm 356 225)) (by kernel_rfl) (by kernel_rfl)
 exact⟨_,fun s v=>.of_eq rfl,fun base _ _=>M.law (n:=7) (j:=Ca) (d:=D_law) rfl F pure⟩
theorem walk{l:PySem.W.OpenLaw}{q:Program}{loose:List Str}{XP:(Str->Option Value)->Heap->Prop}{YP:World->Heap->Prop}{d:DefRec}{K:Params->PySem.W.Frag}(hn:l.most=some 63)(hdf:d.params.defaults=[])
  (hY:∀(w:World) (h:Heap),YP w h->(K w.params).In h)
  (F:∀(w:World) (mg:Str->Option Value) (fa:Addr) (h:Heap),(K w.params).In h->h.Ns mainGlobals mg->mg d.name=some (.ref fa) ->
   ∃fd:FuncData,(∀(s:Shared) (u:Value),BindsTo s fd ⟨[u],[]⟩ [("_law_script",u)])/\∀base:Heap,(K w.params).In base->base.Ns mainGlobals mg->FnOk l.prog w (K w.params) mg base CX0 8 fa fd ["_law_script"] (tX (K w.params))) :
  PySem.W.WalkO q loose XP YP l.row.toRowW d [] (fun f vs=>PySem.call f vs) :=
 L2.walk_of (n:=63) (k:=8) (x:="_law_script") (CX:=fun _=>CX0) (sp:=fun w=>tX (K w.params)) hn (by decide) hdf ⟨rfl,by decide,by decide,rfl⟩ hY F (fun _ _ a ns hl _ hS=>⟨a,ns,rfl,hS,hl,fun _=>rfl⟩) fun _ _ _ _ _ z=>z
end Np
open PySem PySem.W PyProof.Rows
set_option maxRecDepth 100000 in
set_option maxHeartbeats 0 in
theorem PySem.Challenge.cw_nearpool_k16_pools_laid_late_holds : PySem.Challenge.rw_nearpool_k16_pools_laid_late.Holds := by
 w_on
 refine holds_law Np.said fun said=>?_
 refine holds_open (q:=Np.qv) (loose:=[]) (Xt:=Np.xt) (XP:=XL Np.qv []) (Yf:=Hook.obs Np.hk) (Ya:=Hook.val Np.hk) (YP:=Hook.says Np.hk) (N:=2516) (d:=Np.dd) (kwd:=[]) Np.left (Hook.of Np.hk) (Hook.keeps Np.hk) (fun s e=>xl_of s (Bool.and_eq_true_iff.mp e).1) XL.keeps (by kernel_rfl) (by kernel_rfl) (by kernel_rfl) (fun s e=>recFacts_of (Bool.and_eq_true_iff.mp e).2) (by rfl) said (by kernel_rfl) ⟨rfl,rfl,rfl,rfl,rfl,by decide +kernel⟩ ?hw ?hc
 case hw=>w_witness2
 case hc=>exact Np.walk (l:=PySem.Challenge.rw_nearpool_k16_pools_laid_late) (K:=Np.KK) (d:=Np.dd) rfl (by kernel_rfl) (fun w h Y=>kIn_of Y) (fun w mg fa h KX G hmg=>Np.gives KX G hmg)
