import PyProof.Rows.All
import Wide.All
import OpenK.AllK
import Wide.FinOn
import Lean
import PyProof.EqAt
import PyProof.EqKinds
import PyProof.TupleCall
import PyProof.Draws
import PyProof.ZipIter
import PyProof.Rows.ListRangeD
import PyProof.EnumFor
import PyProof.EnumStmt
import PyProof.EnumMake
import PyProof.AutoListH
import PyProof.RangeFor
import PyProof.Rows.Range3
import KE.KUnpack
import PyProof.ReprRoads
import PyProof.ReprLen
import PyProof.FitsInt
import PyProof.DictCompW
import PySem.Challenge.RW_nearpool_k26_the_least_long_jumps
set_option compiler.extract_closed false
set_option Elab.async false
set_option linter.all false
set_option maxRecDepth 100000
/-! THE HAND LAYER, for ints, bools, texts, own classes, LISTS and tuples (index, slices, in, append, pop ..), calls, loops. Paste it whole ahead of your own text; what your proof does not reach may be deleted. -/
namespace L2
open PySem PySem.Spec PyProof.Rows

/-- a key: an int or a str -/
abbrev Key := Sum Int Str
def keyIs : Key → Value → Bool
  | .inl k, v => Value.isInt k v
  | .inr x, v => Value.isStrOf x v
def keyH (w : World) : Key → Int
  | .inl k => hashInt k
  | .inr x => hashStr w x
theorem keyIs_shape : ∀ {k : Key} {v : Value}, keyIs k v = true → (∃ i t, k = Sum.inl i ∧ v = Value.int i t) ∨ (∃ x t, k = Sum.inr x ∧ v = Value.str x t)
  | .inl i, v, h => by
    obtain ⟨t, e⟩ := Value.isInt_shape (k := i) (v := v) h
    exact .inl ⟨i, t, rfl, e⟩
  | .inr x, v, h => by
    obtain ⟨t, e⟩ := Value.isStrOf_shape (x := x) (v := v) h
    exact .inr ⟨x, t, rfl, e⟩
theorem keyIs_int (i : Int) (t : Tok) : keyIs (.inl i) (.int i t) = true := by simp [keyIs, Value.isInt]
theorem keyIs_str (x : Str) (t : Tok) : keyIs (.inr x) (.str x t) = true := by simp [keyIs, Value.isStrOf]
theorem key_ll (a b : Int) : decide ((Sum.inl a : Key) = Sum.inl b) = (a == b) := by
  by_cases e : a = b
  · subst e; simp
  · have h : ¬ (Sum.inl a : Key) = Sum.inl b := fun q => e (Sum.inl.inj q)
    rw [decide_eq_false h]
    exact (beq_eq_false_iff_ne.mpr e).symm
theorem key_rr (a b : Str) : decide ((Sum.inr a : Key) = Sum.inr b) = decide (a = b) := by
  by_cases e : a = b
  · subst e; simp
  · have h : ¬ (Sum.inr a : Key) = Sum.inr b := fun q => e (Sum.inr.inj q)
    rw [decide_eq_false h, decide_eq_false e]
theorem key_lr (a : Int) (b : Str) : decide ((Sum.inl a : Key) = Sum.inr b) = false := decide_eq_false (fun q => nomatch q)
theorem key_rl (a : Str) (b : Int) : decide ((Sum.inr a : Key) = Sum.inl b) = false := decide_eq_false (fun q => nomatch q)

def mixKind (prog : Program) (w : World) : PySem.KeyKind prog w Key where
  is := keyIs
  hash := keyH w
  inj := fun v a b ha hb => by
    rcases keyIs_shape ha with ⟨i, t, rfl, rfl⟩ | ⟨x, t, rfl, rfl⟩
    · rcases keyIs_shape hb with ⟨j, u, rfl, e⟩ | ⟨y, u, rfl, e⟩
      · injection e with e1 _; rw [e1]
      · exact nomatch e
    · rcases keyIs_shape hb with ⟨j, u, rfl, e⟩ | ⟨y, u, rfl, e⟩
      · exact nomatch e
      · injection e with e1 _; rw [e1]
  byValue := fun k v h => by
    rcases keyIs_shape h with ⟨i, t, rfl, rfl⟩ | ⟨x, t, rfl, rfl⟩ <;> rfl
  pyHash := fun hv h => by
    rcases keyIs_shape hv with ⟨i, t, rfl, rfl⟩ | ⟨x, t, rfl, rfl⟩
    · exact wpAny_pyHash_int h
    · exact wpAny_pyHash_str h
  eqBool := fun hu hv h => by
    rcases keyIs_shape hu with ⟨i, t, rfl, rfl⟩ | ⟨x, t, rfl, rfl⟩
    · rcases keyIs_shape hv with ⟨j, u, rfl, rfl⟩ | ⟨y, u, rfl, rfl⟩
      · rw [key_ll] at h; exact wpAny_eqBool_int h
      · rw [key_lr] at h; exact SeqAt.EqAt.int_str i t y u _ _ _ _ h
    · rcases keyIs_shape hv with ⟨j, u, rfl, rfl⟩ | ⟨y, u, rfl, rfl⟩
      · rw [key_rl] at h; exact SeqAt.EqAt.str_int x t j u _ _ _ _ h
      · rw [key_rr] at h; exact wpAny_eqBool_str h
  «strs» := fun k x t v h => by
    rcases keyIs_shape h with ⟨i, u, rfl, e⟩ | ⟨y, u, rfl, e⟩
    · exact nomatch e
    · injection e with e1 _
      subst e1
      cases v <;> rfl

theorem mixKind_int (prog : Program) (w : World) (i : Int) (t : Tok) : (mixKind prog w).is (.inl i) (.int i t) = true := keyIs_int i t
theorem mixKind_str (prog : Program) (w : World) (x : Str) (t : Tok) : (mixKind prog w).is (.inr x) (.str x t) = true := keyIs_str x t
end L2

namespace L2
open PySem PySem.Spec PyProof.Rows

/-- a value, without the heap -/
inductive V where
  | non | bl (b : Bool) | int (i : Int) | str (x : Str) | byt (b : Array UInt8) | flt (b : UInt64) | ref (a : Addr) | ty (n : String)
  deriving DecidableEq

def RelV : V → Value → Prop
  | .non, u => u = Value.none
  | .bl b, u => u = Value.bool b
  | .int i, u => ∃ t, u = Value.int i t
  | .str x, u => ∃ t, u = Value.str x t
  | .byt b, u => ∃ t, u = Value.bytes b t
  | .flt b, u => ∃ t, u = Value.float b t
  | .ref a, u => u = Value.ref a
  | .ty n, u => u = Value.type n

abbrev Vals : List V → List Value → Prop := Paired RelV
theorem Vals.length {xs : List V} {us : List Value} (r : Vals xs us) : xs.length = us.length := Paired.length r
theorem Vals.get : ∀ {xs : List V} {us : List Value} {i : Nat} {x : V}, Vals xs us → xs[i]? = some x → ∃ u, us[i]? = some u ∧ RelV x u
  | _, _, _, _, .nil, e => by simp at e
  | _, _, 0, _, .cons r _, e => by simp at e; subst e; exact ⟨_, rfl, r⟩
  | _, _, i + 1, x, .cons _ t, e => by
    obtain ⟨u, h1, h2⟩ := Vals.get (i := i) (x := x) t (by simpa using e)
    exact ⟨u, by simpa using h1, h2⟩
theorem Vals.set {x : V} {u : Value} (r : RelV x u) : ∀ {xs : List V} {us : List Value} (i : Nat), Vals xs us → Vals (xs.set i x) (us.set i u)
  | _, _, _, .nil => .nil
  | _, _, 0, .cons _ t => .cons r t
  | _, _, i + 1, .cons q t => .cons q (Vals.set r i t)
theorem Vals.append : ∀ {xs ys : List V} {us ws : List Value}, Vals xs us → Vals ys ws → Vals (xs ++ ys) (us ++ ws)
  | _, _, _, _, .nil, s => s
  | _, _, _, _, .cons r t, s => .cons r (Vals.append t s)

def RelO : Option V → Option Value → Prop
  | some v, some u => RelV v u
  | none, none => True
  | _, _ => False
def KV {κ : Type} : List (κ × V) → List (κ × Value) → Prop := Paired fun (p : κ × V) (q : κ × Value) => p.1 = q.1 ∧ RelV p.2 q.2

/-- a key of a dict (00_mix): an int or a text -/
def kV : Key → V
  | .inl i => .int i
  | .inr x => .str x

/-- what stands at a tracked address -/
inductive HO where
  /-- a list -/
  | lst (xs : List V)
  /-- a tuple (never changes) -/
  | tup (xs : List V)
  /-- a dict whose keys are ints and texts; one whose keys are tuples of ints and texts (the empty one is both) -/
  | dK (kvs : List (Key × V)) | dT (kvs : List (List Key × V))
  /-- a set of ints: its members, its size -/
  | set (S : Int → Bool) (n : Nat)
  /-- an instance of the class at C, its dict at dx, its attributes -/
  | ins (C dx : Addr) (fs : List (Str × V))
  /-- the dict of the instance at x -/
  | own (x : Addr)
  /-- the dict of an exception -/
  | xd (fs : List (Str × V))
  /-- a bound method, f of x -/
  | met (f x : Addr)
  /-- a range object lo, lo + 1, .. below hi -/
  | rng (lo hi : Int)
  /-- a thing that is known to the object (the script; a dict while a loop walks it): read, never written while it is so -/
  | frz (o : Obj) (u : HO)
  /-- a code object's table -/
  | tbl (ps : Array Value)
  /-- any other thing, by what is true of its one object (a def of one's own: SetO a S n := HO.ext fun h => ..) -/
  | ext (φ : Heap → Prop)

abbrev Hp := Addr → Option HO
def upd (H : Hp) (a : Addr) (o : HO) : Hp := fun b => if b = a then some o else H b
theorem upd_same {H : Hp} {a : Addr} {o : HO} : upd H a o a = some o := by unfold upd; rw [if_pos rfl]
theorem upd_ne {H : Hp} {a b : Addr} {o : HO} (h : b ≠ a) : upd H a o b = H b := by unfold upd; rw [if_neg h]
theorem upd_upd {H : Hp} {a : Addr} {o u : HO} : upd (upd H a o) a u = upd H a u := by
  funext b; unfold upd; split <;> rfl
theorem ne_of_none {H : Hp} {a b : Addr} {o : HO} (h : H a = some o) (h' : H b = none) : a ≠ b := by
  intro e; subst e; rw [h] at h'; cases h'

section
variable (P : Program) (w : World)
def ObjOk (H : Hp) (h : Heap) (a : Addr) : HO → Prop
  | .lst xs => xs.length ≤ sizeLine ∧ ∃ (its : List Value) (n : Nat), Vals xs its ∧ h.get? a = some { cls := .type "list", data := .seq its.toArray n }
  | .tup xs => xs.length ≤ sizeLine ∧ ∃ its : List Value, Vals xs its ∧ IsTup h a its.toArray
  | .dK kvs => kvs.length ≤ sizeLine ∧ (a == sysModules) = false ∧ ∃ vs, KV kvs vs ∧ h.DictOf (mixKind P w) a vs
  | .dT kvs => kvs.length ≤ sizeLine ∧ (a == sysModules) = false ∧ ∃ xs : List (List Key × Addr × Value),
      Paired (fun (p : List Key × V) (q : List Key × Addr × Value) => p.1 = q.1 ∧ H q.2.1 = some (.tup (p.1.map kV)) ∧ RelV p.2 q.2.2) kvs xs ∧
      ∃ o es ep, h.get? a = some o ∧ o.ExactDict ∧ o.data = .dict es ep ∧ es.toList = xs.map (entryOfKey (tupleKind (mixKind P w))) ∧ (xs.map (·.1)).Nodup
  | .set S n => h.SetOf (intKind P w) a S n
  | .ins C dx fs => H dx = some (.own a) ∧ fs.length ≤ 1000 ∧ dx ≠ a ∧ h.get? a = some (PySem.W.instObj C dx) ∧
      ∃ mA, h.Ns1 dx mA ∧ (∀ f, RelO (fs.lookup f) (mA f)) ∧ PySem.Within mA (fs.map (·.1))
  | .own _ => ∃ o, h.get? a = some o
  | .xd fs => ∃ mA, h.Ns1 a mA ∧ ∀ f, RelO (fs.lookup f) (mA f)
  | .rng lo hi => ∃ t u v, h.get? a = some { cls := .type "range", data := .fields #[.int lo t, .int hi u, .int 1 v] }
  | .frz o u => h.get? a = some o ∧ ObjOk H h a u
  | .tbl ps => h.get? a = some { cls := .none, data := .fields ps }
  | .met f x => h.get? a = some (PySem.W.methodObj (.ref f) (.ref x))
  | .ext φ => φ h ∧ (∃ o, h.get? a = some o) ∧ ∀ h1 h2 : Heap, φ h1 → (∀ o, h1.get? a = some o → h2.get? a = some o) → φ h2
/-- the abstract heap is held -/
def HOk (H : Hp) (h : Heap) : Prop := ∀ a o, H a = some o → ObjOk P w H h a o
end

section
variable {P : Program} {w : World} {H H' : Hp} {h h' : Heap} {a : Addr} {o : HO}
theorem ObjOk.lt (x : ObjOk P w H h a o) : a < h.objs.size := by
  cases o with
  | lst xs => obtain ⟨_, _, _, _, e⟩ := x; exact Heap.lt_size e
  | tup xs => obtain ⟨_, _, _, p⟩ := x; exact p.lt
  | dK kvs => obtain ⟨_, _, _, _, o, _, _, e, _⟩ := x; exact Heap.lt_size e
  | dT kvs => obtain ⟨_, _, _, _, o, _, _, e, _⟩ := x; exact Heap.lt_size e
  | set S n => obtain ⟨o, _, _, _, e, _⟩ := x; exact Heap.lt_size e
  | ins C dx fs => obtain ⟨_, _, _, e, _⟩ := x; exact Heap.lt_size e
  | own y => obtain ⟨_, e⟩ := x; exact Heap.lt_size e
  | xd fs => obtain ⟨_, ⟨_, _, _, e, _⟩, _⟩ := x; exact Heap.lt_size e
  | rng lo hi => obtain ⟨_, _, _, e⟩ := x; exact Heap.lt_size e
  | frz ob u => obtain ⟨e, _⟩ := x; exact Heap.lt_size e
  | tbl ps => exact Heap.lt_size (show h.get? a = some _ from x)
  | met f y => exact Heap.lt_size (show h.get? a = some _ from x)
  | ext φ => obtain ⟨_, ⟨_, e⟩, _⟩ := x; exact Heap.lt_size e
theorem Paired.mapP {α β : Type} {F G : α → β → Prop} : ∀ {l₁ : List α} {l₂ : List β}, Paired F l₁ l₂ → (∀ a b, F a b → G a b) → Paired G l₁ l₂
  | _, _, .nil, _ => .nil
  | _, _, .cons r t, f => .cons (f _ _ r) (Paired.mapP t f)
/-- what an object's description leans on: its own object, its own dict, the tuples -/
theorem ObjOk.stay (x : ObjOk P w H h a o) (k : ∀ b u, (b = a ∨ H b = some (.own a)) → h.get? b = some u → h'.get? b = some u)
    (ho : ∀ b, H b = some (.own a) → H' b = some (.own a)) (ht : ∀ b xs, H b = some (.tup xs) → H' b = some (.tup xs)) : ObjOk P w H' h' a o := by
  induction o with
  | lst xs => obtain ⟨z, its, n, r, e⟩ := x; exact ⟨z, its, n, r, k _ _ (.inl rfl) e⟩
  | tup xs => obtain ⟨z, its, r, ob, e, c⟩ := x; exact ⟨z, its, r, ob, k _ _ (.inl rfl) e, c⟩
  | dK kvs => obtain ⟨z, y, vs, r, ob, es, ep, e, c⟩ := x; exact ⟨z, y, vs, r, ob, es, ep, k _ _ (.inl rfl) e, c⟩
  | dT kvs =>
    obtain ⟨z, y, xs, r, ob, es, ep, e, c⟩ := x
    exact ⟨z, y, xs, Paired.mapP r fun p q z => ⟨z.1, ht _ _ z.2.1, z.2.2⟩, ob, es, ep, k _ _ (.inl rfl) e, c⟩
  | set S n => obtain ⟨ob, es, ep, t, e, c⟩ := x; exact ⟨ob, es, ep, t, k _ _ (.inl rfl) e, c⟩
  | ins C dx fs =>
    obtain ⟨d, z, ne, e, mA, ⟨od, es, ep, e2, c⟩, r⟩ := x
    exact ⟨ho _ d, z, ne, k _ _ (.inl rfl) e, mA, ⟨od, es, ep, k _ _ (.inr d) e2, c⟩, r⟩
  | own y => obtain ⟨ob, e⟩ := x; exact ⟨ob, k _ _ (.inl rfl) e⟩
  | xd fs => obtain ⟨mA, ⟨od, es, ep, e, c⟩, r⟩ := x; exact ⟨mA, ⟨od, es, ep, k _ _ (.inl rfl) e, c⟩, r⟩
  | rng lo hi => obtain ⟨t, u, v, e⟩ := x; exact ⟨t, u, v, k _ _ (.inl rfl) e⟩
  | frz ob u ih => obtain ⟨e, q⟩ := x; exact ⟨k _ _ (.inl rfl) e, ih q⟩
  | tbl ps =>
    have e : h.get? a = some { cls := .none, data := .fields ps } := x
    show h'.get? a = some { cls := .none, data := .fields ps }
    exact k a _ (.inl rfl) e
  | met f y =>
    have e : h.get? a = some (PySem.W.methodObj (.ref f) (.ref y)) := x
    show h'.get? a = some (PySem.W.methodObj (.ref f) (.ref y))
    exact k a _ (.inl rfl) e
  | ext φ => obtain ⟨p, ⟨o, e⟩, st⟩ := x; exact ⟨st _ _ p fun o q => k _ _ (.inl rfl) q, ⟨o, k _ _ (.inl rfl) e⟩, st⟩
theorem HOk.lt (x : HOk P w H h) (e : H a = some o) : a < h.objs.size := (x a o e).lt
theorem HOk.fresh (x : HOk P w H h) (e : h.objs.size ≤ a) : H a = none := by
  cases q : H a with
  | none => rfl
  | some u => exact absurd (Nat.lt_of_lt_of_le (x.lt q) e) (Nat.lt_irrefl _)
/-- every object of the heap is kept -/
theorem HOk.kept (x : HOk P w H h) (k : ∀ b u, h.get? b = some u → h'.get? b = some u) : HOk P w H h' := fun a o e =>
  (x a o e).stay (fun b u _ q => k b u q) (fun _ q => q) fun _ _ q => q
/-- a new object is laid and tracked -/
theorem HOk.laid (x : HOk P w H h) (k : ∀ b u, h.get? b = some u → h'.get? b = some u) (hp : h.objs.size ≤ a) (new : ObjOk P w (upd H a o) h' a o) : HOk P w (upd H a o) h' := fun b u e => by
  have hn := x.fresh hp
  by_cases hb : b = a
  · subst hb; rw [upd_same] at e; cases e; exact new
  · rw [upd_ne hb] at e
    exact (x b u e).stay (fun c v _ q => k c v q) (fun c q => by rw [upd_ne (ne_of_none q hn)]; exact q) fun c xs q => by rw [upd_ne (ne_of_none q hn)]; exact q
end

/-- what may be read as u: it is u, or a known u -/
def Rd (H : Hp) (a : Addr) (u : HO) : Prop := H a = some u ∨ ∃ o, H a = some (.frz o u)
theorem Rd.ok {P : Program} {w : World} {H : Hp} {h : Heap} {a : Addr} {u : HO} (r : Rd H a u) (x : HOk P w H h) : ObjOk P w H h a u := by
  rcases r with r | ⟨o, r⟩
  · exact x a u r
  · obtain ⟨_, q⟩ := x a _ r
    exact q
/-- what may be written -/
def Mut : Option HO → Prop
  | some (.lst _) => True
  | some (.dK _) => True
  | some (.dT _) => True
  | some (.set _ _) => True
  | some (.ins _ _ _) => True
  | some (.ext _) => True
  | _ => False
section
variable {P : Program} {w : World} {H : Hp} {h h' : Heap} {x e : Addr} {o' : HO}
/-- the object at e is changed: x itself, or the dict of the instance x -/
theorem HOk.write (ok : HOk P w H h) (mu : Mut (H x)) (he : e = x ∨ H e = some (.own x)) (k : ∀ b u, b ≠ e → h.get? b = some u → h'.get? b = some u) (heo : ∃ u, h'.get? e = some u)
    (new : ObjOk P w (upd H x o') h' x o') : HOk P w (upd H x o') h' := fun b u q => by
  have nown : ∀ c y, H c = some (.own y) → c ≠ x := fun c y r z => by subst z; rw [r] at mu; exact mu
  have ntup : ∀ c xs, H c = some (.tup xs) → c ≠ x := fun c xs r z => by subst z; rw [r] at mu; exact mu
  by_cases hb : b = x
  · subst hb; rw [upd_same] at q; cases q; exact new
  · rw [upd_ne hb] at q
    by_cases hbe : b = e
    · have q' : H b = some (.own x) := by
        rcases he with z | z
        · exact absurd (hbe.trans z) hb
        · rw [hbe]; exact z
      rw [q] at q'; cases q'
      obtain ⟨v, hv⟩ := heo
      exact ⟨v, by rw [hbe]; exact hv⟩
    · refine (ok b u q).stay (fun c v hc r => k c v ?_ r) (fun c r => by rw [upd_ne (nown c b r)]; exact r) fun c xs r => by rw [upd_ne (ntup c xs r)]; exact r
      rcases hc with rfl | hc
      · exact hbe
      · rintro rfl
        rcases he with z | z
        · exact nown c b hc z
        · rw [hc] at z; cases z; exact hb rfl
end

/-! ### kept unless tracked; of the frames at fs (the callers') the slots may change (an exception that passes writes there); of the records at ex (iterators) nothing is said -/
structure Un (fs ex : List Addr) (H H' : Hp) (h h' : Heap) : Prop where
  keep : ∀ b o, h.get? b = some o → H b = none → b ∉ fs → b ∉ ex → h'.get? b = some o
  slot : ∀ b o, h.get? b = some o → H b = none → b ∈ fs → b ∉ ex → ∃ sl, h'.get? b = some { o with slots := sl }
  free : ∀ b o, h.get? b = some o → H b = none → b ∉ ex → H' b = none
  there : ∀ b o, h.get? b = some o → b ∉ ex → ∃ o', h'.get? b = some o'
  tups : ∀ b xs, H b = some (.tup xs) → H' b = some (.tup xs)
  frzs : ∀ b o u, H b = some (.frz o u) → H' b = some (.frz o u)
  tbls : ∀ b ps, H b = some (.tbl ps) → ∃ more, H' b = some (.tbl (ps ++ more))
section
variable {fs fs' ex ex' : List Addr} {H H1 H2 : Hp} {h h1 h2 h' : Heap} {a x e : Addr} {o : HO}
theorem Un.any (u : Un fs ex H H1 h h1) {b : Addr} {ob : Obj} (q : h.get? b = some ob) (n : H b = none) (hx : b ∉ ex) : ∃ sl, h1.get? b = some { ob with slots := sl } := by
  by_cases hb : b ∈ fs
  · exact u.slot b ob q n hb hx
  · exact ⟨ob.slots, u.keep b ob q n hb hx⟩
theorem Un.kept (k : ∀ b u, h.get? b = some u → h'.get? b = some u) : Un fs ex H H h h' :=
  ⟨fun b ob q _ _ _ => k b ob q, fun b ob q _ _ _ => ⟨ob.slots, k b ob q⟩, fun _ _ _ n _ => n, fun b ob q _ => ⟨ob, k b ob q⟩, fun _ _ q => q, fun _ _ _ q => q, fun _ ps q => ⟨#[], by rw [q]; simp⟩⟩
theorem Un.refl : Un fs ex H H h h := Un.kept fun _ _ q => q
theorem Un.laid (k : ∀ b u, h.get? b = some u → h'.get? b = some u) (hp : h.objs.size ≤ a) (hn : H a = none) : Un fs ex H (upd H a o) h h' where
  keep := fun b u q _ _ _ => k b u q
  slot := fun b u q _ _ _ => ⟨u.slots, k b u q⟩
  free := fun b u q n _ => by rw [upd_ne (Nat.ne_of_lt (Nat.lt_of_lt_of_le (Heap.lt_size q) hp))]; exact n
  there := fun b u q _ => ⟨u, k b u q⟩
  tups := fun b xs q => by rw [upd_ne (ne_of_none q hn)]; exact q
  frzs := fun b u xs q => by rw [upd_ne (ne_of_none q hn)]; exact q
  tbls := fun b ps q => ⟨#[], by rw [upd_ne (ne_of_none q hn), q]; simp⟩
theorem Un.write (mu : Mut (H x)) (he : e = x ∨ H e = some (.own x)) (k : ∀ b u, b ≠ e → h.get? b = some u → h'.get? b = some u) (heo : ∃ u, h'.get? e = some u) : Un fs ex H (upd H x o) h h' := by
  have hx : ∀ b, H b = none → b ≠ x := fun b n z => by subst z; rw [n] at mu; exact mu
  have hb : ∀ b, H b = none → b ≠ e := fun b n z => by
    subst z
    rcases he with r | r
    · exact hx b n r
    · rw [n] at r; cases r
  have hm : ∀ b u, H b = some u → ¬ Mut (some u) → b ≠ x := fun b u q nm z => by subst z; rw [q] at mu; exact nm mu
  refine ⟨fun b u q n _ _ => k b u (hb b n) q, fun b u q n _ _ => ⟨u.slots, k b u (hb b n) q⟩, fun b u q n _ => by rw [upd_ne (hx b n)]; exact n, fun b u q _ => ?_,
    fun b xs q => by rw [upd_ne (hm b _ q fun z => z)]; exact q, fun b u xs q => by rw [upd_ne (hm b _ q fun z => z)]; exact q, fun b ps q => ⟨#[], by rw [upd_ne (hm b _ q fun z => z), q]; simp⟩⟩
  by_cases hbe : b = e
  · subst hbe; exact heo
  · exact ⟨u, k b u hbe q⟩
end

/-! ### the heap without what is tracked -/
def trk (h : Heap) (H : Hp) : List Addr := (List.range h.objs.size).filter fun a => (H a).isSome
def hidT (h : Heap) (H : Hp) : Heap := PySem.W.hideAll h (trk h H)
theorem hidT_size (h : Heap) (H : Hp) : (hidT h H).objs.size = h.objs.size := PySem.W.hideAll_size _ _
theorem hidT_get {h : Heap} {H : Hp} {b : Addr} {o : Obj} (e : h.get? b = some o) (n : H b = none) : (hidT h H).get? b = some o :=
  PySem.W.hideAll_get _ e fun hm => by
    have q : (H b).isSome = true := (List.mem_filter.mp hm).2
    rw [n] at q; simp at q
theorem of_hidT {h : Heap} {H : Hp} {b : Addr} {o : Obj} (e : (hidT h H).get? b = some o) : h.get? b = some o ∧ H b = none := by
  have e' : h.get? b = some o := PySem.W.of_hideAll (trk h H) e
  refine ⟨e', ?_⟩
  cases q : H b with
  | none => rfl
  | some x =>
    have hm : b ∈ trk h H := List.mem_filter.mpr ⟨List.mem_range.mpr (Heap.lt_size e'), by simp [q]⟩
    have z : (hidT h H).get? b = none := PySem.W.hideAll_none (trk h H) hm
    rw [z] at e; cases e

/-! ### OpenK's ledger, filled with every new object but one -/
end L2

namespace L2
open PySem PySem.Spec PyProof.Rows

/-- the module's facts, over the base: the heap at the law's entry without what is tracked there -/
structure Mod (K : PySem.W.Frag) (mg : Str → Option Value) (base : Heap) : Prop where
  kin : K.In base
  glob : base.Ns mainGlobals mg
  blt : ∃ mb, base.Ns builtinsNs mb ∧ ∀ x : Str, x ≠ "__name__" → mb x = bootBuiltins x
  nolimit : base.NoLimit

/-- the context: a def's body (or a comprehension's block) running. base: fixed through the whole law; s₀, H₀: the entry; outer: the frames whose slots others may change (a def's callers); stack: all frames that run;
   ex: iterators that were made ahead of the entry and are walked here (a comprehension's); fn: the names whose cells were made at the entry (a def: all; a comprehension's block: its own); calm: not within an except suite; pn: pins that every state bears; xe: what is wanted of an exception that leaves the code -/
structure Cx where
  prog : Program
  w : World
  K : PySem.W.Frag
  mg : Str → Option Value
  base : Heap
  A : Around
  N : List Str
  s₀ : Shared
  H₀ : Hp
  env : Env
  outer : List Env
  stack : List Env
  ex : List Addr
  fn : Str → Bool
  calm : Bool
  pn : List (Addr × Obj)
  xe : Value → Shared → Prop
/-- the callers' frames -/
def frs (l : List Env) : List Addr := l.filterMap (·.frame)
abbrev Cx.fs (X : Cx) : List Addr := frs X.outer

def Vis (sc : Scope) (x : Str) : Prop := sc.names.lookup x = some .local ∨ sc.names.lookup x = some .cell ∨ sc.names.lookup x = some .free
def Loc (sc : Scope) (x : Str) : Prop := sc.names.lookup x = some .local ∨ sc.names.lookup x = some .cell
def Look (env : Env) (h : Heap) (m : Str → Option Value) (x : Str) (u : Value) : Prop :=
  (env.kindOf x = some .local ∧ m x = some u) ∨ ((env.kindOf x = some .cell ∨ env.kindOf x = some .free) ∧ ∃ c, env.cells.lookup x = some c ∧ h.IsCell c (some u))

structure Cx.Ok (X : Cx) : Prop where
  mod : Mod X.K X.mg X.base
  kind : X.env.scope.kind = .function
  glob : X.env.globals = mainGlobals
  blt : X.env.builtins = builtinsNs
  above : X.s₀.heap.objs.size ≤ X.env.locals
  inj : ∀ x y c, X.env.cells.lookup x = some c → X.env.cells.lookup y = some c → x = y
  has : ∀ x, (X.env.kindOf x = some .cell ∨ X.env.kindOf x = some .free) → ∃ c, X.env.cells.lookup x = some c
  cab : ∀ x c, X.fn x = true → X.env.cells.lookup x = some c → X.s₀.heap.objs.size ≤ c
  hd : X.calm = true → X.A.handled = none
  frames : X.A.frames = some X.stack
  stk : X.stack = X.outer ∨ (X.stack = X.env :: X.outer ∧ X.env.frame = some X.env.locals)
  exf : ∀ b ∈ X.ex, b ≠ X.env.locals ∧ ∀ x c, X.env.cells.lookup x = some c → c ≠ b
  bs : ∀ b o, X.base.get? b = some o → X.s₀.heap.get? b = some o ∧ X.H₀ b = none
  bsz : X.base.objs.size ≤ X.s₀.heap.objs.size
  noex : ∀ b o, X.base.get? b = some o → b ∉ X.ex
  exfs : ∀ b ∈ X.ex, b ∉ X.fs
  funs : X.s₀.heap.FunFrames X.base X.outer
  frf : ∀ b ∈ X.fs, X.H₀ b = none

structure Inv (X : Cx) (pins : List (Addr × Obj)) (σ : List (Option V)) (H : Hp) (s : Shared) : Prop where
  ok : X.Ok
  os : s.os = X.s₀.os
  bare : AllBare s.gens
  base : Un X.fs X.ex X.H₀ H X.s₀.heap s.heap
  loc : ∃ m, s.heap.Ns X.env.locals m ∧ ∀ (i : Nat) (x : Str) (v : V), X.N[i]? = some x → σ[i]? = some (some v) → Vis X.env.scope x → ∃ u, RelV v u ∧ Look X.env s.heap m x u
  cell : ∀ x c, X.env.cells.lookup x = some c → ∃ v, s.heap.IsCell c v
  free : H X.env.locals = none
  freeC : ∀ x c, X.env.cells.lookup x = some c → H c = none
  pin : ∀ p ∈ X.pn ++ pins, s.heap.get? p.1 = some p.2 ∧ H p.1 = none ∧ p.1 ≠ X.env.locals ∧ p.1 ∉ X.fs ∧ ∀ v, p.2.data ≠ .cell v
  hok : HOk X.prog X.w H s.heap
  len : σ.length = X.N.length

section
variable {X : Cx} {pins : List (Addr × Obj)} {σ : List (Option V)} {H H' : Hp} {s : Shared} {h' : Heap}

theorem Cx.Ok.nofr (ok : X.Ok) {b : Addr} {o : Obj} (e : X.base.get? b = some o) : b ∉ X.fs := fun hb => by
  have := (ok.funs.mem hb).1
  rw [e] at this; cases this
theorem Inv.bs (I : Inv X pins σ H s) : ∀ b o, X.base.get? b = some o → s.heap.get? b = some o ∧ H b = none := fun b o e =>
  ⟨I.base.keep b o (I.ok.bs b o e).1 (I.ok.bs b o e).2 (I.ok.nofr e) (I.ok.noex b o e), I.base.free b o (I.ok.bs b o e).1 (I.ok.bs b o e).2 (I.ok.noex b o e)⟩
theorem Inv.bk (I : Inv X pins σ H s) : ∀ b o, X.base.get? b = some o → s.heap.get? b = some o := fun b o e => (I.bs b o e).1
theorem Inv.mod (I : Inv X pins σ H s) : Mod X.K X.mg X.base := I.ok.mod
theorem Inv.kIn (I : Inv X pins σ H s) : X.K.In s.heap := I.ok.mod.kin.keeps I.bk
/-- the frame over the base: for OpenK's rules (K.In X.base is I.mod.kin) -/
theorem Inv.fr (I : Inv X pins σ H s) : ∃ m, Fr X.base X.env.locals s.heap m :=
  let ⟨m, hn, _⟩ := I.loc
  ⟨m, hn, I.bk, Nat.le_trans I.ok.bsz I.ok.above⟩
theorem Inv.lt (I : Inv X pins σ H s) : X.env.locals < s.heap.objs.size := let ⟨_, hn, _⟩ := I.loc; hn.lt
theorem Inv.sz (I : Inv X pins σ H s) : X.s₀.heap.objs.size ≤ s.heap.objs.size := Nat.le_trans I.ok.above (Nat.le_of_lt I.lt)
theorem Inv.nofs (I : Inv X pins σ H s) {a : Addr} (h : s.heap.objs.size ≤ a) : a ∉ X.fs := fun hb => by
  obtain ⟨_, o, ho, _⟩ := I.ok.funs.mem hb
  exact absurd (Nat.lt_of_lt_of_le (Heap.lt_size ho) (Nat.le_trans I.sz h)) (Nat.lt_irrefl _)
theorem Inv.cne (I : Inv X pins σ H s) : ∀ x c, X.env.cells.lookup x = some c → c ≠ X.env.locals := fun x c e z => by
  obtain ⟨v, o, ho, hd⟩ := I.cell x c e
  obtain ⟨m, ⟨o', es, ep, ho', hd', _⟩, _⟩ := I.loc
  rw [z, ho'] at ho; cases ho; rw [hd'] at hd; cases hd
theorem Inv.funs (I : Inv X pins σ H s) : s.heap.FunFrames X.base X.outer := by
  have all : ∀ (l : List Env), (∀ b ∈ frs l, b ∈ X.fs) → X.s₀.heap.FunFrames X.base l → s.heap.FunFrames X.base l := by
    intro l
    induction l with
    | nil => intro _ _; trivial
    | cons env r ih =>
      intro hs hl
      obtain ⟨hk, ⟨L, o, hf, hn, ho, hd⟩, hr⟩ := hl
      have hL : L ∈ X.fs := hs L (by unfold frs; rw [List.filterMap_cons, hf]; exact List.mem_cons_self)
      obtain ⟨sl, e⟩ := I.base.slot L o ho (I.ok.frf L hL) hL fun z => I.ok.exfs L z hL
      exact ⟨hk, ⟨L, _, hf, hn, e, hd⟩, ih (fun b hb => hs b (by unfold frs; rw [List.filterMap_cons, hf]; exact List.mem_cons_of_mem _ hb)) hr⟩
  exact all X.outer (fun _ hb => hb) I.ok.funs

/-- the frames that run, for a call -/
theorem Inv.stack (I : Inv X pins σ H s) : s.heap.FunFrames X.base X.stack := by
  rcases I.ok.stk with e | ⟨e, hf⟩
  · rw [e]; exact I.funs
  · rw [e]
    obtain ⟨m, hn, _⟩ := I.loc
    refine .cons (by rw [I.ok.kind]; decide) hf hn ?_ I.funs
    exact Heap.get?_none_of_le (Nat.le_trans I.ok.bsz I.ok.above)
theorem Inv.stkSub (I : Inv X pins σ H s) : ∀ b ∈ frs X.stack, b ∈ X.env.locals :: X.fs := fun b hb => by
  rcases I.ok.stk with e | ⟨e, hf⟩
  · rw [e] at hb; exact List.mem_cons_of_mem _ hb
  · rw [e] at hb
    unfold frs at hb
    rw [List.filterMap_cons, hf] at hb
    exact hb
theorem Inv.stkFree (I : Inv X pins σ H s) : ∀ b ∈ frs X.stack, H b = none := fun b hb => by
  rcases List.mem_cons.mp (I.stkSub b hb) with e | hb
  · rw [e]; exact I.free
  · obtain ⟨_, o, ho, _⟩ := I.ok.funs.mem hb
    exact I.base.free b o ho (I.ok.frf b hb) fun z => I.ok.exfs b z hb

/-- THE STEP: the untracked objects but the frame and the records at ch are kept (the callers' frames up to slots), the frame's map is kept, the new abstract heap is held -/
theorem Inv.step {g' : Array GenState} {t' : Nat} {d' : Drawn} {ch : List Addr} (I : Inv X pins σ H s)
    (hch : ∀ b ∈ ch, (b ∈ X.ex ∨ X.s₀.heap.objs.size ≤ b) ∧ b ≠ X.env.locals ∧ (∀ x c, X.env.cells.lookup x = some c → c ≠ b) ∧ ∀ p ∈ X.pn ++ pins, p.1 ≠ b)
    (keep : ∀ b o, b ≠ X.env.locals → b ∉ X.fs → b ∉ ch → s.heap.get? b = some o → H b = none → h'.get? b = some o)
    (slot : ∀ b o, b ≠ X.env.locals → b ∈ X.fs → b ∉ ch → s.heap.get? b = some o → H b = none → ∃ sl, h'.get? b = some { o with slots := sl }) (free : ∀ b o, b ∉ ch → s.heap.get? b = some o → H b = none → H' b = none)
    (there : ∀ b o, b ∉ ch → s.heap.get? b = some o → ∃ o', h'.get? b = some o')
    (tups : ∀ b xs, H b = some (.tup xs) → H' b = some (.tup xs)) (frzs : ∀ b o u, H b = some (.frz o u) → H' b = some (.frz o u)) (tbls : ∀ b ps, H b = some (.tbl ps) → ∃ more, H' b = some (.tbl (ps ++ more)))
    (ns : ∀ m, s.heap.Ns X.env.locals m → h'.Ns X.env.locals m) (hok : HOk X.prog X.w H' h') (hg : AllBare g') :
    Inv X pins σ H' { s with heap := h', gens := g', drawn := d', toks := t' } := by
  have neL : ∀ b o, X.s₀.heap.get? b = some o → b ≠ X.env.locals := fun b o e => Nat.ne_of_lt (Nat.lt_of_lt_of_le (Heap.lt_size e) I.ok.above)
  have neC : ∀ b o, X.s₀.heap.get? b = some o → b ∉ X.ex → b ∉ ch := fun b o e hx hb => by
    rcases (hch b hb).1 with z | z
    · exact hx z
    · exact absurd (Nat.lt_of_lt_of_le (Heap.lt_size e) z) (Nat.lt_irrefl _)
  have cellK : ∀ x c, X.env.cells.lookup x = some c → ∀ v, s.heap.IsCell c v → h'.IsCell c v := fun x c e v ⟨o, ho, hd⟩ => by
    have nch : c ∉ ch := fun z => (hch c z).2.2.1 x c e rfl
    by_cases hc : c ∈ X.fs
    · obtain ⟨sl, q⟩ := slot c o (I.cne x c e) hc nch ho (I.freeC x c e)
      exact ⟨_, q, hd⟩
    · exact ⟨o, keep c o (I.cne x c e) hc nch ho (I.freeC x c e), hd⟩
  refine ⟨I.ok, I.os, hg, ⟨fun b o e n hb hx => ?_, fun b o e n hb hx => ?_, fun b o e n hx => ?_, fun b o e hx => ?_, fun b xs e => tups b xs (I.base.tups b xs e), fun b o xs e => frzs b o xs (I.base.frzs b o xs e), fun b ps e => ?_⟩, ?_, fun x c e => ?_, ?_, fun x c e => ?_, fun p hp => ?_, hok, I.len⟩
  · exact keep b o (neL b o e) hb (neC b o e hx) (I.base.keep b o e n hb hx) (I.base.free b o e n hx)
  · obtain ⟨sl, e1⟩ := I.base.slot b o e n hb hx
    obtain ⟨sl', e2⟩ := slot b _ (neL b o e) hb (neC b o e hx) e1 (I.base.free b o e n hx)
    exact ⟨sl', e2⟩
  · obtain ⟨o', e1⟩ := I.base.there b o e hx
    exact free b o' (neC b o e hx) e1 (I.base.free b o e n hx)
  · obtain ⟨o', e1⟩ := I.base.there b o e hx
    exact there b o' (neC b o e hx) e1
  · obtain ⟨m1, e1⟩ := I.base.tbls b ps e
    obtain ⟨m2, e2⟩ := tbls b _ e1
    exact ⟨m1 ++ m2, by rw [e2, Array.append_assoc]⟩
  · obtain ⟨m, hn, hl⟩ := I.loc
    refine ⟨m, ns m hn, fun i x v e1 e2 e3 => ?_⟩
    obtain ⟨u, r, l⟩ := hl i x v e1 e2 e3
    refine ⟨u, r, ?_⟩
    rcases l with l | ⟨k, c, e, z⟩
    · exact .inl l
    · exact .inr ⟨k, c, e, cellK x c e _ z⟩
  · obtain ⟨v, z⟩ := I.cell x c e
    exact ⟨v, cellK x c e v z⟩
  · obtain ⟨m, ⟨o, _, _, ho, _⟩, _⟩ := I.loc
    exact free _ o (fun z => (hch _ z).2.1 rfl) ho I.free
  · obtain ⟨v, o, ho, hd⟩ := I.cell x c e
    exact free c o (fun z => (hch c z).2.2.1 x c e rfl) ho (I.freeC x c e)
  · obtain ⟨e, n, ne, nf, d⟩ := I.pin p hp
    have nch : p.1 ∉ ch := fun z => (hch p.1 z).2.2.2 p hp rfl
    exact ⟨keep p.1 p.2 ne nf nch e n, free p.1 p.2 nch e n, ne, nf, d⟩
/-- .. where the frame's own object is kept too -/
theorem Inv.un {t' : Nat} (I : Inv X pins σ H s) (u : Un X.fs [] H H' s.heap h') (hok : HOk X.prog X.w H' h') : Inv X pins σ H' { s with heap := h', toks := t' } := by
  obtain ⟨m, ⟨o, es, ep, ho, r⟩, _⟩ := id I.loc
  obtain ⟨sl, hL⟩ := u.any ho I.free (by simp)
  exact I.step (g' := s.gens) (d' := s.drawn) (ch := []) (fun _ z => nomatch z) (fun b o _ hb _ e n => u.keep b o e n hb (by simp)) (fun b o _ hb _ e n => u.slot b o e n hb (by simp)) (fun b o _ e n => u.free b o e n (by simp)) (fun b o _ e => u.there b o e (by simp)) u.tups u.frzs u.tbls (fun m' hm => by
    obtain ⟨o', es', ep', ho', r'⟩ := hm
    rw [ho] at ho'; cases ho'
    exact ⟨_, es', ep', hL, r'⟩) hok I.bare
/-- behind a call (or a comprehension's block): the slots of this frame may have changed too, the records at ch may have turned -/
theorem Inv.call {g' : Array GenState} {t' : Nat} {d' : Drawn} {ch : List Addr} (I : Inv X pins σ H s) (u : Un (frs X.stack) ch H H' s.heap h') (hok : HOk X.prog X.w H' h') (hg : AllBare g')
    (hch : ∀ b ∈ ch, (b ∈ X.ex ∨ X.s₀.heap.objs.size ≤ b) ∧ b ≠ X.env.locals ∧ (∀ x c, X.env.cells.lookup x = some c → c ≠ b) ∧ ∀ p ∈ X.pn ++ pins, p.1 ≠ b) :
    Inv X pins σ H' { s with heap := h', gens := g', drawn := d', toks := t' } := by
  obtain ⟨m, ⟨o, es, ep, ho, r⟩, _⟩ := id I.loc
  obtain ⟨sl, hL⟩ := u.any ho I.free fun z => (hch _ z).2.1 rfl
  exact I.step (ch := ch) hch (fun b o hL hb hc e n => u.keep b o e n (fun z => (List.mem_cons.mp (I.stkSub b z)).elim hL hb) hc) (fun b o _ _ hc e n => u.any e n hc) (fun b o hc e n => u.free b o e n hc) (fun b o hc e => u.there b o e hc) u.tups u.frzs u.tbls (fun m' hm => by
    obtain ⟨o', es', ep', ho', r'⟩ := hm
    rw [ho] at ho'; cases ho'
    exact ⟨_, es', ep', hL, r'⟩) hok hg
/-- an untracked record of ours (an iterator) has turned -/
theorem Inv.turned {t' : Nat} {it : Addr} (I : Inv X pins σ H s) (k : ∀ b o, b ≠ it → s.heap.get? b = some o → h'.get? b = some o) (hn : H it = none) (hL : it ≠ X.env.locals)
    (h1 : it ∈ X.ex ∨ X.s₀.heap.objs.size ≤ it) (h2 : ∀ x c, X.env.cells.lookup x = some c → c ≠ it) (h3 : ∀ p ∈ X.pn ++ pins, p.1 ≠ it) : Inv X pins σ H { s with heap := h', toks := t' } := by
  have nit : ∀ b u, H b = some u → b ≠ it := fun b u e z => by rw [z, hn] at e; cases e
  refine I.step (g' := s.gens) (d' := s.drawn) (ch := [it]) (fun b hb => ?_) (fun b o _ _ hc e _ => k b o (fun z => hc (by simp [z])) e) (fun b o _ _ hc e _ => ⟨o.slots, k b o (fun z => hc (by simp [z])) e⟩) (fun _ _ _ _ n => n)
    (fun b o hc e => ⟨o, k b o (fun z => hc (by simp [z])) e⟩) (fun _ _ e => e) (fun _ _ _ e => e) (fun b ps e => ⟨#[], by rw [e]; simp⟩) (fun m hm => ?_) (fun b u e => ?_) I.bare
  · have e : b = it := by simpa using hb
    subst e
    exact ⟨h1, hL, h2, h3⟩
  · obtain ⟨o, es, ep, ho, r⟩ := hm
    exact ⟨o, es, ep, k _ o (Ne.symm hL) ho, r⟩
  · refine (I.hok b u e).stay (fun c v hc q => k c v ?_ q) (fun _ q => q) fun _ _ q => q
    rcases hc with z | z
    · rw [z]; exact nit b u e
    · exact nit c _ z
theorem Inv.tok (I : Inv X pins σ H s) (t : Nat) : Inv X pins σ H { s with toks := t } := I.un (h' := s.heap) (t' := t) Un.refl I.hok
/-- all objects kept -/
theorem Inv.kept {t' : Nat} (I : Inv X pins σ H s) (k : ∀ b u, s.heap.get? b = some u → h'.get? b = some u) : Inv X pins σ H { s with heap := h', toks := t' } := I.un (Un.kept k) (I.hok.kept k)
/-- a new object laid and tracked -/
theorem Inv.laid {a : Addr} {o : HO} {t' : Nat} (I : Inv X pins σ H s) (k : ∀ b u, s.heap.get? b = some u → h'.get? b = some u) (hp : s.heap.objs.size ≤ a) (new : ObjOk X.prog X.w (upd H a o) h' a o) :
    Inv X pins σ (upd H a o) { s with heap := h', toks := t' } := I.un (Un.laid k hp (I.hok.fresh hp)) (I.hok.laid k hp new)
/-- an object written -/
theorem Inv.write {x e : Addr} {o : HO} {t' : Nat} (I : Inv X pins σ H s) (mu : Mut (H x)) (he : e = x ∨ H e = some (.own x)) (k : ∀ b u, b ≠ e → s.heap.get? b = some u → h'.get? b = some u) (heo : ∃ u, h'.get? e = some u)
    (new : ObjOk X.prog X.w (upd H x o) h' x o) : Inv X pins σ (upd H x o) { s with heap := h', toks := t' } := I.un (Un.write mu he k heo) (I.hok.write mu he k heo new)
theorem Inv.pins_of {pins' : List (Addr × Obj)} (I : Inv X pins σ H s) (h : ∀ p ∈ pins', s.heap.get? p.1 = some p.2 ∧ H p.1 = none ∧ p.1 ≠ X.env.locals ∧ p.1 ∉ X.fs ∧ ∀ v, p.2.data ≠ .cell v) : Inv X pins' σ H s :=
  ⟨I.ok, I.os, I.bare, I.base, I.loc, I.cell, I.free, I.freeC, fun p hp => (List.mem_append.mp hp).elim (fun z => I.pin p (List.mem_append_left _ z)) (h p), I.hok, I.len⟩

theorem nodup_ix {N : List Str} (hN : N.Nodup) {i j : Nat} {x : Str} (a : N[i]? = some x) (b : N[j]? = some x) : i = j := by
  obtain ⟨h1, e1⟩ := List.getElem?_eq_some_iff.mp a
  obtain ⟨h2, e2⟩ := List.getElem?_eq_some_iff.mp b
  exact (List.getElem_inj hN).mp (e1.trans e2.symm)

/-- a name is stored; what changed -/
theorem store_ok2 {M : Model} {A : Around} {E : Value → Shared → Prop} {i : Nat} {x : Str} {v : V} {u : Value} {Q : Unit → Shared → Prop} (I : Inv X pins σ H s) (hN : X.N.Nodup) (hi : X.N[i]? = some x) (hx : Loc X.env.scope x) (r : RelV v u)
    (h : ∀ s', Inv X pins (σ.set i (some v)) H s' → (∃ a, Heap.SameBut a s.heap s'.heap ∧ (a = X.env.locals ∨ X.env.cells.lookup x = some a)) → Q () s') (hf : X.fn x = true ∨ X.env.scope.names.lookup x = some .local := by first | exact .inl rfl | exact .inr rfl | assumption) : wpAny M A (storeName X.env x u) Q E s := by
  obtain ⟨m, hn, hl⟩ := id I.loc
  have hcls : (X.env.scope.kind == .class || (X.env.scope.kind == .module && X.env.locals != X.env.globals)) = false := by rw [I.ok.kind]; rfl
  have hiσ : i < σ.length := by rw [I.len]; exact (List.getElem?_eq_some_iff.mp hi).1
  have cne := I.cne
  have tracked : ∀ {a : Addr} {h' : Heap}, (∃ o, s.heap.get? a = some o ∧ H a = none) → Heap.SameBut a s.heap h' → HOk X.prog X.w H h' := fun {a h'} ha hs b ob e => by
    obtain ⟨_, _, hfree⟩ := ha
    refine (I.hok b ob e).stay (fun c w' hc q => (hs.2 c ?_).trans q) (fun _ q => q) fun _ _ q => q
    rintro rfl
    rcases hc with rfl | hc
    · rw [hfree] at e; cases e
    · rw [hfree] at hc; cases hc
  rcases hx with hk | hk
  · refine wpAny_storeName_local hk hn (fun h' hn' hs => ?_) hcls
    obtain ⟨oL, _, _, hoL, _⟩ := id hn
    refine h _ ⟨I.ok, I.os, I.bare, ⟨fun b o e n hb hx => ?_, fun b o e n hb hx => ?_, I.base.free, fun b o e hx => ?_, I.base.tups, I.base.frzs, I.base.tbls⟩, ⟨_, hn', fun j y v' e1 e2 e3 => ?_⟩, fun y c e => ?_, I.free, I.freeC, fun p hp => ?_, tracked ⟨oL, hoL, I.free⟩ hs, by simpa using I.len⟩ ⟨_, hs, .inl rfl⟩
    · exact (hs.2 b (Nat.ne_of_lt (Nat.lt_of_lt_of_le (Heap.lt_size e) I.ok.above))).trans (I.base.keep b o e n hb hx)
    · obtain ⟨sl, e1⟩ := I.base.slot b o e n hb hx
      exact ⟨sl, (hs.2 b (Nat.ne_of_lt (Nat.lt_of_lt_of_le (Heap.lt_size e) I.ok.above))).trans e1⟩
    · obtain ⟨o', e1⟩ := I.base.there b o e hx
      exact ⟨o', (hs.2 b (Nat.ne_of_lt (Nat.lt_of_lt_of_le (Heap.lt_size e) I.ok.above))).trans e1⟩
    · by_cases hj : j = i
      · subst hj
        rw [hi] at e1; cases e1
        rw [List.getElem?_set_self hiσ] at e2
        cases e2
        exact ⟨u, r, .inl ⟨hk, by simp⟩⟩
      · rw [List.getElem?_set_ne (Ne.symm hj)] at e2
        obtain ⟨u', r', q⟩ := hl j y v' e1 e2 e3
        refine ⟨u', r', ?_⟩
        rcases q with ⟨k, e⟩ | ⟨k, c, e, z⟩
        · refine .inl ⟨k, ?_⟩
          have : y ≠ x := fun e => hj (nodup_ix hN e1 (e ▸ hi))
          simp [this, e]
        · exact .inr ⟨k, c, e, z.sameBut hs (cne y c e)⟩
    · obtain ⟨w', z⟩ := I.cell y c e
      exact ⟨w', z.sameBut hs (cne y c e)⟩
    · obtain ⟨e, n, ne, nf, d⟩ := I.pin p hp
      exact ⟨(hs.2 p.1 ne).trans e, n, ne, nf, d⟩
  · have hfn : X.fn x = true := by
      rcases hf with z | z
      · exact z
      · rw [z] at hk; cases hk
    obtain ⟨c, hc⟩ := I.ok.has x (.inl hk)
    obtain ⟨w', z⟩ := I.cell x c hc
    refine wpAny_storeName_cell I.ok.kind hk hc z (fun h' hc' hs => ?_)
    obtain ⟨oc, hoc, hocd⟩ := id z
    refine h { s with heap := h' } ⟨I.ok, I.os, I.bare, ⟨fun b o e n hb hx => ?_, fun b o e n hb hx => ?_, I.base.free, fun b o e hx => ?_, I.base.tups, I.base.frzs, I.base.tbls⟩, ⟨m, hn.sameBut hs (Ne.symm (cne x c hc)), fun j y v' e1 e2 e3 => ?_⟩, fun y c' e => ?_, I.free, I.freeC, fun p hp => ?_, tracked ⟨oc, hoc, I.freeC x c hc⟩ hs, by simpa using I.len⟩ ⟨c, hs, .inr hc⟩
    · exact (hs.2 b (Nat.ne_of_lt (Nat.lt_of_lt_of_le (Heap.lt_size e) (I.ok.cab x c hfn hc)))).trans (I.base.keep b o e n hb hx)
    · obtain ⟨sl, e1⟩ := I.base.slot b o e n hb hx
      exact ⟨sl, (hs.2 b (Nat.ne_of_lt (Nat.lt_of_lt_of_le (Heap.lt_size e) (I.ok.cab x c hfn hc)))).trans e1⟩
    · obtain ⟨o', e1⟩ := I.base.there b o e hx
      exact ⟨o', (hs.2 b (Nat.ne_of_lt (Nat.lt_of_lt_of_le (Heap.lt_size e) (I.ok.cab x c hfn hc)))).trans e1⟩
    · by_cases hj : j = i
      · subst hj
        rw [hi] at e1; cases e1
        rw [List.getElem?_set_self hiσ] at e2
        cases e2
        exact ⟨u, r, .inr ⟨.inl hk, c, hc, hc'⟩⟩
      · rw [List.getElem?_set_ne (Ne.symm hj)] at e2
        obtain ⟨u', r', q⟩ := hl j y v' e1 e2 e3
        refine ⟨u', r', ?_⟩
        rcases q with q | ⟨k, c', e, z'⟩
        · exact .inl q
        · refine .inr ⟨k, c', e, z'.sameBut hs ?_⟩
          rintro rfl
          exact hj (nodup_ix hN e1 (I.ok.inj _ _ _ e hc ▸ hi))
    · by_cases hcc : c' = c
      · subst hcc; exact ⟨_, hc'⟩
      · obtain ⟨w2, z2⟩ := I.cell y c' e
        exact ⟨w2, z2.sameBut hs hcc⟩
    · obtain ⟨e, n, ne, nf, d⟩ := I.pin p hp
      refine ⟨(hs.2 p.1 ?_).trans e, n, ne, nf, d⟩
      intro q
      rw [q, hoc] at e
      have q' : oc = p.2 := Option.some.inj e
      exact d w' (by rw [← q']; exact hocd)
theorem store_ok {M : Model} {A : Around} {E : Value → Shared → Prop} {i : Nat} {x : Str} {v : V} {u : Value} {Q : Unit → Shared → Prop} (I : Inv X pins σ H s) (hN : X.N.Nodup) (hi : X.N[i]? = some x) (hx : Loc X.env.scope x) (r : RelV v u)
    (h : ∀ s', Inv X pins (σ.set i (some v)) H s' → Q () s') (hf : X.fn x = true ∨ X.env.scope.names.lookup x = some .local := by first | exact .inl rfl | exact .inr rfl | assumption) : wpAny M A (storeName X.env x u) Q E s :=
  store_ok2 I hN hi hx r (fun s' I' _ => h s' I') hf
/-- behind a call or a block, the state as it is -/
theorem Inv.call' {s' : Shared} {ch : List Addr} (I : Inv X pins σ H s) (ho : s'.os = s.os) (u : Un (frs X.stack) ch H H' s.heap s'.heap) (hok : HOk X.prog X.w H' s'.heap) (hg : AllBare s'.gens)
    (hch : ∀ b ∈ ch, (b ∈ X.ex ∨ X.s₀.heap.objs.size ≤ b) ∧ b ≠ X.env.locals ∧ (∀ x c, X.env.cells.lookup x = some c → c ≠ b) ∧ ∀ p ∈ X.pn ++ pins, p.1 ≠ b) : Inv X pins σ H' s' := by
  obtain ⟨h', g', d', t', o'⟩ := s'
  have e : o' = s.os := ho
  subst e
  exact I.call (g' := g') (t' := t') (d' := d') u hok hg hch
end

/-! ### the judgements -/
/-- an exception: its class, its own dict's address (where it has one), the abstract heap behind it -/
abbrev XK := Value → Option Addr → Hp → Prop
abbrev St := List (Option V)
abbrev VK := V → Hp → Prop
/-- an expression's reading; a test's; an argument list's -/
abbrev TE := St → Hp → VK → Prop
abbrev TT := St → Hp → (Bool → Hp → Prop) → Prop
abbrev TA := St → Hp → (List V → Hp → Prop) → Prop
/-- what is wanted behind a statement -/
structure Ends where
  nx : St → Hp → Prop
  rt : VK
  bk : St → Hp → Prop := fun _ _ => False
  ct : St → Hp → Prop := fun _ _ => False
abbrev TS := Ends → St → Hp → Prop

def EP (X : Cx) (pins : List (Addr × Obj)) (σ : St) (Q : VK) (u : Value) (s' : Shared) : Prop := ∃ v H', Inv X pins σ H' s' ∧ RelV v u ∧ Q v H'
def TP (X : Cx) (pins : List (Addr × Obj)) (σ : St) (Q : Bool → Hp → Prop) (b : Bool) (s' : Shared) : Prop := ∃ H', Inv X pins σ H' s' ∧ Q b H'
def AP (X : Cx) (pins : List (Addr × Obj)) (σ : St) (Q : List V → Hp → Prop) (us : List Value) (s' : Shared) : Prop := ∃ vs H', Inv X pins σ H' s' ∧ Vals vs us ∧ Q vs H'
def SP (X : Cx) (pins : List (Addr × Obj)) (D : Ends) (f : Flow) (s' : Shared) : Prop :=
  match f with
  | .next => ∃ σ' H', Inv X pins σ' H' s' ∧ D.nx σ' H'
  | .brk => ∃ σ' H', Inv X pins σ' H' s' ∧ D.bk σ' H'
  | .cont => ∃ σ' H', Inv X pins σ' H' s' ∧ D.ct σ' H'
  | .ret u => ∃ v σ' H', Inv X pins σ' H' s' ∧ RelV v u ∧ D.rt v H'

def PE (X : Cx) (e : Expr) (t : TE) : Prop :=
  ∀ (pins : List (Addr × Obj)) (s : Shared) (σ : St) (H : Hp) (Q : VK), Inv X pins σ H s → t σ H Q → wpAny (model X.prog X.w) X.A (eval e X.env) (EP X pins σ Q) X.xe s
def PT (X : Cx) (e : Expr) (t : TT) : Prop :=
  ∀ (pins : List (Addr × Obj)) (s : Shared) (σ : St) (H : Hp) (Q : Bool → Hp → Prop), Inv X pins σ H s → t σ H Q → wpAny (model X.prog X.w) X.A (isTrue e X.env (eval e X.env)) (TP X pins σ Q) X.xe s
/-- a test whatever its 'whole' is (and, or) -/
def PW (X : Cx) (e : Expr) (t : TT) : Prop :=
  ∀ (whole : Sem Value) (pins : List (Addr × Obj)) (s : Shared) (σ : St) (H : Hp) (Q : Bool → Hp → Prop), Inv X pins σ H s → t σ H Q → wpAny (model X.prog X.w) X.A (isTrue e X.env whole) (TP X pins σ Q) X.xe s
theorem PW.pt {X : Cx} {e : Expr} {t : TT} (h : PW X e t) : PT X e t := h _
/-- an argument list (no star), from the left -/
def PA (X : Cx) (es : List Expr) (t : TA) : Prop :=
  ∀ (pos : Pos) (pins : List (Addr × Obj)) (s : Shared) (σ : St) (H : Hp) (Q : List V → Hp → Prop), Inv X pins σ H s → t σ H Q → wpAny (model X.prog X.w) X.A (spliced (backTo pos (starEach es X.env))) (AP X pins σ Q) X.xe s
def PS (X : Cx) (st : Stmt) (t : TS) : Prop :=
  ∀ (pins : List (Addr × Obj)) (s : Shared) (σ : St) (H : Hp) (D : Ends), Inv X pins σ H s → t D σ H → wpAny (model X.prog X.w) X.A (exec st X.env) (SP X pins D) X.xe s
def PSs (X : Cx) (st : List Stmt) (t : TS) : Prop :=
  ∀ (pins : List (Addr × Obj)) (s : Shared) (σ : St) (H : Hp) (D : Ends), Inv X pins σ H s → t D σ H → wpAny (model X.prog X.w) X.A (execs st X.env) (SP X pins D) X.xe s
/-- weaken the end -/
theorem thn {α : Type} {t : Sem α} {Q Q' : α → Shared → Prop} {M : Model} {A : Around} {E : Value → Shared → Prop} {s : Shared} (h : wpAny M A t Q E s) (hQ : ∀ a s, Q a s → Q' a s) : wpAny M A t Q' E s := wpAny_mono h hQ fun _ _ x => x
end L2

namespace L2
open PySem PySem.Spec PyProof.Rows
section
variable {X : Cx}


/-! ### names and constants -/
def tVar (i : Nat) : TE := fun σ H Q => ∃ v, σ[i]? = some (some v) ∧ Q v H
def tC (v : V) : TE := fun _ H Q => Q v H
theorem pe_var {i : Nat} {x : Str} {pos : Pos} (hN : X.N[i]? = some x) (hv : Vis X.env.scope x) (hd : (x == ("__debug__" : Str)) = false := by decide) (hcd : (x == ("__classdict__" : Str)) = false := by decide) : PE X (.Name x pos) (tVar i) := by
  intro pins s σ H Q I h
  obtain ⟨v, e, h⟩ := h
  obtain ⟨m, hn, hl⟩ := I.loc
  obtain ⟨u, r, l⟩ := hl i x v hN e hv
  have fin : EP X pins σ Q u s := ⟨v, H, I, r, h⟩
  rcases l with ⟨hk, hm⟩ | ⟨hk, c, hc, hcell⟩
  · exact wpAny_Name (wpAny_loadName_local I.ok.kind hk hn hm fin) hd
  · rcases hk with hk | hk
    · exact wpAny_Name (wpAny_loadName_cell I.ok.kind hk hc hcell fin) hd
    · exact wpAny_Name (wpAny_loadName_free I.ok.kind hk hc hcell fin hcd) hd
theorem pe_int {i j pos} : PE X (.Constant (.int i) j pos) (tC (.int i)) := fun _ _ _ H _ I h => wpAny_Constant_int ⟨.int i, H, I.tok _, ⟨_, rfl⟩, h⟩
theorem pe_bl {b j pos} : PE X (.Constant (.bool b) j pos) (tC (.bl b)) := fun _ _ _ H _ I h => Constant_bool ⟨.bl b, H, I, rfl, h⟩
theorem pe_str {x j pos} : PE X (.Constant (.str x) j pos) (tC (.str x)) := fun _ _ _ H _ I h => Calls.Constant_str ⟨.str x, H, I.tok _, ⟨_, rfl⟩, h⟩

/-- a global name of the def -/
def Gl (X : Cx) (x : Str) : Prop := X.env.kindOf x = some .globalImplicit
theorem ld_glob {E : Value → Shared → Prop} {pins : List (Addr × Obj)} {s : Shared} {σ : St} {H : Hp} {x : Str} {u : Value} {pos : Pos} {Q : Value → Shared → Prop} (I : Inv X pins σ H s) (hg : Gl X x) (hm : X.mg x = some u) (h : Q u s)
    (hd : (x == ("__debug__" : Str)) = false := by decide) : wpAny (model X.prog X.w) X.A (eval (.Name x pos) X.env) Q E s :=
  Calls.Name_function_global I.ok.kind hg (Calls.loadGlobal_global (by rw [I.ok.glob]; exact I.mod.glob.keeps I.bk) hm h) hd
theorem ld_blt {E : Value → Shared → Prop} {pins : List (Addr × Obj)} {s : Shared} {σ : St} {H : Hp} {x : Str} {u : Value} {pos : Pos} {Q : Value → Shared → Prop} (I : Inv X pins σ H s) (hg : Gl X x) (hm : X.mg x = none) (hv : bootBuiltins x = some u) (h : Q u s)
    (hn : x ≠ "__name__" := by decide) (hd : (x == ("__debug__" : Str)) = false := by decide) : wpAny (model X.prog X.w) X.A (eval (.Name x pos) X.env) Q E s := by
  obtain ⟨mb, h1, h2⟩ := I.mod.blt
  exact Calls.Name_function_global I.ok.kind hg (Calls.loadGlobal_builtin (by rw [I.ok.glob]; exact I.mod.glob.keeps I.bk) hm (by rw [I.ok.blt]; exact h1.keeps I.bk) ((h2 x hn).trans hv) h) hd
/-- a module's constant, a class, a function, as a value -/
theorem pe_glob {x : Str} {v : V} {u : Value} {pos : Pos} (hg : Gl X x) (hm : X.mg x = some u) (r : RelV v u) (hd : (x == ("__debug__" : Str)) = false := by decide) : PE X (.Name x pos) (tC v) :=
  fun _ _ _ H _ I h => ld_glob I hg hm ⟨v, H, I, r, h⟩ hd
theorem pe_bltn {x : Str} {v : V} {u : Value} {pos : Pos} (hg : Gl X x) (hm : X.mg x = none) (hv : bootBuiltins x = some u) (r : RelV v u) (hn : x ≠ "__name__" := by decide) (hd : (x == ("__debug__" : Str)) = false := by decide) : PE X (.Name x pos) (tC v) :=
  fun _ _ _ H _ I h => ld_blt I hg hm hv ⟨v, H, I, r, h⟩ hn hd

/-! ### arithmetic -/
variable {a b : Expr} {ta tb : TE} {pos : Pos}

/-! ### comparisons -/
def PC (X : Cx) (op : CmpOp) (a b : Expr) (t : TE) : Prop :=
  ∀ (pins : List (Addr × Obj)) (s : Shared) (σ : St) (H : Hp) (Q : VK), Inv X pins σ H s → t σ H Q →
    wpAny (model X.prog X.w) X.A (eval a X.env) (fun v s₁ => wpAny (model X.prog X.w) X.A (eval b X.env) (fun u s₂ => wpAny (model X.prog X.w) X.A (compareOp op v u) (EP X pins σ Q) X.xe s₂) X.xe s₁) X.xe s
theorem nobehind (b : Expr) {op : CmpOp} (h : op ≠ .In) (h2 : op ≠ .NotIn) : behindInMarks op b = false := by
  have e1 : (op == CmpOp.In) = false := by cases op <;> first | rfl | exact absurd rfl h
  have e2 : (op == CmpOp.NotIn) = false := by cases op <;> first | rfl | exact absurd rfl h2
  cases b <;> simp [behindInMarks, e1, e2]
/-- is None -/
def tIsN (ta : TE) : TE := fun σ H Q => ta σ H fun x H1 => Q (.bl (decide (x = .non))) H1
theorem RelV.none_iff {x : V} {v : Value} (r : RelV x v) : (v == Value.none) = decide (x = .non) := by
  cases x with
  | non => cases r; rfl
  | bl _ => cases r; rfl
  | int _ => obtain ⟨t, rfl⟩ := r; rfl
  | str _ => obtain ⟨t, rfl⟩ := r; rfl
  | byt _ => obtain ⟨t, rfl⟩ := r; rfl
  | flt _ => obtain ⟨t, rfl⟩ := r; rfl
  | ref _ => cases r; rfl
  | ty _ => cases r; rfl
theorem pc_isN {j pos'} (ha : PE X a ta) : PC X .Is a (.Constant .none j pos') (tIsN ta) := by
  intro pins s σ H Q I h
  refine thn (ha pins s σ H _ I h) fun v s1 ⟨x, H1, I1, r1, q1⟩ => ?_
  exact Constant_none (is_none_gen ⟨.bl _, H1, I1, by rw [r1.none_iff]; rfl, q1⟩)
/-- a comparison as a value, as a test -/
def tB (t : TE) : TT := fun σ H Q => t σ H fun x H1 => ∃ c, x = .bl c ∧ Q c H1
theorem pt_cmp {op : CmpOp} {t : TE} (h : PC X op a b t) (h1 : behindInMarks op b = false := by first | exact nobehind _ (by decide) (by decide) | rfl) : PT X (.Compare a [op] [b] pos) (tB t) := by
  intro pins s σ H Q I hw
  refine wpAny_isTrue_Compare1 (thn (h pins s σ H _ I hw) fun v s1 h1 => thn h1 fun u s2 h2 => thn h2 fun c s3 ⟨x, H1, I1, r1, q1⟩ => ?_) h1
  obtain ⟨d, rfl, q⟩ := q1
  cases r1
  exact wpAny_truthy_bool ⟨H1, I1, q⟩
/-- an expression whose value is a bool, as a test -/
theorem pt_val {e : Expr} {t : TE} (h : PE X e t) (he : ∀ whole, isTrue e X.env whole = (do let v ← whole; standAt e.pos; holding [v] (truthy v)) := by intro _; rfl) : PT X e (tB t) := by
  intro pins s σ H Q I hw
  refine isTrue_plain (thn (h pins s σ H _ I hw) fun v s1 ⟨x, H1, I1, r1, q1⟩ => ?_) (he _)
  obtain ⟨d, rfl, q⟩ := q1
  cases r1
  exact wpAny_truthy_bool ⟨H1, I1, q⟩

/-! ### and, or, not -/
variable {tA tB' : TT} {rest : List Expr}
def tAnd (t u : TT) : TT := fun σ H Q => t σ H fun c H1 => if c = true then u σ H1 Q else Q false H1
def tOr (t u : TT) : TT := fun σ H Q => t σ H fun c H1 => if c = true then Q true H1 else u σ H1 Q
def tNot (t : TT) : TT := fun σ H Q => t σ H fun c H1 => Q (!c) H1
theorem pw_and1 (ha : PT X a tA) : PW X (.BoolOp .And [a] pos) tA := by
  intro wh pins s σ H Q I h
  refine isTrue_and (thn (ha pins s σ H Q I h) fun c s1 e => ?_)
  cases c with
  | true => exact isTrue_and_nil e
  | false => exact e
theorem pw_or1 (ha : PT X a tA) : PW X (.BoolOp .Or [a] pos) tA := by
  intro wh pins s σ H Q I h
  refine isTrue_or (thn (ha pins s σ H Q I h) fun c s1 e => ?_)
  cases c with
  | false => exact isTrue_or_nil e
  | true => exact e
theorem pw_and (ha : PT X a tA) (hb : PW X (.BoolOp .And (b :: rest) pos) tB') : PW X (.BoolOp .And (a :: b :: rest) pos) (tAnd tA tB') := by
  intro wh pins s σ H Q I h
  refine isTrue_and (thn (ha pins s σ H _ I h) fun c s1 ⟨H1, I1, q1⟩ => ?_)
  cases c with
  | true => exact hb wh pins s1 σ H1 Q I1 q1
  | false => exact ⟨H1, I1, q1⟩
theorem pw_or (ha : PT X a tA) (hb : PW X (.BoolOp .Or (b :: rest) pos) tB') : PW X (.BoolOp .Or (a :: b :: rest) pos) (tOr tA tB') := by
  intro wh pins s σ H Q I h
  refine isTrue_or (thn (ha pins s σ H _ I h) fun c s1 ⟨H1, I1, q1⟩ => ?_)
  cases c with
  | true => exact ⟨H1, I1, q1⟩
  | false => exact hb wh pins s1 σ H1 Q I1 q1
theorem pt_not (ha : PT X a tA) : PT X (.UnaryOp .Not a pos) (tNot tA) := by
  intro pins s σ H Q I h
  exact isTrue_not (ha pins s σ H (fun c H1 => Q (!c) H1) I h)
/-- .. as values (bools) -/
def tAndV (ta tb : TE) : TE := fun σ H Q => ta σ H fun x H1 => ∃ c, x = .bl c ∧ if c = true then tb σ H1 Q else Q (.bl false) H1
def tOrV (ta tb : TE) : TE := fun σ H Q => ta σ H fun x H1 => ∃ c, x = .bl c ∧ if c = true then Q (.bl true) H1 else tb σ H1 Q
def tNotV (ta : TE) : TE := fun σ H Q => ta σ H fun x H1 => ∃ c, x = .bl c ∧ Q (.bl (!c)) H1
theorem pe_one {op} {t : TE} (h : PE X a t) : PE X (.BoolOp op [a] pos) t := fun pins s σ H Q I hw => BoolOp_one (h pins s σ H Q I hw)
theorem pe_and (ha : PE X a ta) (hb : PE X (.BoolOp .And (b :: rest) pos) tb) : PE X (.BoolOp .And (a :: b :: rest) pos) (tAndV ta tb) := by
  intro pins s σ H Q I h
  refine BoolOp_and (thn (ha pins s σ H _ I h) fun v s1 ⟨x, H1, I1, r1, q1⟩ => ?_)
  obtain ⟨c, rfl, q1⟩ := q1
  cases r1
  refine wpAny_truthy_bool ?_
  cases c with
  | true => exact hb pins s1 σ H1 Q I1 q1
  | false => exact ⟨.bl false, H1, I1, rfl, q1⟩
theorem pe_or (ha : PE X a ta) (hb : PE X (.BoolOp .Or (b :: rest) pos) tb) : PE X (.BoolOp .Or (a :: b :: rest) pos) (tOrV ta tb) := by
  intro pins s σ H Q I h
  refine BoolOp_or (thn (ha pins s σ H _ I h) fun v s1 ⟨x, H1, I1, r1, q1⟩ => ?_)
  obtain ⟨c, rfl, q1⟩ := q1
  cases r1
  refine wpAny_truthy_bool ?_
  cases c with
  | false => exact hb pins s1 σ H1 Q I1 q1
  | true => exact ⟨.bl true, H1, I1, rfl, q1⟩
theorem pe_not (ha : PE X a ta) : PE X (.UnaryOp .Not a pos) (tNotV ta) := by
  intro pins s σ H Q I h
  refine UnaryOp_ (thn (ha pins s σ H _ I h) fun v s1 ⟨x, H1, I1, r1, q1⟩ => ?_)
  obtain ⟨c, rfl, q1⟩ := q1
  cases r1
  exact not_of (wpAny_truthy_bool ⟨.bl (!c), H1, I1, rfl, q1⟩)
/-- a if t else b -/
def tIf (t : TT) (ta tb : TE) : TE := fun σ H Q => t σ H fun c H1 => if c = true then ta σ H1 Q else tb σ H1 Q
theorem pe_ifExp {c : Expr} (hc : PT X c tA) (ha : PE X a ta) (hb : PE X b tb) : PE X (.IfExp c a b pos) (tIf tA ta tb) := by
  intro pins s σ H Q I h
  refine wpAny_IfExp (thn (hc pins s σ H _ I h) fun d s1 ⟨H1, I1, q1⟩ => ?_)
  cases d with
  | true => exact ha pins s1 σ H1 Q I1 q1
  | false => exact hb pins s1 σ H1 Q I1 q1
end
end L2

namespace L2
open PySem PySem.Spec PyProof.Rows

/-! ### a list, a tuple that is read: tracked, frozen, or an object of the module -/
def SqL (K : PySem.W.Frag) (H : Hp) (a : Addr) (xs : List V) : Prop :=
  Rd H a (.lst xs) ∨
    ∃ (o : Obj) (its : Array Value) (n : Nat), K.lookup a = some o ∧ o.cls = .type "list" ∧ o.dict = none ∧ o.data = .seq its n ∧ its.size ≤ sizeLine ∧ Vals xs its.toList
def SqT (K : PySem.W.Frag) (H : Hp) (a : Addr) (xs : List V) : Prop :=
  Rd H a (.tup xs) ∨
    ∃ (o : Obj) (its : Array Value) (n : Nat), K.lookup a = some o ∧ o.cls = .type "tuple" ∧ o.data = .seq its n ∧ its.size ≤ sizeLine ∧ Vals xs its.toList
def absV : Value → Option V
  | .none => some .non
  | .bool b => some (.bl b)
  | .int i _ => some (.int i)
  | .str x _ => some (.str x)
  | .bytes b _ => some (.byt b)
  | .float b _ => some (.flt b)
  | .ref a => some (.ref a)
  | .type n => some (.ty n)
  | _ => none
theorem RelV.abs {x : V} {u : Value} (r : RelV x u) : absV u = some x := by
  cases x with
  | non => cases r; rfl
  | bl _ => cases r; rfl
  | int _ => obtain ⟨t, rfl⟩ := r; rfl
  | str _ => obtain ⟨t, rfl⟩ := r; rfl
  | byt _ => obtain ⟨t, rfl⟩ := r; rfl
  | flt _ => obtain ⟨t, rfl⟩ := r; rfl
  | ref _ => cases r; rfl
  | ty _ => cases r; rfl
theorem RelV.inj {x y : V} {u : Value} (r : RelV x u) (q : RelV y u) : x = y := Option.some.inj (r.abs.symm.trans q.abs)
theorem Vals.inj : ∀ {xs ys : List V} {us : List Value}, Vals xs us → Vals ys us → xs = ys
  | _, _, _, .nil, .nil => rfl
  | _, _, _, .cons r t, .cons r' t' => by rw [r.inj r', Vals.inj t t']
section
variable {X : Cx} {pins : List (Addr × Obj)} {σ : St} {H : Hp} {s : Shared} {a : Addr} {xs ys : List V}
theorem SqL.of {K : PySem.W.Frag} (h : H a = some (.lst xs)) : SqL K H a xs := .inl (.inl h)
theorem SqT.of {K : PySem.W.Frag} (h : H a = some (.tup xs)) : SqT K H a xs := .inl (.inl h)
theorem Inv.list (I : Inv X pins σ H s) (h : SqL X.K H a xs) : ∃ its : List Value, Vals xs its ∧ PlainL s.heap a its.toArray ∧ xs.length ≤ sizeLine := by
  rcases h with h | ⟨o, its, n, hk, hc, hd, hs, hz, r⟩
  · obtain ⟨z, its, n, r, e⟩ := h.ok I.hok
    exact ⟨its, r, ⟨_, n, e, rfl, rfl, rfl⟩, z⟩
  · refine ⟨its.toList, r, ⟨o, n, I.kIn a o hk, hc, hd, by simpa using hs⟩, ?_⟩
    have e := r.length
    simp only [Array.length_toList] at e
    omega
theorem Inv.tuple (I : Inv X pins σ H s) (h : SqT X.K H a xs) : ∃ its : List Value, Vals xs its ∧ IsTup s.heap a its.toArray ∧ xs.length ≤ sizeLine := by
  rcases h with h | ⟨o, its, n, hk, hc, hs, hz, r⟩
  · obtain ⟨z, its, r, p⟩ := h.ok I.hok
    exact ⟨its, r, p, z⟩
  · refine ⟨its.toList, r, ⟨o, I.kIn a o hk, hc, n, by simpa using hs⟩, ?_⟩
    have e := r.length
    simp only [Array.length_toList] at e
    omega
theorem Inv.list_inj (I : Inv X pins σ H s) (h : SqL X.K H a xs) (h' : SqL X.K H a ys) : xs = ys := by
  obtain ⟨its, r, ⟨o, n, e, _, _, d⟩, _⟩ := I.list h
  obtain ⟨its', r', ⟨o', n', e', _, _, d'⟩, _⟩ := I.list h'
  rw [e] at e'; cases e'
  rw [d] at d'
  injection d' with d1 _
  have : its = its' := by simpa using congrArg Array.toList d1
  subst this
  exact r.inj r'
theorem Inv.tuple_inj (I : Inv X pins σ H s) (h : SqT X.K H a xs) (h' : SqT X.K H a ys) : xs = ys := by
  obtain ⟨its, r, ⟨o, e, _, n, d⟩, _⟩ := I.tuple h
  obtain ⟨its', r', ⟨o', e', _, n', d'⟩, _⟩ := I.tuple h'
  rw [e] at e'; cases e'
  rw [d] at d'
  injection d' with d1 _
  have : its = its' := by simpa using congrArg Array.toList d1
  subst this
  exact r.inj r'
end

/-! ### another wish about exceptions -/
abbrev Cx.wish (X : Cx) (E : Value → Shared → Prop) : Cx := { X with xe := E }
/-- no exception leaves -/
abbrev Cx.nox (X : Cx) : Cx := X.wish fun _ _ => False
theorem Cx.Ok.wish {X : Cx} (ok : X.Ok) (E : Value → Shared → Prop) : (X.wish E).Ok :=
  ⟨ok.mod, ok.kind, ok.glob, ok.blt, ok.above, ok.inj, ok.has, ok.cab, ok.hd, ok.frames, ok.stk, ok.exf, ok.bs, ok.bsz, ok.noex, ok.exfs, ok.funs, ok.frf⟩
theorem Cx.Ok.unwish {X : Cx} {E : Value → Shared → Prop} (ok : (X.wish E).Ok) : X.Ok :=
  ⟨ok.mod, ok.kind, ok.glob, ok.blt, ok.above, ok.inj, ok.has, ok.cab, ok.hd, ok.frames, ok.stk, ok.exf, ok.bs, ok.bsz, ok.noex, ok.exfs, ok.funs, ok.frf⟩
section
variable {X : Cx} {pins : List (Addr × Obj)} {σ : St} {H : Hp} {s : Shared} {E : Value → Shared → Prop}
theorem Inv.wish (I : Inv X pins σ H s) (E : Value → Shared → Prop) : Inv (X.wish E) pins σ H s := ⟨I.ok.wish E, I.os, I.bare, I.base, I.loc, I.cell, I.free, I.freeC, I.pin, I.hok, I.len⟩
theorem Inv.unwish (I : Inv (X.wish E) pins σ H s) : Inv X pins σ H s := ⟨I.ok.unwish, I.os, I.bare, I.base, I.loc, I.cell, I.free, I.freeC, I.pin, I.hok, I.len⟩
theorem SP.unwish {D : Ends} {f : Flow} {s' : Shared} (h : SP (X.wish E) pins D f s') : SP X pins D f s' := by
  cases f with
  | next => obtain ⟨σ', H', I, q⟩ := h; exact ⟨σ', H', I.unwish, q⟩
  | brk => obtain ⟨σ', H', I, q⟩ := h; exact ⟨σ', H', I.unwish, q⟩
  | cont => obtain ⟨σ', H', I, q⟩ := h; exact ⟨σ', H', I.unwish, q⟩
  | ret u => obtain ⟨v, σ', H', I, r, q⟩ := h; exact ⟨v, σ', H', I.unwish, r, q⟩
theorem PSs.nox {st : List Stmt} {t : TS} (h : PSs X.nox st t) : PSs X st t := fun pins s σ H D I hw =>
  wpAny_mono (h pins s σ H D (I.wish _) hw) (fun _ _ q => q.unwish) fun _ _ z => False.elim z
end

/-! ### blocks and small statements -/
section
variable {X : Cx} {st : Stmt} {rest : List Stmt} {t u : TS} {e : Expr} {te : TE} {pos : Pos}
def tNext : TS := fun D σ H => D.nx σ H
def tSeq (t u : TS) : TS := fun D σ H => t { D with nx := u D } σ H
theorem pss_nil : PSs X [] tNext := fun _ _ σ H _ I h => wpAny_execs_nil ⟨σ, H, I, h⟩
theorem pss_cons (h1 : PS X st t) (h2 : PSs X rest u) : PSs X (st :: rest) (tSeq t u) := by
  intro pins s σ H D I h
  refine wpAny_execs_cons (thn (h1 pins s σ H { D with nx := u D } I h) fun f s1 q => ?_)
  cases f with
  | next =>
    obtain ⟨σ', H', I', q⟩ := q
    exact h2 pins s1 σ' H' D I' q
  | ret v => exact q
  | brk => exact q
  | cont => exact q
theorem pss_one (h1 : PS X st t) : PSs X [st] t := by
  intro pins s σ H D I h
  refine wpAny_execs_cons (thn (h1 pins s σ H D I h) fun f s1 q => ?_)
  cases f with
  | next => exact wpAny_execs_nil q
  | ret v => exact q
  | brk => exact q
  | cont => exact q
/-- in a def's body nothing is shown -/
theorem Inv.quiet {pins : List (Addr × Obj)} {σ : St} {H : Hp} {s : Shared} (I : Inv X pins σ H s) : interactive X.env = false := by simp [interactive, I.ok.kind]
/-- an expression whose value is dropped -/
def tDrop (te : TE) : TS := fun D σ H => te σ H fun _ H1 => D.nx σ H1
theorem ps_expr (he : PE X e te) (hs : swapsWith e none pos.line X.env = pure false := by rfl) : PS X (.Expr e pos) (tDrop te) := by
  intro pins s σ H D I h
  exact wpAny_Expr_any (thn (he pins s σ H _ I h) fun v s1 ⟨x, H1, I1, r1, q1⟩ => ⟨σ, H1, I1, q1⟩) I.quiet hs
def tRet (te : TE) : TS := fun D σ H => te σ H D.rt
theorem ps_ret (he : PE X e te) : PS X (.Return (some e) pos) (tRet te) := by
  intro pins s σ H D I h
  exact wpAny_Return_some (thn (he pins s σ H _ I h) fun v s1 ⟨x, H1, I1, r1, q1⟩ => ⟨x, σ, H1, I1, r1, q1⟩)
def tIfS (c : TT) (t u : TS) : TS := fun D σ H => c σ H fun b H1 => if b = true then t D σ H1 else u D σ H1
theorem ps_if {c : Expr} {a b : List Stmt} {tc : TT} (hc : PT X c tc) (ha : PSs X a t) (hb : PSs X b u) : PS X (.If c a b pos) (tIfS tc t u) := by
  intro pins s σ H D I h
  refine wpAny_If (thn (hc pins s σ H _ I h) fun d s1 ⟨H1, I1, q1⟩ => ?_)
  cases d with
  | true => exact ha pins s1 σ H1 D I1 q1
  | false => exact hb pins s1 σ H1 D I1 q1
end

/-! ### targets -/
abbrev TG := V → St → Hp → (St → Hp → Prop) → Prop
abbrev TGs := List V → St → Hp → (St → Hp → Prop) → Prop
def PG (X : Cx) (target : Expr) (t : TG) : Prop :=
  ∀ (pins : List (Addr × Obj)) (s : Shared) (σ : St) (H : Hp) (v : V) (u : Value) (Q : St → Hp → Prop), Inv X pins σ H s → RelV v u → t v σ H Q →
    wpAny (model X.prog X.w) X.A (assign target X.env u) (fun _ s' => ∃ σ' H', Inv X pins σ' H' s' ∧ Q σ' H') X.xe s
/-- several targets, one after another -/
def PGs (X : Cx) (ts : List Expr) (t : TGs) : Prop :=
  ∀ (pins : List (Addr × Obj)) (s : Shared) (σ : St) (H : Hp) (vs : List V) (us : List Value) (Q : St → Hp → Prop), Inv X pins σ H s → Vals vs us → t vs σ H Q →
    wpAny (model X.prog X.w) X.A (assignInOrder ((assignEach ts X.env).map (·.2)) us) (fun _ s' => ∃ σ' H', Inv X pins σ' H' s' ∧ Q σ' H') X.xe s
/-- o[i] = v, by values -/
abbrev TSet := V → V → V → Hp → (Hp → Prop) → Prop
def PSet (X : Cx) (t : TSet) : Prop :=
  ∀ (pins : List (Addr × Obj)) (s : Shared) (σ : St) (H : Hp) (o i v : V) (ov iv u : Value) (Q : Hp → Prop), Inv X pins σ H s → RelV o ov → RelV i iv → RelV v u → t o i v H Q →
    wpAny (model X.prog X.w) X.A (setItem ov iv u) (fun _ s' => ∃ H', Inv X pins σ H' s' ∧ Q H') X.xe s
/-- a op= b, by values -/
abbrev TIp := V → V → Hp → VK → Prop
def PIp (X : Cx) (op : Operator) (t : TIp) : Prop :=
  ∀ (pins : List (Addr × Obj)) (s : Shared) (σ : St) (H : Hp) (x y : V) (v u : Value) (Q : VK), Inv X pins σ H s → RelV x v → RelV y u → t x y H Q →
    wpAny (model X.prog X.w) X.A (inplaceOp op v u) (EP X pins σ Q) X.xe s
section
variable {X : Cx} {pos : Pos}
def gName (i : Nat) : TG := fun v σ H Q => Q (σ.set i (some v)) H
theorem pg_name {i : Nat} {x : Str} (hN : X.N.Nodup) (hi : X.N[i]? = some x) (hx : Loc X.env.scope x) (hf : X.fn x = true ∨ X.env.scope.names.lookup x = some .local := by first | exact .inl rfl | exact .inr rfl | assumption) : PG X (.Name x pos) (gName i) := by
  intro pins s σ H v u Q I r h
  exact wpAny_assign_Name (store_ok I hN hi hx r (fun s' I' => ⟨_, H, I', h⟩) hf)
def gNil : TGs := fun vs σ H Q => vs = [] ∧ Q σ H
def gCons (t : TG) (u : TGs) : TGs := fun vs σ H Q => ∃ v r, vs = v :: r ∧ t v σ H fun σ' H' => u r σ' H' Q
theorem pgs_nil : PGs X [] gNil := by
  intro pins s σ H vs us Q I r h
  obtain ⟨e, h⟩ := h
  subst e
  cases r
  exact assignInOrder_nil ⟨σ, H, I, h⟩
theorem pgs_cons {e : Expr} {es : List Expr} {t : TG} {u : TGs} (h1 : PG X e t) (h2 : PGs X es u)
    (hs : (assignEach (e :: es) X.env).map (·.2) = assign e X.env :: (assignEach es X.env).map (·.2) := by rfl) : PGs X (e :: es) (gCons t u) := by
  intro pins s σ H vs us Q I r h
  obtain ⟨v, vr, e1, h⟩ := h
  subst e1
  cases r with
  | cons r rr =>
    rw [hs]
    refine assignInOrder_cons (thn (h1 pins s σ H _ _ _ I r h) fun _ s1 ⟨σ1, H1, I1, q1⟩ => ?_)
    exact h2 pins s1 σ1 H1 _ _ Q I1 rr q1
/-- (a, b, ..) = a tuple of that length -/
def gTup (K : PySem.W.Frag) (n : Nat) (t : TGs) : TG := fun v σ H Q => ∃ a xs, v = .ref a ∧ SqT K H a xs ∧ xs.length = n ∧ t xs σ H Q
theorem pg_tup {es : List Expr} {k : Nat} {t : TGs} {n : Nat} (hc : X.calm = true) (h : PGs X es t)
    (hn : (assignEach es X.env).length = n := by rfl) (hst : (assignEach es X.env).findIdx? (·.1) = none := by rfl) : PG X (.Tuple es k pos) (gTup X.K n t) := by
  intro pins s σ H v u Q I r hw
  obtain ⟨a, xs, e1, hq, hl, hw⟩ := hw
  subst e1
  cases r
  obtain ⟨its, rv, ht, hz⟩ := I.tuple hq
  refine assign_Tuple_tuple (I.ok.hd hc) ht (by simp [hn, ← hl, rv.length]) hst fun h' hx => ?_
  have I1 : Inv X pins σ H { s with heap := h' } := I.kept (t' := s.toks) fun b o e => hx b o (Nat.ne_of_lt (Heap.lt_size e)) e
  exact h pins _ σ H xs _ Q I1 (by simpa using rv) hw
/-- o[i] = .. -/
def gSub (to ti : TE) (t : TSet) : TG := fun v σ H Q => to σ H fun o H1 => ti σ H1 fun i H2 => t o i v H2 fun H3 => Q σ H3
theorem pg_sub {o i : Expr} {to ti : TE} {t : TSet} (ho : PE X o to) (hi : PE X i ti) (hs : PSet X t)
    (ha : ∀ v, assign (.Subscript o i pos) X.env v = (do
      let ov ← holding [v] (eval o X.env)
      let iv ← holding [v, ov] (eval i X.env)
      standAt pos
      holding [v, ov, iv] (setItem ov iv v)
      release [v, ov, iv] []) := by intro _; rfl) : PG X (.Subscript o i pos) (gSub to ti t) := by
  intro pins s σ H v u Q I r h
  rw [ha]
  refine wpAny_bind (wpAny_holding (thn (ho pins s σ H _ I h) fun ov s1 ⟨x, H1, I1, r1, q1⟩ => ?_))
  refine wpAny_bind (wpAny_holding (thn (hi pins s1 σ H1 _ I1 q1) fun iv s2 ⟨y, H2, I2, r2, q2⟩ => ?_))
  refine wpAny_bind (wpAny_standAt (wpAny_bind (wpAny_holding (thn (hs pins s2 σ H2 x y v ov iv u _ I2 r1 r2 r q2) fun _ s3 ⟨H3, I3, q3⟩ => ?_))))
  exact wpAny_release ⟨σ, H3, I3, q3⟩
/-- target = value -/
def tAsg (te : TE) (g : TG) : TS := fun D σ H => te σ H fun x H1 => g x σ H1 D.nx
theorem ps_asg {tg e : Expr} {te : TE} {g : TG} (he : PE X e te) (hg : PG X tg g) (hs : swapsWithSole [tg] e pos.line X.env = pure false := by rfl) (hw : swappedStores [tg] e X.env = pure none := by rfl)
    (h1 : (assignEach [tg] X.env).map (·.2) = [assign tg X.env] := by rfl) : PS X (.Assign [tg] e pos) (tAsg te g) := by
  intro pins s σ H D I h
  refine wpAny_Assign_stores (thn (he pins s σ H _ I h) fun v s1 ⟨x, H1, I1, r1, q1⟩ => ?_) hs hw
  rw [h1]
  exact thn (hg pins s1 σ H1 x v _ I1 r1 q1) fun _ s2 q => q
/-- name = value -/
theorem ps_set {i : Nat} {x : Str} {e : Expr} {te : TE} {pos' : Pos} (hN : X.N.Nodup) (hi : X.N[i]? = some x) (hx : Loc X.env.scope x) (he : PE X e te) (hs : swapsWith e (some (.Name x pos')) pos.line X.env = pure false := by rfl) (hf : X.fn x = true ∨ X.env.scope.names.lookup x = some .local := by first | exact .inl rfl | exact .inr rfl | assumption) :
    PS X (.Assign [.Name x pos'] e pos) (tAsg te (gName i)) := by
  intro pins s σ H D I h
  refine wpAny_Assign_Name (thn (he pins s σ H _ I h) fun v s1 ⟨y, H1, I1, r1, q1⟩ => ?_) hs
  exact store_ok I1 hN hi hx r1 (fun s2 I2 => ⟨_, H1, I2, q1⟩) hf
/-- a, b = x, y with plain local names: stored from the right; the pair itself is not tracked (the opening rows as in PyProof/Rows/TupAssign.lean:23) -/
def tPar (i j : Nat) (ta : TA) : TS := fun D σ H => ta σ H fun vs H1 => ∃ v w, vs = [v, w] ∧ D.nx ((σ.set i (some v)).set j (some w)) H1
theorem ps_par {i j : Nat} {x y : Str} {a b : Expr} {ta : TA} {px py pt : Pos} {kt k2 pt2} (hc : X.calm = true) (hN : X.N.Nodup) (hi : X.N[i]? = some x) (hj : X.N[j]? = some y) (hij : i ≠ j)
    (hx : X.env.scope.names.lookup x = some .local) (hy : X.env.scope.names.lookup y = some .local) (ha : PA X [a, b] ta)
    (hw : swappedStores [.Tuple [.Name x px, .Name y py] kt pt] (.Tuple [a, b] k2 pt2) X.env = pure (some [x, y]))
    (hs : swapsWithSole [.Tuple [.Name x px, .Name y py] kt pt] (.Tuple [a, b] k2 pt2) pos.line X.env = pure false := by rfl) :
    PS X (.Assign [.Tuple [.Name x px, .Name y py] kt pt] (.Tuple [a, b] k2 pt2) pos) (tPar i j ta) := by
  intro pins s σ H D I h
  rw [exec_Assign_arm]
  refine wpAny_bind (wpAny_standAt ?_)
  rw [hs]
  refine wpAny_bind (wpAny_pure ?_)
  rw [if_neg (by decide)]
  refine wpAny_bind (Tuple_ (thn (ha _ pins s σ H _ I h) fun us s1 ⟨vs, H1, I1, r1, q1⟩ => ?_))
  obtain ⟨v, w, e1, q1⟩ := q1
  subst e1
  obtain ⟨u1, u2, rfl, rv, rw'⟩ : ∃ u1 u2, us = [u1, u2] ∧ RelV v u1 ∧ RelV w u2 := by
    cases r1 with
    | cons p q =>
      cases q with
      | cons p' q' =>
        cases q'
        exact ⟨_, _, rfl, p, p'⟩
  refine wpAny_newObj_type ?_ (by show 2 ≤ sizeLine; decide)
  have I2 : Inv X pins σ H1 { s1 with heap := s1.heap.push { cls := .type "tuple", data := .seq [u1, u2].toArray } } := I1.kept (t' := s1.toks) fun b o e => Heap.get?_push_of_some _ e
  rw [hw]
  refine wpAny_bind (wpAny_pure ?_)
  show wpAny (model X.prog X.w) X.A (do rule "assign.swapped-stores"; let items ← unpackItems (.ref s1.heap.objs.size) 2 none; assignInOrder [fun v => bindName X.env y v, fun v => bindName X.env x v] items.reverse; pure Flow.next) _ _ _
  refine wpAny_bind (wpAny_rule (wpAny_bind (unpackItems_tuple (items := #[u1, u2]) (I.ok.hd hc) (IsTup.new s1.heap _) fun h' hx' => ?_)))
  have I3 := I2.kept (h' := h') (t' := s1.toks) fun b o e => hx' b o (Nat.ne_of_lt (Heap.lt_size e)) e
  show wpAny _ _ (assignInOrder [fun v => bindName X.env y v, fun v => bindName X.env x v] [u2, u1] >>= fun _ => pure Flow.next) _ _ _
  refine wpAny_bind (assignInOrder_cons (wpAny_bindName (store_ok I3 hN hj (.inl hy) rw' (fun s2 I4 => ?_) (.inr hy))))
  refine assignInOrder_cons (wpAny_bindName (store_ok I4 hN hi (.inl hx) rv (fun s3 I5 => assignInOrder_nil (wpAny_pure ?_)) (.inr hx)))
  rw [List.set_comm _ _ (Ne.symm hij)] at I5
  exact ⟨_, H1, I5, q1⟩
/-- name op= e -/
def tAug (i : Nat) (te : TE) (ti : TIp) : TS := fun D σ H => ∃ x, σ[i]? = some (some x) ∧ te σ H fun y H1 => ti x y H1 fun z H2 => D.nx (σ.set i (some z)) H2
theorem ps_aug {i : Nat} {x : Str} {e : Expr} {te : TE} {op : Operator} {ti : TIp} {pos' : Pos} (hN : X.N.Nodup) (hi : X.N[i]? = some x) (hx : Loc X.env.scope x) (he : PE X e te) (ho : PIp X op ti) (hf : X.fn x = true ∨ X.env.scope.names.lookup x = some .local := by first | exact .inl rfl | exact .inr rfl | assumption) :
    PS X (.AugAssign (.Name x pos') op e pos) (tAug i te ti) := by
  intro pins s σ H D I h
  obtain ⟨v, e1, h⟩ := h
  obtain ⟨m, hn, hl⟩ := I.loc
  have vis : Vis X.env.scope x := by rcases hx with k | k; exact .inl k; exact .inr (.inl k)
  obtain ⟨u, r, l⟩ := hl i x v hi e1 vis
  refine wpAny_AugAssign_Name ?_
  have go : wpAny (model X.prog X.w) X.A (eval e X.env) (fun w s₂ => wpAny (model X.prog X.w) X.A (inplaceOp op u w) (fun r s₃ => wpAny (model X.prog X.w) X.A (storeName X.env x r) (fun _ => SP X pins D .next) X.xe s₃) X.xe s₂) X.xe s := by
    refine thn (he pins s σ H _ I h) fun w s1 ⟨y, H1, I1, r1, q1⟩ => ?_
    refine thn (ho pins s1 σ H1 v y u w _ I1 r r1 q1) fun z s2 ⟨zv, H2, I2, r2, q2⟩ => ?_
    exact store_ok I2 hN hi hx r2 (fun s3 I3 => ⟨_, H2, I3, q2⟩) hf
  rcases l with ⟨hk, hm⟩ | ⟨hk, c, hc, hcell⟩
  · exact wpAny_loadName_local I.ok.kind hk hn hm go
  · rcases hk with hk | hk
    · exact wpAny_loadName_cell I.ok.kind hk hc hcell go
    · rcases hx with k | k
      · have : X.env.scope.names.lookup x = some .free := hk
        rw [k] at this; cases this
      · have : X.env.scope.names.lookup x = some .free := hk
        rw [k] at this; cases this
/-- ints -/
def ipI (f : Int → Int → Int) : TIp := fun x y H Q => ∃ i j, x = .int i ∧ y = .int j ∧ Q (.int (f i j)) H
theorem ip_add : PIp X .Add (ipI fun i j => i + j) := by
  intro pins s σ H x y v u Q I r1 r2 h
  obtain ⟨i, j, e1, e2, q⟩ := h
  subst e1; subst e2
  obtain ⟨t, rfl⟩ := r1
  obtain ⟨t', rfl⟩ := r2
  exact iadd_int ⟨.int _, H, I.tok _, ⟨_, rfl⟩, q⟩
end

/-! ### while -/
section
variable {X : Cx} {pos : Pos}
/-- the invariant W with its measure -/
def tWhile (c : TT) (tb : TS) : TS := fun D σ H => ∃ W : Nat → St → Hp → Prop, (∃ m, W m σ H) ∧ ∀ m σ H, W m σ H →
  c σ H fun b H1 => if b = true then ∃ N : St → Hp → Prop, (∀ σ' H', N σ' H' → ∃ m', m' < m ∧ W m' σ' H') ∧ tb { D with nx := N, ct := N, bk := D.nx } σ H1 else D.nx σ H1
theorem ps_while {c : Expr} {body : List Stmt} {tc : TT} {tb : TS} (hp : PassesOwn (model X.prog X.w) X.A X.env X.xe) (hc : PT X c tc) (hb : PSs X body tb) : PS X (.While c body [] pos) (tWhile tc tb) := by
  intro pins s σ H D I h
  obtain ⟨W, ⟨m0, w0⟩, turn⟩ := h
  refine wpAny_While (codeAny_whileLoop (fun n s' => ∃ σ' H', Inv X pins σ' H' s' ∧ W n σ' H') ?_ m0 ⟨σ, H, I, w0⟩)
  rintro n s1 ⟨σ1, H1, I1, w1⟩
  refine wpAny_passesOwn hp (thn (hc pins s1 σ1 H1 _ I1 (turn n σ1 H1 w1)) fun b s2 ⟨H2, I2, q2⟩ => ?_)
  cases b with
  | true =>
    obtain ⟨N, hN, q2⟩ := q2
    rw [if_pos rfl]
    refine wpAny_passesOwn hp (thn (hb pins s2 σ1 H2 _ I2 q2) fun f s3 q3 => ?_)
    cases f with
    | next =>
      obtain ⟨σ3, H3, I3, n3⟩ := q3
      obtain ⟨m', hm, w3⟩ := hN σ3 H3 n3
      exact ⟨m', hm, σ3, H3, I3, w3⟩
    | cont =>
      obtain ⟨σ3, H3, I3, n3⟩ := q3
      obtain ⟨m', hm, w3⟩ := hN σ3 H3 n3
      exact ⟨m', hm, σ3, H3, I3, w3⟩
    | brk => exact q3
    | ret v => exact q3
  | false =>
    rw [if_neg Bool.false_ne_true]
    exact wpAny_execs_nil ⟨σ1, H2, I2, q2⟩
end

/-! ### what a loop or a comprehension walks -/
/-- at turn i: it yields x (the heap may grow), or it stops -/
structure It where
  go : Nat → Hp → Prop
  yld : Nat → Hp → V → Hp → Prop
  stop : Nat → Hp → Prop
/-- the iterator's own objects may turn: they are not the frame's, not pinned, younger than the entry (or a comprehension's own) -/
def FpOk (X : Cx) (pins : List (Addr × Obj)) (H : Hp) (b : Addr) : Prop :=
  H b = none ∧ b ≠ X.env.locals ∧ b ∉ X.fs ∧ (b ∈ X.ex ∨ X.s₀.heap.objs.size ≤ b) ∧ (∀ x c, X.env.cells.lookup x = some c → c ≠ b) ∧ ∀ p ∈ X.pn ++ pins, p.1 ≠ b
theorem Inv.fpOk {X : Cx} {pins : List (Addr × Obj)} {σ : St} {H H' : Hp} {s : Shared} {b : Addr} (I : Inv X pins σ H s) (hb : s.heap.objs.size ≤ b) (hn : H' b = none) : FpOk X pins H' b := by
  refine ⟨hn, Nat.ne_of_gt (Nat.lt_of_lt_of_le I.lt hb), I.nofs hb, .inr (Nat.le_trans I.sz hb), fun x c e z => ?_, fun p hp z => ?_⟩
  · obtain ⟨v, q⟩ := I.cell x c e
    exact absurd (Nat.lt_of_lt_of_le q.lt (by rw [z]; exact hb)) (Nat.lt_irrefl _)
  · exact absurd (Nat.lt_of_lt_of_le (Heap.lt_size (I.pin p hp).1) (by rw [z]; exact hb)) (Nat.lt_irrefl _)
structure Turn (P : Program) (w : World) (K : PySem.W.Frag) (tg : Expr) (J : It) (fp : List Addr) (it : Addr) (tn : Nat → Heap → Prop) : Prop where
  mem : it ∈ fp
  obj : ∀ i h, tn i h → ∀ b ∈ fp, ∃ o, h.get? b = some o ∧ ∀ v, o.data ≠ .cell v
  keep : ∀ i h h', tn i h → (∀ b ∈ fp, ∀ o, h.get? b = some o → h'.get? b = some o) → tn i h'
  item : ∀ (X : Cx), X.prog = P → X.w = w → X.K = K → X.calm = true → ∀ (i : Nat) (pins : List (Addr × Obj)) (s : Shared) (σ : St) (H : Hp) (E : Value → Shared → Prop), Inv X pins σ H s → (∀ b ∈ fp, FpOk X pins H b) → tn i s.heap → J.go i H →
    wpAny (model P w) X.A (pyNext (.ref it)) (fun r s1 => ∃ u, r = some u ∧
      wpAny (model P w) X.A (letOwnedTupleGo tg (.ref it) u) (fun _ s2 => ∃ x H', Inv X pins σ H' s2 ∧ RelV x u ∧ J.yld i H x H' ∧ tn (i + 1) s2.heap ∧ ∀ b ∈ fp, H' b = none) E s1) E s
  done : ∀ (X : Cx), X.prog = P → X.w = w → X.K = K → X.calm = true → ∀ (i : Nat) (pins : List (Addr × Obj)) (s : Shared) (σ : St) (H : Hp) (E : Value → Shared → Prop), Inv X pins σ H s → (∀ b ∈ fp, FpOk X pins H b) → tn i s.heap → J.stop i H →
    wpAny (model P w) X.A (pyNext (.ref it)) (fun r s1 => r = none ∧ Inv X pins σ H s1) E s
  self : ∀ (A : Around) (i : Nat) (s : Shared) (Q : Value → Shared → Prop) (E : Value → Shared → Prop), tn i s.heap → Q (.ref it) s → wpAny (model P w) A (pyIter (.ref it)) Q E s
abbrev TI := St → Hp → (It → Hp → Prop) → Prop
/-- an iterator has come -/
def PIE (X : Cx) (pins : List (Addr × Obj)) (σ : St) (tg : Expr) (R : It → Hp → Prop) (itv : Value) (s2 : Shared) : Prop :=
  ∃ (it : Addr) (fp : List Addr) (tn : Nat → Heap → Prop) (J : It) (H' : Hp), itv = .ref it ∧ Inv X pins σ H' s2 ∧ Turn X.prog X.w X.K tg J fp it tn ∧ tn 0 s2.heap ∧ (∀ b ∈ fp, FpOk X pins H' b) ∧ R J H'
def PI (X : Cx) (tg iter : Expr) (wi : TI) : Prop :=
  ∀ (pins : List (Addr × Obj)) (s : Shared) (σ : St) (H : Hp) (R : It → Hp → Prop), Inv X pins σ H s → wi σ H R →
    wpAny (model X.prog X.w) X.A (eval iter X.env) (fun v s1 => wpAny (model X.prog X.w) X.A (pyIter v) (PIE X pins σ tg R) X.xe s1) X.xe s

/-- the step ahead of the store is nothing for an iterator that keeps no tuple -/
theorem go_of {M : Model} {A : Around} {E : Value → Shared → Prop} {s : Shared} {tg : Expr} {it : Addr} {u : Value} {o : Obj} {n : String} {vs : Array Value} {Q : Unit → Shared → Prop} (ho : s.heap.get? it = some o) (hc : o.cls = .type n) (hd : o.data = .fields vs)
    (hn : ["enumerate", "zip", "dict_itemiterator", "dict_reverseitemiterator", "odict_iterator", "itertools.zip_longest", "itertools.pairwise"].contains n = false) (hQ : Q () s) : wpAny M A (letOwnedTupleGo tg (.ref it) u) Q E s := by
  unfold letOwnedTupleGo
  cases tg <;> first
    | exact wpAny_pure hQ
    | (cases u <;> first
        | exact wpAny_pure hQ
        | (refine wpAny_bind (wpAny_load ho ?_)
           rw [hc, hd]
           show wpAny M A (if (["enumerate", "zip", "dict_itemiterator", "dict_reverseitemiterator", "odict_iterator", "itertools.zip_longest", "itertools.pairwise"].contains n && vs[0]? == some (rawInt _)) = true then _ else _) Q E s
           rw [if_neg (by intro h; rw [hn, Bool.false_and] at h; cases h)]
           exact wpAny_pure hQ))

/-- the list at a, as it stands at each turn (a loop may append to it) -/
def Itl (K : PySem.W.Frag) (a : Addr) : It :=
  ⟨fun i H => ∃ xs x, SqL K H a xs ∧ xs[i]? = some x, fun i H x H' => H' = H ∧ ∀ xs, SqL K H a xs → xs[i]? = some x, fun i H => ∃ xs, SqL K H a xs ∧ xs.length ≤ i⟩
def Itt (K : PySem.W.Frag) (a : Addr) : It :=
  ⟨fun i H => ∃ xs x, SqT K H a xs ∧ xs[i]? = some x, fun i H x H' => H' = H ∧ ∀ xs, SqT K H a xs → xs[i]? = some x, fun i H => ∃ xs, SqT K H a xs ∧ xs.length ≤ i⟩
/-- lo, lo + 1, .. (n of them) -/
def Itr (lo : Int) (n : Nat) : It := ⟨fun i _ => i < n, fun i H x H' => H' = H ∧ x = .int (lo + i), fun i _ => n ≤ i⟩
theorem turn_list {P : Program} {w : World} {K : PySem.W.Frag} {tg : Expr} (a it : Addr) : Turn P w K tg (Itl K a) [it] it (fun i h => h.IsListIter it a i) where
  mem := by simp
  obj := fun i h st b hb => by
    have e : b = it := by simpa using hb
    subst e
    obtain ⟨o, e, c, d⟩ := st
    exact ⟨o, e, fun v z => by rw [d] at z; cases z⟩
  keep := fun i h h' st k => st.at fun o e => k it (by simp) o e
  item := by
    intro X hP hw hK hc i pins s σ H E I hf st hg
    subst hP hw hK
    obtain ⟨xs, x, hq, hx⟩ := hg
    obtain ⟨its, rv, p, hz⟩ := I.list hq
    obtain ⟨u, hu, ru⟩ := rv.get hx
    obtain ⟨f0, f1, f2, f3, f4, f5⟩ := hf it (by simp)
    refine wpAny_pyNext_list_item st p.isList (x := u) (by simpa using hu) fun h' st' sb => ?_
    have I1 : Inv X pins σ H { s with heap := h' } := I.turned (t' := s.toks) (fun b o hb e => (sb.2 b hb).trans e) f0 f1 f3 f4 f5
    obtain ⟨o, e, c, d⟩ := id st'
    exact ⟨u, rfl, go_of (s := { s with heap := h' }) e c d (by decide) ⟨x, H, I1, ru, ⟨rfl, fun ys hy => by rw [I.list_inj hy hq]; exact hx⟩, st', fun b hb => (hf b hb).1⟩⟩
  done := by
    intro X hP hw hK hc i pins s σ H E I hf st hg
    subst hP hw hK
    obtain ⟨xs, hq, hx⟩ := hg
    obtain ⟨its, rv, p, hz⟩ := I.list hq
    obtain ⟨f0, f1, f2, f3, f4, f5⟩ := hf it (by simp)
    have hl := rv.length
    exact wpAny_pyNext_list_end (I.ok.hd hc) st p.isList (by simp; omega) fun h' eb => ⟨rfl, I.turned (t' := s.toks) (fun b o hb e => eb b o hb e) f0 f1 f3 f4 f5⟩
  self := fun _ _ _ _ _ st h => wpAny_pyIter_listiter st h
theorem turn_tuple {P : Program} {w : World} {K : PySem.W.Frag} {tg : Expr} (a it : Addr) : Turn P w K tg (Itt K a) [it] it (fun i h => h.IsTupleIter it a i) where
  mem := by simp
  obj := fun i h st b hb => by
    have e : b = it := by simpa using hb
    subst e
    obtain ⟨o, e, c, d⟩ := st
    exact ⟨o, e, fun v z => by rw [d] at z; cases z⟩
  keep := fun i h h' st k => st.at fun o e => k it (by simp) o e
  item := by
    intro X hP hw hK hc i pins s σ H E I hf st hg
    subst hP hw hK
    obtain ⟨xs, x, hq, hx⟩ := hg
    obtain ⟨its, rv, p, hz⟩ := I.tuple hq
    obtain ⟨u, hu, ru⟩ := rv.get hx
    obtain ⟨f0, f1, f2, f3, f4, f5⟩ := hf it (by simp)
    refine wpAny_pyNext_tuple_item st (show s.heap.IsTuple a its.toArray from p) (x := u) (by simpa using hu) fun h' st' sb => ?_
    have I1 : Inv X pins σ H { s with heap := h' } := I.turned (t' := s.toks) (fun b o hb e => (sb.2 b hb).trans e) f0 f1 f3 f4 f5
    obtain ⟨o, e, c, d⟩ := id st'
    exact ⟨u, rfl, go_of (s := { s with heap := h' }) e c d (by decide) ⟨x, H, I1, ru, ⟨rfl, fun ys hy => by rw [I.tuple_inj hy hq]; exact hx⟩, st', fun b hb => (hf b hb).1⟩⟩
  done := by
    intro X hP hw hK hc i pins s σ H E I hf st hg
    subst hP hw hK
    obtain ⟨xs, hq, hx⟩ := hg
    obtain ⟨its, rv, p, hz⟩ := I.tuple hq
    obtain ⟨f0, f1, f2, f3, f4, f5⟩ := hf it (by simp)
    have hl := rv.length
    exact wpAny_pyNext_tuple_end (I.ok.hd hc) st (show s.heap.IsTuple a its.toArray from p) (by simp; omega) fun h' eb => ⟨rfl, I.turned (t' := s.toks) (fun b o hb e => eb b o hb e) f0 f1 f3 f4 f5⟩
  self := fun _ _ _ _ _ st h => wpAny_pyIter_tupleiter st h
theorem turn_range {P : Program} {w : World} {K : PySem.W.Frag} {tg : Expr} (it : Addr) (lo : Int) (n : Nat) : Turn P w K tg (Itr lo n) [it] it (fun i h => IsRangeIter h it (lo + (i : Nat) * 1) ((n : Int) - (i : Nat)) 1) where
  mem := by simp
  obj := fun i h st b hb => by
    have e : b = it := by simpa using hb
    subst e
    exact ⟨_, st, fun v z => by
      have z' : Data.fields _ = Data.cell v := z
      cases z'⟩
  keep := fun i h h' st k => k it (by simp) _ st
  item := by
    intro X hP hw hK hc i pins s σ H E I hf st hg
    subst hP hw hK
    obtain ⟨f0, f1, f2, f3, f4, f5⟩ := hf it (by simp)
    have W := Walks.range (prog := X.prog) (w := X.w) (I.ok.hd hc) it lo 1 n
    refine W.item i s _ _ hg st fun v h' tk hv st' kk => ?_
    obtain ⟨t, rfl⟩ := hv
    have I1 : Inv X pins σ H { s with heap := h', toks := tk } := I.turned (fun b o hb e => kk b o (by simpa using hb) e) f0 f1 f3 f4 f5
    refine ⟨_, rfl, go_of (s := { s with heap := h', toks := tk }) (n := "range_iterator") st' rfl rfl (by decide) ⟨.int (lo + i), H, I1, ⟨t, ?_⟩, ⟨rfl, rfl⟩, st', fun b hb => (hf b hb).1⟩⟩
    rw [Int.mul_one]
  done := by
    intro X hP hw hK hc i pins s σ H E I hf st hg
    subst hP hw hK
    obtain ⟨f0, f1, f2, f3, f4, f5⟩ := hf it (by simp)
    exact wpAny_pyNext_range_end (I.ok.hd hc) st (by have : n ≤ i := hg; omega) fun h' eb => ⟨rfl, I.turned (t' := s.toks) (fun b o hb e => eb b o hb e) f0 f1 f3 f4 f5⟩
  self := fun _ _ _ _ _ st h => wpAny_pyIter_rangeiter st h
end L2

namespace L2
open PySem PySem.Spec PyProof.Rows
section
variable {X : Cx} {tg : Expr}
def iList (K : PySem.W.Frag) (tl : TE) : TI := fun σ H R => tl σ H fun x H1 => ∃ a, x = .ref a ∧ (∃ xs, SqL K H1 a xs) ∧ R (Itl K a) H1
def iTup (K : PySem.W.Frag) (tl : TE) : TI := fun σ H R => tl σ H fun x H1 => ∃ a, x = .ref a ∧ (∃ xs, SqT K H1 a xs) ∧ R (Itt K a) H1
theorem pi_list {l : Expr} {tl : TE} (hl : PE X l tl) : PI X tg l (iList X.K tl) := by
  intro pins s σ H R I h
  refine thn (hl pins s σ H _ I h) fun v s1 ⟨x, H1, I1, r1, q1⟩ => ?_
  obtain ⟨a, e, ⟨xs, hq⟩, q⟩ := q1
  subst e
  cases r1
  obtain ⟨its, rv, p, hz⟩ := I1.list hq
  refine wpAny_pyIter_list p.isList ?_
  refine ⟨s1.heap.objs.size, [s1.heap.objs.size], _, _, H1, rfl, I1.kept (t' := s1.toks) fun b o e => Heap.get?_push_of_some _ e, turn_list a _, ⟨_, Heap.get?_push_size _ rfl, rfl, rfl⟩, fun b hb => ?_, q⟩
  have e : b = s1.heap.objs.size := by simpa using hb
  subst e
  exact I1.fpOk (Nat.le_refl _) (I1.hok.fresh (Nat.le_refl _))
theorem pi_tup {l : Expr} {tl : TE} (hl : PE X l tl) : PI X tg l (iTup X.K tl) := by
  intro pins s σ H R I h
  refine thn (hl pins s σ H _ I h) fun v s1 ⟨x, H1, I1, r1, q1⟩ => ?_
  obtain ⟨a, e, ⟨xs, hq⟩, q⟩ := q1
  subst e
  cases r1
  obtain ⟨its, rv, p, hz⟩ := I1.tuple hq
  refine wpAny_pyIter_tuple (show s1.heap.IsTuple a its.toArray from p) ?_
  refine ⟨s1.heap.objs.size, [s1.heap.objs.size], _, _, H1, rfl, I1.kept (t' := s1.toks) fun b o e => Heap.get?_push_of_some _ e, turn_tuple a _, ⟨_, Heap.get?_push_size _ rfl, rfl, rfl⟩, fun b hb => ?_, q⟩
  have e : b = s1.heap.objs.size := by simpa using hb
  subst e
  exact I1.fpOk (Nat.le_refl _) (I1.hok.fresh (Nat.le_refl _))
/-- a range object just made, walked -/
theorem range_it {pins : List (Addr × Obj)} {σ : St} {H : Hp} {s : Shared} {R : It → Hp → Prop} {E : Value → Shared → Prop} {lo hi : Int} {t u v : Tok} {tk : Nat} (I : Inv X pins σ H s) (h1 : -(2 ^ 62) ≤ lo) (h2 : lo < 2 ^ 62) (h3 : -(2 ^ 62) ≤ hi) (h4 : hi < 2 ^ 62)
    (q : R (Itr lo (hi - lo).toNat) H) : wpAny (model X.prog X.w) X.A (pyIter (.ref s.heap.objs.size)) (PIE X pins σ tg R) E { s with heap := s.heap.push { cls := .type "range", data := .fields #[.int lo t, .int hi u, .int 1 v] }, toks := tk } := by
  refine wpAny_pyIter_range (IsRange.new ..) (small_one h1 h2 h3 h4) ?_
  have I1 : Inv X pins σ H { s with heap := s.heap.push { cls := .type "range", data := .fields #[.int lo t, .int hi u, .int 1 v] }, toks := tk } := I.kept fun b o e => Heap.get?_push_of_some _ e
  refine ⟨(s.heap.push { cls := .type "range", data := .fields #[.int lo t, .int hi u, .int 1 v] }).objs.size, [(s.heap.push { cls := .type "range", data := .fields #[.int lo t, .int hi u, .int 1 v] }).objs.size], _, _, H, rfl,
    I1.kept (t' := tk) fun b o e => Heap.get?_push_of_some _ e, turn_range _ lo (hi - lo).toNat, ?_, fun b hb => ?_, q⟩
  · have e1 : lo + ((0 : Nat) : Int) * 1 = lo := by simp
    have e2 : (((hi - lo).toNat : Nat) : Int) - ((0 : Nat) : Int) = Builtin.Range.rangeSize lo hi 1 := by rw [rangeSize_one]; split <;> omega
    show IsRangeIter _ _ (lo + ((0 : Nat) : Int) * 1) ((((hi - lo).toNat : Nat) : Int) - ((0 : Nat) : Int)) 1
    rw [e1, e2]
    exact Heap.get?_push_size _ rfl
  · have e : b = (s.heap.push { cls := .type "range", data := .fields #[.int lo t, .int hi u, .int 1 v] }).objs.size := by simpa using hb
    subst e
    exact I1.fpOk (Nat.le_refl _) (I1.hok.fresh (Nat.le_refl _))
def iRng1 (ta : TA) : TI := fun σ H R => ta σ H fun vs H1 => ∃ j : Int, vs = [.int j] ∧ -(2 ^ 62) ≤ j ∧ j < 2 ^ 62 ∧ R (Itr 0 j.toNat) H1
theorem pi_range1 {a : Expr} {ta : TA} {p pos : Pos} (hg : Gl X "range") (hm : X.mg "range" = none) (ha : PA X [a] ta) (hs : starEach [a] X.env = [(false, eval a X.env)] := by rfl) : PI X tg (.Call (.Name "range" p) [a] [] pos) (iRng1 ta) := by
  intro pins s σ H R I h
  refine Call_ (ld_blt I hg hm boot_range (PyProof.Rows.callWith_type1 (thn (ha pos pins s σ H _ I h) fun us s1 ⟨vs, H1, I1, r1, q1⟩ => ?_) hs rfl))
  obtain ⟨j, e, q1, q2, q⟩ := q1
  subst e
  cases r1 with
  | cons r rr =>
    cases rr
    obtain ⟨t, rfl⟩ := r
    exact call_range_1 (range_it I1 (by omega) (by omega) q1 q2 (by simpa using q))

/-! ### for -/
/-- W: the invariant by the turn and a measure; N: what the body is to reach -/
def tFor (wi : TI) (g : TG) (tb : TS) : TS := fun D σ H => wi σ H fun J H1 => ∃ W : Nat → Nat → St → Hp → Prop, (∃ m, W 0 m σ H1) ∧ ∀ i m σ H, W i m σ H →
  (J.stop i H ∧ D.nx σ H) ∨ (J.go i H ∧ ∃ N : St → Hp → Prop, (∀ σ' H', N σ' H' → ∃ m', m' < m ∧ W (i + 1) m' σ' H') ∧ ∀ x H', J.yld i H x H' → g x σ H' fun σ2 H2 => tb { D with nx := N, ct := N, bk := D.nx } σ2 H2)
/-- the records at fp as they stand -/
def pinsAt (fp : List Addr) (h : Heap) : List (Addr × Obj) := fp.filterMap fun b => (h.get? b).map fun o => (b, o)
theorem mem_pinsAt {fp : List Addr} {h : Heap} {b : Addr} {o : Obj} (hb : b ∈ fp) (e : h.get? b = some o) : (b, o) ∈ pinsAt fp h := List.mem_filterMap.mpr ⟨b, hb, by rw [e]; rfl⟩
theorem of_pinsAt {fp : List Addr} {h : Heap} {p : Addr × Obj} (hp : p ∈ pinsAt fp h) : p.1 ∈ fp ∧ h.get? p.1 = some p.2 := by
  obtain ⟨b, hb, e⟩ := List.mem_filterMap.mp hp
  cases q : h.get? b with
  | none => rw [q] at e; cases e
  | some o =>
    rw [q] at e
    have e' : (b, o) = p := Option.some.inj e
    subst e'
    exact ⟨hb, q⟩
theorem Inv.pinned {pins : List (Addr × Obj)} {σ : St} {H : Hp} {s : Shared} {fp : List Addr} (I : Inv X pins σ H s) (hf : ∀ b ∈ fp, FpOk X pins H b) (ho : ∀ b ∈ fp, ∃ o, s.heap.get? b = some o ∧ ∀ v, o.data ≠ .cell v) : Inv X (pins ++ pinsAt fp s.heap) σ H s :=
  I.pins_of fun p hp => (List.mem_append.mp hp).elim (fun z => I.pin p (List.mem_append_right _ z)) fun z => by
    obtain ⟨hb, e⟩ := of_pinsAt z
    obtain ⟨f0, f1, f2, _⟩ := hf p.1 hb
    obtain ⟨o, e', d⟩ := ho p.1 hb
    rw [e] at e'; cases e'
    exact ⟨e, f0, f1, f2, d⟩
theorem Inv.unpinned {pins pl : List (Addr × Obj)} {σ : St} {H : Hp} {s : Shared} (I : Inv X (pins ++ pl) σ H s) : Inv X pins σ H s := I.pins_of fun p hp => I.pin p (List.mem_append_right _ (List.mem_append_left _ hp))
theorem ps_for {iter : Expr} {body : List Stmt} {wi : TI} {g : TG} {tb : TS} {pos : Pos} (hp : PassesOwn (model X.prog X.w) X.A X.env X.xe) (hc : X.calm = true) (hi : PI X tg iter wi) (hg : PG X tg g) (hb : PSs X body tb)
    (hs : ∀ x, foldedSetIterable iter X.env x = pure x := by intro _; rfl) : PS X (.For tg iter body [] pos) (tFor wi g tb) := by
  intro pins s σ H D I h
  refine wpAny_For (thn (hi pins s σ H _ I h) fun v s1 h1 => thn h1 fun itv s2 h2 => ?_) hs
  obtain ⟨it, fp, tn, J, H2, e, I2, T, st2, f2, W, ⟨m0, w0⟩, turn⟩ := h2
  subst e
  -- what stays true of the iterator's objects through the loop
  have stat : ∀ {H' : Hp}, (∀ b ∈ fp, H' b = none) → ∀ b ∈ fp, FpOk X pins H' b := fun hn b hb => ⟨hn b hb, (f2 b hb).2⟩
  refine codeAny_forLoop_any (fun n s' => ∃ i σ' H', Inv X pins σ' H' s' ∧ tn i s'.heap ∧ (∀ b ∈ fp, H' b = none) ∧ W i n σ' H') ?_ m0 ⟨0, σ, H2, I2, st2, fun b hb => (f2 b hb).1, w0⟩
  rintro n s3 ⟨i, σ3, H3, I3, st3, fr3, w3⟩
  rcases turn i n σ3 H3 w3 with ⟨stop, qn⟩ | ⟨go, N, hN, step⟩
  · refine wpAny_passesOwn hp (thn (T.done X rfl rfl rfl hc i pins s3 σ3 H3 X.xe I3 (stat fr3) st3 stop) fun r s4 ⟨hr, I4⟩ => ?_)
    subst hr
    exact wpAny_execs_nil ⟨σ3, H3, I4, qn⟩
  · refine wpAny_passesOwn hp (thn (T.item X rfl rfl rfl hc i pins s3 σ3 H3 X.xe I3 (stat fr3) st3 go) fun r s4 ⟨u, hr, h4⟩ => ?_)
    subst hr
    refine wpAny_passesOwn hp (thn h4 fun _ s5 ⟨x, H5, I5, r5, y5, st5, fr5⟩ => ?_)
    have I5' := I5.pinned (stat fr5) (T.obj _ _ st5)
    refine wpAny_passesOwn hp (thn (hg _ s5 σ3 H5 x u _ I5' r5 (step x H5 y5)) fun _ s6 ⟨σ6, H6, I6, q6⟩ => ?_)
    refine wpAny_passesOwn hp (thn (hb _ s6 σ6 H6 _ I6 q6) fun f s7 q7 => ?_)
    have again : ∀ {σ7 : St} {H7 : Hp}, Inv X (pins ++ pinsAt fp s5.heap) σ7 H7 s7 → N σ7 H7 → ∃ m, m < n ∧ ∃ i σ' H', Inv X pins σ' H' s7 ∧ tn i s7.heap ∧ (∀ b ∈ fp, H' b = none) ∧ W i m σ' H' := fun {σ7 H7} I7 n7 => by
      obtain ⟨m', hm, w7⟩ := hN σ7 H7 n7
      refine ⟨m', hm, i + 1, σ7, H7, I7.unpinned, T.keep _ _ _ st5 fun b hb o e => (I7.pin (b, o) (List.mem_append_right _ (List.mem_append_right _ (mem_pinsAt hb e)))).1, fun b hb => ?_, w7⟩
      obtain ⟨o, e, d⟩ := T.obj _ _ st5 b hb
      exact (I7.pin (b, o) (List.mem_append_right _ (List.mem_append_right _ (mem_pinsAt hb e)))).2.1
    cases f with
    | next => obtain ⟨σ7, H7, I7, n7⟩ := q7; exact again I7 n7
    | cont => obtain ⟨σ7, H7, I7, n7⟩ := q7; exact again I7 n7
    | brk => obtain ⟨σ7, H7, I7, q7⟩ := q7; exact ⟨σ7, H7, I7.unpinned, q7⟩
    | ret v => obtain ⟨x7, σ7, H7, I7, r7, q7⟩ := q7; exact ⟨x7, σ7, H7, I7.unpinned, r7, q7⟩
end

/-! ### the forms one uses -/
end L2

namespace L2
open PySem PySem.Spec PyProof.Rows

abbrev R2 := V → V → Hp → VK → Prop
/-- a two-place operation on values: f is binaryOp op, inplaceOp op or compareOp op -/
def OpR (X : Cx) (f : Value → Value → Sem Value) (r : R2) : Prop :=
  ∀ (pins : List (Addr × Obj)) (s : Shared) (σ : St) (H : Hp) (x y : V) (v u : Value) (Q : VK), Inv X pins σ H s → RelV x v → RelV y u → r x y H Q →
    wpAny (model X.prog X.w) X.A (f v u) (EP X pins σ Q) X.xe s
/-- a one-place operation -/
def UnR (X : Cx) (f : Value → Sem Value) (r : V → Hp → VK → Prop) : Prop :=
  ∀ (pins : List (Addr × Obj)) (s : Shared) (σ : St) (H : Hp) (x : V) (v : Value) (Q : VK), Inv X pins σ H s → RelV x v → r x H Q →
    wpAny (model X.prog X.w) X.A (f v) (EP X pins σ Q) X.xe s
/-- a call of a value that is known (a builtin, a type) with values -/
def CallR (X : Cx) (f : Value) (r : List V → Hp → VK → Prop) : Prop :=
  ∀ (pins : List (Addr × Obj)) (s : Shared) (σ : St) (H : Hp) (xs : List V) (us : List Value) (Q : VK), Inv X pins σ H s → Vals xs us → r xs H Q →
    wpAny (model X.prog X.w) X.A (call f us) (EP X pins σ Q) X.xe s
/-- a value's truth -/
def TruR (X : Cx) (r : V → Hp → (Bool → Hp → Prop) → Prop) : Prop :=
  ∀ (pins : List (Addr × Obj)) (s : Shared) (σ : St) (H : Hp) (x : V) (v : Value) (Q : Bool → Hp → Prop), Inv X pins σ H s → RelV x v → r x H Q →
    wpAny (model X.prog X.w) X.A (truthy v) (TP X pins σ Q) X.xe s

def tOp (r : R2) (ta tb : TE) : TE := fun σ H Q => ta σ H fun x H1 => tb σ H1 fun y H2 => r x y H2 Q
def tUn (r : V → Hp → VK → Prop) (ta : TE) : TE := fun σ H Q => ta σ H fun x H1 => r x H1 Q
/-- ints in, under C, and a value out -/
def rI (C : Int → Int → Prop) (g : Int → Int → V) : R2 := fun x y H Q => ∃ i j, x = .int i ∧ y = .int j ∧ C i j ∧ Q (g i j) H
def rI0 (g : Int → Int → V) : R2 := fun x y H Q => ∃ i j, x = .int i ∧ y = .int j ∧ Q (g i j) H
def rU (g : Int → V) : V → Hp → VK → Prop := fun x H Q => ∃ i, x = .int i ∧ Q (g i) H

section
variable {X : Cx} {a b c : Expr} {ta tb tc : TE} {pos : Pos}

theorem binT (ha : PE X a ta) (hb : PE X b tb) {pins : List (Addr × Obj)} {s : Shared} {σ : St} {H : Hp} {R : V → V → Hp → Prop} (I : Inv X pins σ H s)
    (h : ta σ H fun x H1 => tb σ H1 fun y H2 => R x y H2) {Q : Value → Shared → Prop} {f : Value → Value → Sem Value}
    (hf : ∀ v u s2 x y H2, Inv X pins σ H2 s2 → RelV x v → RelV y u → R x y H2 → wpAny (model X.prog X.w) X.A (f v u) Q X.xe s2) :
    wpAny (model X.prog X.w) X.A (eval a X.env) (fun v s₁ => wpAny (model X.prog X.w) X.A (eval b X.env) (fun u s₂ => wpAny (model X.prog X.w) X.A (f v u) Q X.xe s₂) X.xe s₁) X.xe s := by
  refine thn (ha pins s σ H _ I h) fun v s1 ⟨x, H1, I1, r1, q1⟩ => ?_
  refine thn (hb pins s1 σ H1 _ I1 q1) fun u s2 ⟨y, H2, I2, r2, q2⟩ => ?_
  exact hf v u s2 x y H2 I2 r1 r2 q2

theorem pe_op {op : Operator} {r : R2} (ho : OpR X (binaryOp op) r) (ha : PE X a ta) (hb : PE X b tb) : PE X (.BinOp a op b pos) (tOp r ta tb) := by
  intro pins s σ H Q I h
  exact wpAny_BinOp (binT ha hb I h fun v u s2 x y H2 I2 rx ry q => ho pins s2 σ H2 x y v u Q I2 rx ry q)
theorem pe_un {op : UnaryOp} {r : V → Hp → VK → Prop} (ho : UnR X (unaryOp op) r) (ha : PE X a ta) : PE X (.UnaryOp op a pos) (tUn r ta) := by
  intro pins s σ H Q I h
  exact UnaryOp_ (thn (ha pins s σ H _ I h) fun v s1 ⟨x, H1, I1, r1, q1⟩ => ho pins s1 σ H1 x v Q I1 r1 q1)

/-! ### ints -/
theorem opI {f : Value → Value → Sem Value} {C : Int → Int → Prop} {g : Int → Int → Int}
    (rule : ∀ (i j : Int) (t u : Tok) (s : Shared) (Q : Value → Shared → Prop) (E : Value → Shared → Prop), C i j → Q (.int (g i j) s.toks) { s with toks := s.toks + 1 } → wpAny (model X.prog X.w) X.A (f (.int i t) (.int j u)) Q E s) :
    OpR X f (rI C fun i j => .int (g i j)) := by
  intro pins s σ H x y v u Q I rx ry h
  obtain ⟨i, j, rfl, rfl, hc, q⟩ := h
  obtain ⟨t, rfl⟩ := rx
  obtain ⟨t', rfl⟩ := ry
  exact rule i j t t' s _ _ hc ⟨.int (g i j), H, I.tok _, ⟨_, rfl⟩, q⟩
theorem opI0 {f : Value → Value → Sem Value} {g : Int → Int → Int}
    (rule : ∀ (i j : Int) (t u : Tok) (s : Shared) (Q : Value → Shared → Prop) (E : Value → Shared → Prop), Q (.int (g i j) s.toks) { s with toks := s.toks + 1 } → wpAny (model X.prog X.w) X.A (f (.int i t) (.int j u)) Q E s) :
    OpR X f (rI0 fun i j => .int (g i j)) := by
  intro pins s σ H x y v u Q I rx ry h
  obtain ⟨i, j, rfl, rfl, q⟩ := h
  obtain ⟨t, rfl⟩ := rx
  obtain ⟨t', rfl⟩ := ry
  exact rule i j t t' s _ _ ⟨.int (g i j), H, I.tok _, ⟨_, rfl⟩, q⟩
theorem opB0 {f : Value → Value → Sem Value} {g : Int → Int → Bool}
    (rule : ∀ (i j : Int) (t u : Tok) (s : Shared) (Q : Value → Shared → Prop) (E : Value → Shared → Prop), Q (.bool (g i j)) s → wpAny (model X.prog X.w) X.A (f (.int i t) (.int j u)) Q E s) :
    OpR X f (rI0 fun i j => .bl (g i j)) := by
  intro pins s σ H x y v u Q I rx ry h
  obtain ⟨i, j, rfl, rfl, q⟩ := h
  obtain ⟨t, rfl⟩ := rx
  obtain ⟨t', rfl⟩ := ry
  exact rule i j t t' s _ _ ⟨.bl (g i j), H, I, rfl, q⟩

def CDiv (i j : Int) : Prop := 0 < j ∧ j < 1073741824
def CPow (i j : Int) : Prop := 0 ≤ j ∧ j ≤ 1000000 ∧ i.natAbs < 2 ^ 64
def CMul (i j : Int) : Prop := (-(2 ^ 64) < i ∧ i < 2 ^ 64) ∨ (-(2 ^ 64) < j ∧ j < 2 ^ 64)
theorem CMul.ok {i j : Int} (h : CMul i j) : IntMulOk i j := by
  rcases h with ⟨h1, h2⟩ | ⟨h1, h2⟩
  · exact .of_left (intBits_le_64 h1 h2)
  · exact .of_right (intBits_le_64 h1 h2)

theorem op_add : OpR X (binaryOp .Add) (rI0 fun i j => .int (i + j)) := opI0 fun _ _ _ _ _ _ _ q => add_int q
theorem op_sub : OpR X (binaryOp .Sub) (rI0 fun i j => .int (i - j)) := opI0 fun _ _ _ _ _ _ _ q => sub_int q
theorem op_mul : OpR X (binaryOp .Mult) (rI CMul fun i j => .int (i * j)) := opI fun _ _ _ _ _ _ _ hc q => mul_int q hc.ok
/-- // by a positive divisor -/
theorem op_fdiv : OpR X (binaryOp .FloorDiv) (rI CDiv fun i j => .int (i / j)) := opI fun i j _ _ _ _ _ hc q => by
  have h1 : (0 : Int) < j := hc.1
  have h2 : j < 1073741824 := hc.2
  exact floordiv_int (by omega) (by rw [Int.fdiv_eq_ediv_of_nonneg i (by omega)]; exact q) (.inl (PyProof.noPylong_small (by omega)))
/-- % by a positive divisor of any size -/
theorem op_mod : OpR X (binaryOp .Mod) (rI (fun _ j => 0 < j) fun i j => .int (i % j)) := opI fun i j _ _ _ _ _ hc q => by
  have h1 : (0 : Int) < j := hc
  exact mod_int' (by omega) (by rw [Int.fmod_eq_emod_of_nonneg i (by omega)]; exact q)
theorem op_pow : OpR X (binaryOp .Pow) (rI CPow fun i j => .int (i ^ j.toNat)) := opI fun _ _ _ _ _ _ _ hc q => pow_int_small hc.1 hc.2.1 hc.2.2 q


theorem unI {f : Value → Sem Value} {g : Int → Int}
    (rule : ∀ (i : Int) (t : Tok) (s : Shared) (Q : Value → Shared → Prop) (E : Value → Shared → Prop), Q (.int (g i) s.toks) { s with toks := s.toks + 1 } → wpAny (model X.prog X.w) X.A (f (.int i t)) Q E s) :
    UnR X f (rU fun i => .int (g i)) := by
  intro pins s σ H x v Q I rx h
  obtain ⟨i, rfl, q⟩ := h
  obtain ⟨t, rfl⟩ := rx
  exact rule i t s _ _ ⟨.int (g i), H, I.tok _, ⟨_, rfl⟩, q⟩
theorem un_neg : UnR X (unaryOp .USub) (rU fun i => .int (-i)) := unI fun _ _ _ _ _ q => neg_int q

/-! ### bools among ints: n += (a < b) -/
end

/-! ### comparisons -/
/-- the scalars that == tells apart as data does -/
def scal : V → V → Bool
  | .non, .non => true | .non, .int _ => true | .int _, .non => true | .non, .bl _ => true | .bl _, .non => true | .non, .str _ => true | .str _, .non => true
  | .int _, .int _ => true | .bl _, .bl _ => true | .str _, .str _ => true | .byt _, .byt _ => true
  | .int _, .str _ => true | .str _, .int _ => true | .bl _, .str _ => true | .str _, .bl _ => true
  | _, _ => false
def rEq : R2 := fun x y H Q => scal x y = true ∧ Q (.bl (decide (x = y))) H
def rNe : R2 := fun x y H Q => scal x y = true ∧ Q (.bl (!decide (x = y))) H

theorem dec_int {i j : Int} : decide (V.int i = V.int j) = (i == j) := by
  rw [Bool.eq_iff_iff]
  simp
theorem dec_bl {i j : Bool} : decide (V.bl i = V.bl j) = (i == j) := by
  rw [Bool.eq_iff_iff]
  simp
theorem dec_str {i j : Str} : decide (V.str i = V.str j) = (i == j) := by
  rw [Bool.eq_iff_iff]
  simp
theorem dec_byt {i j : Array UInt8} : decide (V.byt i = V.byt j) = (i.toList == j.toList) := by
  rw [Bool.eq_iff_iff]
  cases i
  cases j
  simp

section
variable {X : Cx} {a b c : Expr} {ta tb tc : TE} {pos : Pos}
theorem fin_bl {pins : List (Addr × Obj)} {σ : St} {H : Hp} {s : Shared} {Q : VK} {k k' : Bool} (I : Inv X pins σ H s) (q : Q (.bl k) H) (e : k = k') : EP X pins σ Q (.bool k') s := by
  subst e
  exact ⟨.bl k, H, I, rfl, q⟩
theorem op_eq : OpR X (compareOp .Eq) rEq := by
  intro pins s σ H x y v u Q I rx ry h
  obtain ⟨hs, q⟩ := h
  cases x with
  | non =>
    cases rx
    cases y with
    | non => cases ry; exact PySem.EqNone.eq_none_none (fin_bl I q (by simp))
    | bl j => cases ry; exact PySem.EqNone.eq_none_bool (fin_bl I q (by simp))
    | int j => obtain ⟨t', rfl⟩ := ry; exact PySem.EqNone.eq_none_int (fin_bl I q (by simp))
    | str j => obtain ⟨t', rfl⟩ := ry; exact PySem.EqNone.eq_none_str (fin_bl I q (by simp))
    | _ => exact absurd (show false = true from hs) Bool.false_ne_true
  | bl i =>
    cases rx
    cases y with
    | non => cases ry; exact PySem.EqNone.eq_bool_none (fin_bl I q (by simp))
    | bl j => cases ry; exact eq_bool (fin_bl I q dec_bl)
    | str j => obtain ⟨t', rfl⟩ := ry; exact PySem.EqMixed.eq_bool_str (fin_bl I q (by simp))
    | _ => exact absurd (show false = true from hs) Bool.false_ne_true
  | int i =>
    obtain ⟨t, rfl⟩ := rx
    cases y with
    | non => cases ry; exact PySem.EqNone.eq_int_none (fin_bl I q (by simp))
    | int j => obtain ⟨t', rfl⟩ := ry; exact eq_int (fin_bl I q dec_int)
    | str j => obtain ⟨t', rfl⟩ := ry; exact PySem.EqMixed.eq_int_str (fin_bl I q (by simp))
    | _ => exact absurd (show false = true from hs) Bool.false_ne_true
  | str i =>
    obtain ⟨t, rfl⟩ := rx
    cases y with
    | non => cases ry; exact PySem.EqNone.eq_str_none (fin_bl I q (by simp))
    | bl j => cases ry; exact PySem.EqMixed.eq_str_bool (fin_bl I q (by simp))
    | int j => obtain ⟨t', rfl⟩ := ry; exact PySem.EqMixed.eq_str_int (fin_bl I q (by simp))
    | str j => obtain ⟨t', rfl⟩ := ry; exact eq_str (fin_bl I q dec_str)
    | _ => exact absurd (show false = true from hs) Bool.false_ne_true
  | byt i =>
    obtain ⟨t, rfl⟩ := rx
    cases y with
    | byt j => obtain ⟨t', rfl⟩ := ry; exact PySem.W.eq_bytes (fin_bl I q dec_byt)
    | _ => exact absurd (show false = true from hs) Bool.false_ne_true
  | _ => cases y <;> exact absurd (show false = true from hs) Bool.false_ne_true
theorem op_ne : OpR X (compareOp .NotEq) rNe := by
  intro pins s σ H x y v u Q I rx ry h
  obtain ⟨hs, q⟩ := h
  cases x with
  | non =>
    cases rx
    cases y with
    | non => cases ry; exact PySem.EqNone.ne_none_none (fin_bl I q (by simp))
    | bl j => cases ry; exact PySem.EqNone.ne_none_bool (fin_bl I q (by simp))
    | int j => obtain ⟨t', rfl⟩ := ry; exact PySem.EqNone.ne_none_int (fin_bl I q (by simp))
    | str j => obtain ⟨t', rfl⟩ := ry; exact PySem.EqNone.ne_none_str (fin_bl I q (by simp))
    | _ => exact absurd (show false = true from hs) Bool.false_ne_true
  | bl i =>
    cases rx
    cases y with
    | non => cases ry; exact PySem.EqNone.ne_bool_none (fin_bl I q (by simp))
    | bl j => cases ry; exact ne_bool (fin_bl I q (congrArg not dec_bl))
    | str j => obtain ⟨t', rfl⟩ := ry; exact PySem.EqMixed.ne_bool_str (fin_bl I q (by simp))
    | _ => exact absurd (show false = true from hs) Bool.false_ne_true
  | int i =>
    obtain ⟨t, rfl⟩ := rx
    cases y with
    | non => cases ry; exact PySem.EqNone.ne_int_none (fin_bl I q (by simp))
    | int j => obtain ⟨t', rfl⟩ := ry; exact ne_int (fin_bl I q (congrArg not dec_int))
    | str j => obtain ⟨t', rfl⟩ := ry; exact PySem.EqMixed.ne_int_str (fin_bl I q (by simp))
    | _ => exact absurd (show false = true from hs) Bool.false_ne_true
  | str i =>
    obtain ⟨t, rfl⟩ := rx
    cases y with
    | non => cases ry; exact PySem.EqNone.ne_str_none (fin_bl I q (by simp))
    | bl j => cases ry; exact PySem.EqMixed.ne_str_bool (fin_bl I q (by simp))
    | int j => obtain ⟨t', rfl⟩ := ry; exact PySem.EqMixed.ne_str_int (fin_bl I q (by simp))
    | str j => obtain ⟨t', rfl⟩ := ry; exact ne_str (fin_bl I q (congrArg not dec_str))
    | _ => exact absurd (show false = true from hs) Bool.false_ne_true
  | byt i =>
    obtain ⟨t, rfl⟩ := rx
    cases y with
    | byt j => obtain ⟨t', rfl⟩ := ry; exact PySem.W.ne_bytes (fin_bl I q (congrArg not dec_byt))
    | _ => exact absurd (show false = true from hs) Bool.false_ne_true
  | _ => cases y <;> exact absurd (show false = true from hs) Bool.false_ne_true

theorem op_lt : OpR X (compareOp .Lt) (rI0 fun i j => .bl (decide (i < j))) := opB0 fun _ _ _ _ _ _ _ q => lt_int q
theorem op_gt : OpR X (compareOp .Gt) (rI0 fun i j => .bl (decide (j < i))) := opB0 fun _ _ _ _ _ _ _ q => gt_int q
theorem op_ge : OpR X (compareOp .GtE) (rI0 fun i j => .bl (decide (j ≤ i))) := opB0 fun _ _ _ _ _ _ _ q => ge_int q




theorem nomark (b : Expr) {op : CmpOp} (h : op ≠ .In := by decide) (h2 : op ≠ .NotIn := by decide) : behindInMarks op b = false := by
  have e1 : (op == CmpOp.In) = false := by cases op <;> first | rfl | exact absurd rfl h
  have e2 : (op == CmpOp.NotIn) = false := by cases op <;> first | rfl | exact absurd rfl h2
  cases b <;> simp [behindInMarks, e1, e2]
/-- a comparison as a value; hm: nomark b, or (for in, not in) by with_unfolding_all rfl -/
theorem pe_cmpR {op : CmpOp} {r : R2} (ho : OpR X (compareOp op) r) (ha : PE X a ta) (hb : PE X b tb) (hm : behindInMarks op b = false) : PE X (.Compare a [op] [b] pos) (tOp r ta tb) := by
  intro pins s σ H Q I h
  exact wpAny_Compare1 (binT ha hb I h fun v u s2 x y H2 I2 rx ry q => ho pins s2 σ H2 x y v u Q I2 rx ry q) hm
/-- a reading of a value as a test -/
def tTest (t : TE) : TT := fun σ H Q => t σ H fun x H' => ∃ k, x = .bl k ∧ Q k H'
theorem pt_cmpR {op : CmpOp} {r : R2} (ho : OpR X (compareOp op) r) (ha : PE X a ta) (hb : PE X b tb) (hm : behindInMarks op b = false) : PT X (.Compare a [op] [b] pos) (tTest (tOp r ta tb)) := by
  intro pins s σ H Q I h
  refine wpAny_isTrue_Compare1 (thn (ha pins s σ H _ I h) fun v s1 ⟨x, H1, I1, r1, q1⟩ => thn (hb pins s1 σ H1 _ I1 q1) fun u s2 ⟨y, H2, I2, r2, q2⟩ =>
    thn (ho pins s2 σ H2 x y v u _ I2 r1 r2 q2) fun c s3 ⟨z, H3, I3, r3, k, e, q3⟩ => ?_) hm
  subst e
  cases r3
  exact wpAny_truthy_bool ⟨H3, I3, q3⟩

/-! ### truth -/
/-- a value's truth by the abstract heap -/
def TruV (K : PySem.W.Frag) (x : V) (H : Hp) (k : Bool) : Prop :=
  match x with
  | .non => k = false
  | .bl b => k = b
  | .int i => k = (i != 0)
  | .str y => y.length ≤ sizeLine ∧ k = ((y.length : Int) != 0)
  | .byt y => y.size ≤ sizeLine ∧ k = ((y.size : Int) != 0)
  | .ref p => (∃ xs, SqL K H p xs ∧ k = !xs.isEmpty) ∨ (∃ xs, SqT K H p xs ∧ k = !xs.isEmpty) ∨ ∃ kvs, H p = some (.dK kvs) ∧ k = !kvs.isEmpty
  | _ => False
theorem isEmpty_kv {κ : Type} {kvs : List (κ × V)} {vs : List (κ × Value)} (r : KV kvs vs) : (!vs.isEmpty) = !kvs.isEmpty := by
  cases r <;> rfl
theorem isEmpty_of {xs : List V} {its : List Value} (r : Vals xs its) : (!its.toArray.isEmpty) = !xs.isEmpty := by
  cases r <;> simp
theorem line63 : (sizeLine : Nat) < 2 ^ 63 := by rw [sizeLine_eq]; decide
theorem tru_ok : TruR X (fun x H Q => ∃ k, TruV X.K x H k ∧ Q k H) := by
  intro pins s σ H x v Q I rx h
  obtain ⟨k, e, q⟩ := h
  have hl := line63
  have hs : sizeLine = 16777216 := sizeLine_eq
  cases x with
  | non =>
    cases rx
    have e' : k = false := e
    subst e'
    exact truthy_none ⟨H, I, q⟩
  | bl b =>
    cases rx
    have e' : k = b := e
    subst e'
    exact wpAny_truthy_bool ⟨H, I, q⟩
  | int i =>
    obtain ⟨t, rfl⟩ := rx
    have e' : k = (i != 0) := e
    subst e'
    exact PySem.P.truthy_int ⟨H, I, q⟩
  | str y =>
    obtain ⟨t, rfl⟩ := rx
    obtain ⟨hy, e'⟩ : y.length ≤ sizeLine ∧ k = ((y.length : Int) != 0) := e
    subst e'
    exact PySem.P.truthy_str (by omega) ⟨H, I.tok _, q⟩
  | byt y =>
    obtain ⟨t, rfl⟩ := rx
    obtain ⟨hy, e'⟩ : y.size ≤ sizeLine ∧ k = ((y.size : Int) != 0) := e
    subst e'
    exact PySem.W.truthy_bytes (by omega) ⟨H, I.tok _, q⟩
  | ref p =>
    cases rx
    have e' : (∃ xs, SqL X.K H p xs ∧ k = !xs.isEmpty) ∨ (∃ xs, SqT X.K H p xs ∧ k = !xs.isEmpty) ∨ ∃ kvs, H p = some (.dK kvs) ∧ k = !kvs.isEmpty := e
    rcases e' with ⟨xs, hx, e'⟩ | ⟨xs, hx, e'⟩ | ⟨kvs, hx, e'⟩
    · subst e'
      obtain ⟨its, r, pl, hz⟩ := I.list hx
      have hlen := r.length
      exact wpAny_truthy_list pl.isList (by simp only [List.size_toArray]; omega) ⟨H, I.tok _, by rw [isEmpty_of r]; exact q⟩
    · subst e'
      obtain ⟨its, r, pl, hz⟩ := I.tuple hx
      have hlen := r.length
      exact truthy_tuple pl (by simp only [List.size_toArray]; omega) ⟨H, I.tok _, by rw [isEmpty_of r]; exact q⟩
    · subst e'
      obtain ⟨hz, hS, vs, r, m⟩ : kvs.length ≤ sizeLine ∧ (p == sysModules) = false ∧ ∃ vs, KV kvs vs ∧ s.heap.DictOf (mixKind X.prog X.w) p vs := I.hok p _ hx
      have hlen : kvs.length = vs.length := Paired.length r
      exact wpAny_truthy_dict hS m (by omega) ⟨H, I.tok _, by rw [isEmpty_kv r]; exact q⟩
  | _ => exact (show False from e).elim
/-- any expression whose test is its value's truth (a name, a call, a subscript, a field ..: he by fun _ => rfl) -/
theorem pt_truth (ha : PE X a ta) (he : ∀ whole, isTrue a X.env whole = (do let v ← whole; standAt a.pos; holding [v] (truthy v))) :
    PT X a (fun σ H Q => ta σ H fun x H' => ∃ k, TruV X.K x H' k ∧ Q k H') := by
  intro pins s σ H Q I h
  exact isTrue_plain (thn (ha pins s σ H _ I h) fun v s1 ⟨x, H1, I1, r1, q1⟩ => tru_ok pins s1 σ H1 x v Q I1 r1 q1) (he _)

/-! ### strs and bytes -/


/-! ### scalar builtins, by CallR -/
theorem vals1 {x : V} {us : List Value} (r : Vals [x] us) : ∃ u, us = [u] ∧ RelV x u := by
  cases r with
  | cons r1 r2 => cases r2; exact ⟨_, rfl, r1⟩
theorem vals2 {x y : V} {us : List Value} (r : Vals [x, y] us) : ∃ u w', us = [u, w'] ∧ RelV x u ∧ RelV y w' := by
  cases r with
  | cons r1 r2 =>
    cases r2 with
    | cons r3 r4 => cases r4; exact ⟨_, _, rfl, r1, r3⟩
theorem call_abs : CallR X (.builtin "abs") (fun xs H Q => ∃ i, xs = [.int i] ∧ Q (.int (if i < 0 then -i else i)) H) := by
  intro pins s σ H xs us Q I r h
  obtain ⟨i, rfl, q⟩ := h
  obtain ⟨u, rfl, t, rfl⟩ := vals1 r
  exact call_abs_int fun u tk => ⟨.int (if i < 0 then -i else i), H, I.tok _, ⟨_, rfl⟩, q⟩
theorem call_max2 (hc : X.calm = true) : CallR X (.builtin "max") (fun xs H Q => ∃ i j, xs = [.int i, .int j] ∧ Q (.int (if j > i then j else i)) H) := by
  intro pins s σ H xs us Q I r h
  obtain ⟨i, j, rfl, q⟩ := h
  obtain ⟨u, w', rfl, ⟨t, rfl⟩, ⟨t', rfl⟩⟩ := vals2 r
  refine max_two_ints (I.ok.hd hc) fun h' tk k => ⟨_, H, I.kept k, ?_, q⟩
  by_cases hj : j > i
  · rw [if_pos hj, if_pos hj]; exact ⟨_, rfl⟩
  · rw [if_neg hj, if_neg hj]; exact ⟨_, rfl⟩
theorem call_min2 (hc : X.calm = true) : CallR X (.builtin "min") (fun xs H Q => ∃ i j, xs = [.int i, .int j] ∧ Q (.int (if j < i then j else i)) H) := by
  intro pins s σ H xs us Q I r h
  obtain ⟨i, j, rfl, q⟩ := h
  obtain ⟨u, w', rfl, ⟨t, rfl⟩, ⟨t', rfl⟩⟩ := vals2 r
  refine min_two_ints (I.ok.hd hc) fun h' tk k => ⟨_, H, I.kept k, ?_, q⟩
  by_cases hj : j < i
  · rw [if_pos hj, if_pos hj]; exact ⟨_, rfl⟩
  · rw [if_neg hj, if_neg hj]; exact ⟨_, rfl⟩
theorem call_int1 : CallR X (.type "int") (fun xs H Q => (∃ i, xs = [.int i] ∧ Q (.int i) H) ∨ ∃ k, xs = [.bl k] ∧ Q (.int (if k then 1 else 0)) H) := by
  intro pins s σ H xs us Q I r h
  rcases h with ⟨i, rfl, q⟩ | ⟨k, rfl, q⟩
  · obtain ⟨u, rfl, t, rfl⟩ := vals1 r
    exact call_int_int ⟨.int i, H, I, ⟨_, rfl⟩, q⟩
  · obtain ⟨u, rfl, r1⟩ := vals1 r
    cases r1
    exact call_int_bool ⟨.int (if k then 1 else 0), H, I.tok _, ⟨_, rfl⟩, q⟩
/-- len of a str, a bytes, a list, a tuple -/
def LenV (K : PySem.W.Frag) (x : V) (H : Hp) (n : Nat) : Prop :=
  match x with
  | .str y => y.length ≤ sizeLine ∧ n = y.length
  | .byt y => y.size ≤ sizeLine ∧ n = y.size
  | .ref p => (∃ xs, SqL K H p xs ∧ n = xs.length) ∨ ∃ xs, SqT K H p xs ∧ n = xs.length
  | _ => False
theorem call_len : CallR X (.builtin "len") (fun xs H Q => ∃ x n, xs = [x] ∧ LenV X.K x H n ∧ Q (.int n) H) := by
  intro pins s σ H xs us Q I r h
  obtain ⟨x, n, rfl, e, q⟩ := h
  obtain ⟨u, rfl, rx⟩ := vals1 r
  have hl := line63
  have hs : sizeLine = 16777216 := sizeLine_eq
  cases x with
  | str y =>
    obtain ⟨t, rfl⟩ := rx
    obtain ⟨hy, e'⟩ : y.length ≤ sizeLine ∧ n = y.length := e
    subst e'
    exact len_str (by omega) ⟨.int _, H, I.tok _, ⟨_, rfl⟩, q⟩
  | byt y =>
    obtain ⟨t, rfl⟩ := rx
    obtain ⟨hy, e'⟩ : y.size ≤ sizeLine ∧ n = y.size := e
    subst e'
    exact PySem.W.len_bytes (by omega) ⟨.int _, H, I.tok _, ⟨_, rfl⟩, q⟩
  | ref p =>
    cases rx
    have e' : (∃ xs, SqL X.K H p xs ∧ n = xs.length) ∨ ∃ xs, SqT X.K H p xs ∧ n = xs.length := e
    rcases e' with ⟨xs, hx, e'⟩ | ⟨xs, hx, e'⟩
    · subst e'
      obtain ⟨its, r', pl, hz⟩ := I.list hx
      have hlen := r'.length
      exact Calls.call_len_list pl.isList (by simp only [List.size_toArray]; omega) ⟨.int xs.length, H, I.tok _, ⟨_, by simp only [List.size_toArray]; rw [hlen]⟩, q⟩
    · subst e'
      obtain ⟨its, r', pl, hz⟩ := I.tuple hx
      have hlen := r'.length
      exact len_tuple pl (by simp only [List.size_toArray]; omega) ⟨.int xs.length, H, I.tok _, ⟨_, by simp only [List.size_toArray]; rw [hlen]⟩, q⟩
  | _ => exact (show False from e).elim
end
end L2

namespace L2
open PySem PySem.Spec PyProof.Rows

/-! ### an instance, its attributes a map -/



section
variable {prog : Program} {w : World} {A : Around} {E : Value → Shared → Prop} {s : Shared} {K : PySem.W.Frag} {x dx C f : Addr} {mA : Str → Option Value} {name : Str} {v : Value}





end

/-! ### the attributes as a list of pairs -/

theorem RelO.some_of {v : V} {o : Option Value} (r : RelO (some v) o) : ∃ u, o = some u ∧ RelV v u := by
  cases o with
  | none => exact (show False from r).elim
  | some u => exact ⟨u, rfl, r⟩

section
variable {P : Program} {w : World} {H H' : Hp} {h h' : Heap} {a C dx : Addr} {fs fs' : List (Str × V)}
end

/-! ### what of the text a class must have -/

section
variable {X : Cx} {pins : List (Addr × Obj)} {σ : St} {H : Hp} {s : Shared} {a C dx : Addr} {fs : List (Str × V)} {f : Str} {v : V} {A : Around} {E : Value → Shared → Prop}






end

/-! ### readings and rules -/

section
variable {X : Cx} {o e value : Expr} {f : Str} {pos pos' tpos : Pos} {ta tv : TE}

end

/-! ### isinstance -/
section
variable {X : Cx} {pins : List (Addr × Obj)} {σ : St} {H : Hp} {s : Shared} {A : Around} {E : Value → Shared → Prop} {Q : Value → Shared → Prop} {c : Value} {b : Bool}
end
end L2

namespace L2
open PySem PySem.Spec PyProof.Rows

/-! ### room -/
structure Room (k : Nat) (A : Around) : Prop where
  hd : A.handled = none
  dp : A.depth + 3 * k + 5 < recursionLimit
  un : A.units + 16 * k + 200 < cLine
  gd : A.guards = some []
theorem Room.mono {j k : Nat} {A : Around} (r : Room k A) (h : j ≤ k) : Room j A := ⟨r.hd, by have := r.dp; omega, by have := r.un; omega, r.gd⟩
theorem Room.deeper {k : Nat} {A : Around} (r : Room (k + 1) A) (env : Env) : Room k (A.deeper env) :=
  ⟨r.hd, by have := r.dp; show A.depth + 1 + 3 * k + 5 < _; omega, by have := r.un; show A.units + 3 + 16 * k + 200 < _; omega, r.gd⟩
theorem Room.depth {k : Nat} {A : Around} (r : Room k A) : A.depth < recursionLimit := by have := r.dp; omega
theorem Room.units {k : Nat} {A : Around} (r : Room k A) : A.units + 64 < cLine := by have := r.un; omega

/-! ### argument lists and displays -/
def tNil : TA := fun _ H Q => Q [] H
def tCons (ta : TE) (tr : TA) : TA := fun σ H Q => ta σ H fun x H1 => tr σ H1 fun xs H2 => Q (x :: xs) H2
section
variable {X : Cx} {e : Expr} {es : List Expr} {te : TE} {t : TA} {pos : Pos}
theorem pa_nil : PA X [] tNil := fun _ _ _ _ H Q I h => Calls.spliced_nil ⟨[], H, I, .nil, h⟩
theorem pa_cons (ha : PE X e te) (hr : PA X es t) (hs : starEach (e :: es) X.env = (false, eval e X.env) :: starEach es X.env := by rfl) : PA X (e :: es) (tCons te t) := by
  intro pos pins s σ H Q I h
  rw [hs]
  show wpAny _ _ (spliced ((false, eval e X.env) :: backTo pos (starEach es X.env))) _ _ s
  refine Calls.spliced_cons (thn (ha pins s σ H _ I h) fun u s1 ⟨x, H1, I1, r1, q1⟩ => ?_)
  exact thn (hr pos pins s1 σ H1 _ I1 q1) fun us s2 ⟨xs, H2, I2, r2, q2⟩ => ⟨x :: xs, H2, I2, .cons r1 r2, q2⟩

/-- a tuple, a list of written items -/
def tTup (t : TA) : TE := fun σ H Q => t σ H fun xs H1 => xs.length ≤ sizeLine ∧ ∀ p, H1 p = none → Q (.ref p) (upd H1 p (.tup xs))
def tLst (t : TA) : TE := fun σ H Q => t σ H fun xs H1 => xs.length ≤ sizeLine ∧ ∀ p, H1 p = none → Q (.ref p) (upd H1 p (.lst xs))
theorem pe_tup {x1} (h : PA X es t) : PE X (.Tuple es x1 pos) (tTup t) := by
  intro pins s σ H Q I hq
  refine wpAny_Tuple_spliced (thn (h pos pins s σ H _ I hq) fun us s1 ⟨xs, H1, I1, r, z, q⟩ => ⟨by rw [← r.length]; exact z, ?_⟩)
  have hf : H1 s1.heap.objs.size = none := I1.hok.fresh (Nat.le_refl _)
  refine ⟨.ref s1.heap.objs.size, upd H1 s1.heap.objs.size (.tup xs), I1.laid (t' := s1.toks) (fun b u e => Heap.get?_push_of_some _ e) (Nat.le_refl _) ?_, rfl, q _ hf⟩
  exact ⟨z, us, r, ⟨_, Heap.get?_push_size _ rfl, rfl, _, rfl⟩⟩
theorem pe_lst (h : PA X es t) : PE X (.List es pos) (tLst t) := by
  intro pins s σ H Q I hq
  refine wpAny_List_spliced (thn (h pos pins s σ H _ I hq) fun us s1 ⟨xs, H1, I1, r, z, q⟩ => ⟨by rw [← r.length]; exact z, ?_⟩)
  have hf : H1 s1.heap.objs.size = none := I1.hok.fresh (Nat.le_refl _)
  refine ⟨.ref s1.heap.objs.size, upd H1 s1.heap.objs.size (.lst xs), I1.laid (t' := s1.toks) (fun b u e => Heap.get?_push_of_some _ e) (Nat.le_refl _) ?_, rfl, q _ hf⟩
  exact ⟨z, us, 0, r, Heap.get?_push_size _ rfl⟩
end

/-! ### what a def promises -/
/-- a def's promise: the bound arguments in the parameters' order, the heap, the wanted end, the wanted exception -/
abbrev Sp := List V → Hp → VK → XK → Prop
/-- how an exception lies behind a call (file 08 gives it): the callers' frames, abstract heap and state ahead of the call, the wish, the exception, the state -/
abbrev CXT := List Env → Hp → Shared → XK → Value → Shared → Prop

/-- the state at a call -/
structure Env0 (P : Program) (w : World) (K : PySem.W.Frag) (mg : Str → Option Value) (base : Heap) (A : Around) (outer : List Env) (s : Shared) (H : Hp) : Prop where
  frames : A.frames = some outer
  mod : Mod K mg base
  bs : ∀ b o, base.get? b = some o → s.heap.get? b = some o ∧ H b = none
  bsz : base.objs.size ≤ s.heap.objs.size
  funs : s.heap.FunFrames base outer
  frf : ∀ b ∈ frs outer, H b = none
  hok : HOk P w H s.heap
  bare : AllBare s.gens
/-- a call's end -/
def CE (outer : List Env) (P : Program) (w : World) (H : Hp) (s : Shared) (Q : VK) (u : Value) (s' : Shared) : Prop :=
  ∃ v H', s'.os = s.os ∧ AllBare s'.gens ∧ Un (frs outer) [] H H' s.heap s'.heap ∧ HOk P w H' s'.heap ∧ RelV v u ∧ Q v H'
def CR (CX : CXT) (outer : List Env) (P : Program) (w : World) (H : Hp) (s : Shared) (Q : VK) (E : XK) (r : Result) (s' : Shared) : Prop :=
  match r with
  | .ok (.ret u) => CE outer P w H s Q u s'
  | .ok _ => False
  | .error e => CX outer H s E e s'
structure FnOk (P : Program) (w : World) (K : PySem.W.Frag) (mg : Str → Option Value) (base : Heap) (CX : CXT) (k : Nat) (f : Addr) (fd : FuncData) (ps : List Str) (sp : Sp) : Prop where
  len : ∀ vs H Q E, sp vs H Q E → vs.length = ps.length
  run : ∀ (A : Around) (outer : List Env) (s : Shared) (H : Hp) (args : Args) (us : List Value) (vs : List V) (Q : VK) (E : XK), Room k A → Env0 P w K mg base A outer s H → BindsTo s fd args (ps.zip us) → Vals vs us → sp vs H Q E →
    codeAny (model P w) A (.call (.ref f) args) (CR CX outer P w H s Q E) s
/-- a weaker promise -/
theorem FnOk.imp {P : Program} {w : World} {K : PySem.W.Frag} {mg : Str → Option Value} {base : Heap} {CX : CXT} {k : Nat} {f : Addr} {fd : FuncData} {ps : List Str} {sp sp' : Sp} (F : FnOk P w K mg base CX k f fd ps sp)
    (h : ∀ vs H Q E, sp' vs H Q E → sp vs H Q E) : FnOk P w K mg base CX k f fd ps sp' :=
  ⟨fun vs H Q E q => F.len vs H Q E (h _ _ _ _ q), fun A outer s H args us vs Q E hr he hb hv hs => F.run A outer s H args us vs Q E hr he hb hv (h _ _ _ _ hs)⟩


section
variable {X : Cx} {pins : List (Addr × Obj)} {σ : St} {H : Hp} {s s' : Shared}
/-- from a body: what a callee wants -/
theorem Inv.env0 (I : Inv X pins σ H s) : Env0 X.prog X.w X.K X.mg X.base X.A X.stack s H :=
  ⟨I.ok.frames, I.ok.mod, I.bs, Nat.le_trans I.ok.bsz I.sz, I.stack, I.stkFree, I.hok, I.bare⟩
/-- behind a call -/
theorem Inv.after {Q : VK} {u : Value} (I : Inv X pins σ H s) (h : CE X.stack X.prog X.w H s Q u s') : EP X pins σ Q u s' := by
  obtain ⟨v, H', os, bare, un, hok, r, q⟩ := h
  obtain ⟨hh, g, d, t, os'⟩ := s'
  obtain rfl : os' = s.os := os
  exact ⟨v, H', I.call (h' := hh) (g' := g) (d' := d) (t' := t) (ch := []) un hok bare (fun b z => absurd z (by simp)), r, q⟩
end

/-! ### calls -/
/-- f(..): the written arguments, then the defaults dvs; E: what is wanted of an exception -/
def tCall (sp : Sp) (dvs : List V) (E : XK) (t : TA) : TE := fun σ H Q => t σ H fun vs H1 => sp (vs ++ dvs) H1 Q E

/-- how the parameters are bound: us the positional arguments, kw the keywords' values by name, ds the defaults that fill up -/
def Binds (K : PySem.W.Frag) (fd : FuncData) (ps : List Str) (ds : List Value) : Prop :=
  ∀ (s : Shared) (us : List Value), K.In s.heap → (us ++ ds).length = ps.length → BindsTo s fd ⟨us, []⟩ (ps.zip (us ++ ds))
/-- every parameter is given -/
theorem Binds.all {K : PySem.W.Frag} {fd : FuncData} {ps : List Str} (h : ∀ us : List Value, us.length = ps.length → bindArgs fd ⟨us, []⟩ = pure (ps.zip us)) : Binds K fd ps [] := fun s us _ hl => by
  rw [List.append_nil] at hl ⊢
  exact .of_eq (h us hl)

/-- an exception of a callee reaches what this body wants of exceptions -/
def Passes (CX : CXT) (X : Cx) (E : XK) : Prop := ∀ (pins : List (Addr × Obj)) (σ : St) (H : Hp) (s : Shared) (e : Value) (s' : Shared), Inv X pins σ H s → CX X.stack H s E e s' → X.xe e s'

section
variable {X : Cx} {CX : CXT} {k : Nat} {f C : Addr} {fd : FuncData} {ps : List Str} {sp : Sp} {dvs : List V} {ds : List Value} {E : XK} {x m : Str} {p pos apos : Pos} {e o : Expr} {es : List Expr} {ta : TE} {t : TA}

/-- the callee runs -/
theorem run_fn {pins : List (Addr × Obj)} {σ : St} {H : Hp} {s : Shared} {Q : VK} {us : List Value} {vs : List V} (F : FnOk X.prog X.w X.K X.mg X.base CX k f fd ps sp) (hr : Room k X.A) (hb : Binds X.K fd ps ds) (hd : Vals dvs ds) (hx : Passes CX X E)
    (I : Inv X pins σ H s) (r : Vals vs us) (h : sp (vs ++ dvs) H Q E) : wpAny (model X.prog X.w) X.A (call (.ref f) us) (EP X pins σ Q) X.xe s := by
  have r2 : Vals (vs ++ dvs) (us ++ ds) := r.append hd
  have hl : (us ++ ds).length = ps.length := by rw [← r2.length]; exact F.len _ _ _ _ h
  refine wpAny_call (codeAny_mono (F.run X.A X.stack s H ⟨us, []⟩ (us ++ ds) (vs ++ dvs) Q E hr I.env0 (hb s us I.kIn hl) r2 h) fun r s' hq => ?_)
  cases r with
  | error e => exact hx pins σ H s e s' I hq
  | ok fl =>
    cases fl with
    | ret u => exact I.after hq
    | next => exact False.elim hq
    | brk => exact False.elim hq
    | cont => exact False.elim hq

theorem pe_call (F : FnOk X.prog X.w X.K X.mg X.base CX k f fd ps sp) (hr : Room k X.A) (hg : Gl X x) (hm : X.mg x = some (.ref f)) (hk : PySem.W.keepIn X.K (.ref f) = true) (hb : Binds X.K fd ps ds) (hd : Vals dvs ds) (hx : Passes CX X E)
    (ha : PA X (e :: es) t) (hdb : (x == ("__debug__" : Str)) = false := by decide) (he : starEach (e :: es) X.env = (false, eval e X.env) :: starEach es X.env := by rfl) (hpl : (backTo pos (starEach es X.env)).any (·.1) = false := by rfl) :
    PE X (.Call (.Name x p) (e :: es) [] pos) (tCall sp dvs E t) := by
  intro pins s σ H Q I h
  refine wpAny_Call_Name_kw (ld_glob I hg hm ?_ hdb)
  refine PySem.W.callWith_K (h₀ := X.base) I.ok.mod.kin hk (thn (ha pos pins s σ H _ I h) fun us s1 ⟨vs, H1, I1, r, q⟩ => ⟨I1.kIn, ?_⟩) he hpl
  exact run_fn F hr hb hd hx I1 r q



end

/-! ### keywords -/
section
variable {X : Cx} {CX : CXT} {k : Nat} {f C : Addr} {fd : FuncData} {ps ks : List Str} {sp : Sp} {E : XK} {x m : Str} {p pos apos kpos : Pos} {e o : Expr} {es : List Expr} {kws : List Keyword} {te ta : TE} {t tk : TA} {nm : Option Str}

variable {g : List Value → List Value → List Value} {gV : List V → List V → List V}
end

/-! ### a def's body keeps its promise -/
/-- names: the parameters first -/
structure FnScope (N P : List Str) (sc : Scope) : Prop where
  kind : sc.kind = .function
  co : sc.isCoroutine = false
  gen : sc.isGenerator = false
  nd : N.Nodup
  pre : N.take P.length = P
  par : ∀ x ∈ P, sc.names.lookup x = some .local ∨ sc.names.lookup x = some .cell
  nofree : ∀ y ∈ sc.names, y.2 ≠ .free

theorem bindL_out {kindOf : Str → Option NameKind} {x : Str} : ∀ {binds : List (Str × Value)} {m : Str → Option Value}, (∀ v, (x, v) ∉ binds) → bindL kindOf binds m x = m x
  | [], _, _ => rfl
  | (n, v) :: r, m, h => by
    unfold bindL
    rw [bindL_out fun w hw => h w (List.mem_cons_of_mem _ hw)]
    split
    · have : x ≠ n := by rintro rfl; exact h v List.mem_cons_self
      simp [this]
    · rfl
theorem bindC_out {kindOf : Str → Option NameKind} {x : Str} : ∀ {binds : List (Str × Value)} {m : Str → Option Value}, (∀ v, (x, v) ∉ binds) → bindC kindOf binds m x = m x
  | [], _, _ => rfl
  | (n, v) :: r, m, h => by
    unfold bindC
    rw [bindC_out fun w hw => h w (List.mem_cons_of_mem _ hw)]
    split
    · rfl
    · have : x ≠ n := by rintro rfl; exact h v List.mem_cons_self
      simp [this]
theorem bindL_get {kindOf : Str → Option NameKind} {x : Str} {v : Value} : ∀ {P : List Str} {vs : List Value} {i : Nat} {m : Str → Option Value}, P.Nodup → P[i]? = some x → vs[i]? = some v → kindOf x = some .local →
    bindL kindOf (P.zip vs) m x = some v
  | [], _, _, _, _, h, _, _ => by simp at h
  | _ :: _, [], _, _, _, _, h, _ => by simp at h
  | p :: P, w :: vs, 0, m, nd, h1, h2, hk => by
    simp at h1 h2; subst h1; subst h2
    show bindL kindOf ((p, w) :: P.zip vs) m p = _
    unfold bindL
    rw [bindL_out fun v hv => (List.nodup_cons.mp nd).1 (List.of_mem_zip hv).1, if_pos hk]
    simp
  | p :: P, w :: vs, i + 1, m, nd, h1, h2, hk => by
    show bindL kindOf ((p, w) :: P.zip vs) m x = _
    unfold bindL
    exact bindL_get (i := i) (List.nodup_cons.mp nd).2 (by simpa using h1) (by simpa using h2) hk
theorem bindC_get {kindOf : Str → Option NameKind} {x : Str} {v : Value} : ∀ {P : List Str} {vs : List Value} {i : Nat} {m : Str → Option Value}, P.Nodup → P[i]? = some x → vs[i]? = some v → kindOf x ≠ some .local →
    bindC kindOf (P.zip vs) m x = some v
  | [], _, _, _, _, h, _, _ => by simp at h
  | _ :: _, [], _, _, _, _, h, _ => by simp at h
  | p :: P, w :: vs, 0, m, nd, h1, h2, hk => by
    simp at h1 h2; subst h1; subst h2
    show bindC kindOf ((p, w) :: P.zip vs) m p = _
    unfold bindC
    rw [bindC_out fun v hv => (List.nodup_cons.mp nd).1 (List.of_mem_zip hv).1, if_neg hk]
    simp
  | p :: P, w :: vs, i + 1, m, nd, h1, h2, hk => by
    show bindC kindOf ((p, w) :: P.zip vs) m x = _
    unfold bindC
    exact bindC_get (i := i) (List.nodup_cons.mp nd).2 (by simpa using h1) (by simpa using h2) hk

/-- the names' values at the entry -/
def start (N : List Str) (vs : List V) : St := vs.map some ++ List.replicate (N.length - vs.length) none

/-- the context of a def's body, at its entry; an exception leaves the frame, then lies as CX says -/
def cxOf (CX : CXT) (P : Program) (w : World) (K : PySem.W.Frag) (mg : Str → Option Value) (base : Heap) (N : List Str) (qual : Str) (scope : Scope) (f : Addr) (cd : Value) (A : Around) (outer : List Env) (s : Shared) (H : Hp) (E : XK) : Cx where
  prog := P
  w := w
  K := K
  mg := mg
  base := base
  A := A.deeper (envOfC qual scope s.heap.objs.size f cd)
  N := N
  s₀ := s
  H₀ := H
  env := envOfC qual scope s.heap.objs.size f cd
  outer := outer
  stack := envOfC qual scope s.heap.objs.size f cd :: outer
  ex := []
  calm := true
  fn := fun _ => true
  pn := []
  xe := fun e s' => wpAny (model P w) (A.deeper (envOfC qual scope s.heap.objs.size f cd)) (leaving (envOfC qual scope s.heap.objs.size f cd) e) (fun _ s'' => CX outer H s E e s'') (fun e' s'' => CX outer H s E e' s'') s'

theorem cell_has {sc : Scope} {n : Nat} {x : Str} (h : sc.names.lookup x = some .cell) : ∃ c, (cellsFrom n sc.names []).lookup x = some c := by
  have q := PySem.W.cellsFrom_some sc.names n [] (.inl h)
  exact Option.isSome_iff_exists.mp q

theorem inv_start {CX : CXT} {P : Program} {w : World} {K : PySem.W.Frag} {mg : Str → Option Value} {base : Heap} {N ps : List Str} {qual : Str} {scope : Scope} {f : Addr} {cd : Value} {A : Around} {outer : List Env} {s s1 : Shared} {H : Hp} {E : XK} {us : List Value} {vs : List V}
    (S : FnScope N ps scope) (hd : A.handled = none) (e0 : Env0 P w K mg base A outer s H) (hl : vs.length = ps.length) (r : Vals vs us)
    (x : InCallC s s.heap.objs.size (bindL (envOfC qual scope s.heap.objs.size f cd).kindOf (ps.zip us) fun _ => none) (cellsFrom (s.heap.objs.size + 1) scope.names []) (bindC (envOfC qual scope s.heap.objs.size f cd).kindOf (ps.zip us) fun _ => none) s1) :
    Inv (cxOf CX P w K mg base N qual scope f cd A outer s H E) [] (start N vs) H s1 := by
  have hpl : ps.length ≤ N.length := by have := congrArg List.length S.pre; rw [List.length_take] at this; omega
  obtain ⟨h1, tk, rfl, hk⟩ := x.done
  have noA : ∀ b : Addr, b ∉ (cxOf CX P w K mg base N qual scope f cd A outer s H E).ex := fun b z => absurd (show b ∈ ([] : List Addr) from z) (by simp)
  refine ⟨⟨e0.mod, S.kind, rfl, rfl, Nat.le_refl _, fun y z c h1 h2 => ?_, fun y hy => ?_, fun y c _ h => ?_, fun _ => hd, Around.frames_deeper e0.frames, .inr ⟨rfl, rfl⟩, fun b z => absurd z (noA b), e0.bs, e0.bsz, fun b _ _ => noA b, fun b z => absurd z (noA b), e0.funs, e0.frf⟩,
    rfl, e0.bare, Un.kept hk, ⟨_, x.toInCall.ns, fun i y v h1 h2 h3 => ?_⟩, fun y c h => ⟨_, x.cell y c h⟩, e0.hok.fresh (Nat.le_refl _), fun y c h => ?_, fun p hp => absurd (show p ∈ ([] : List (Addr × Obj)) from hp) (by simp), e0.hok.kept hk, ?_⟩
  · exact name_of_addr x.apart (PySem.mem_of_lookup h1) (PySem.mem_of_lookup h2)
  · have hy : scope.names.lookup y = some .cell ∨ scope.names.lookup y = some .free := hy
    rcases hy with hy | hy
    · exact cell_has hy
    · exact absurd rfl (S.nofree _ (PySem.mem_of_lookup hy))
  · exact Nat.le_of_lt (x.above y c (PySem.mem_of_lookup h))
  · have hi : i < vs.length := by
      unfold start at h2
      by_cases hi : i < vs.length
      · exact hi
      · rw [List.getElem?_append_right (by simpa using hi)] at h2
        rw [List.getElem?_replicate] at h2
        split at h2 <;> cases h2
    have ha : vs[i]? = some v := by
      unfold start at h2
      rw [List.getElem?_append_left (by simpa using hi), List.getElem?_map] at h2
      cases e : vs[i]? with
      | none => rw [e] at h2; cases h2
      | some a => rw [e] at h2; cases h2; rfl
    obtain ⟨u, hu, rv⟩ := r.get ha
    have hp : ps[i]? = some y := by
      rw [← S.pre, List.getElem?_take_of_lt (by omega)]; exact h1
    have ndP : ps.Nodup := by rw [← S.pre]; exact S.nd.sublist (List.take_sublist _ _)
    refine ⟨u, rv, ?_⟩
    rcases S.par y (List.mem_of_getElem? hp) with k | k
    · exact .inl ⟨k, bindL_get ndP hp hu k⟩
    · obtain ⟨c, e⟩ := cell_has (n := s.heap.objs.size + 1) k
      refine .inr ⟨.inl k, c, e, ?_⟩
      have q := x.cell y c e
      rw [bindC_get ndP hp hu (by show scope.names.lookup y ≠ _; rw [k]; decide)] at q
      exact q
  · exact e0.hok.fresh (Nat.le_of_lt (x.above y c (PySem.mem_of_lookup h)))
  · unfold start
    show _ = N.length
    rw [List.length_append, List.length_map, List.length_replicate]
    omega

/-- THE RULE: a def (or a method) of the text, by its body. The body's reading t is chosen for each entry; it is run at the parameters' values -/
theorem fn_of {CX : CXT} {P : Program} {w : World} {K : PySem.W.Frag} {mg : Str → Option Value} {base : Heap} {k : Nat} {f : Addr} {name qual : Str} {params : Arguments} {body : List Stmt} {scope : Scope} {dV kV doc pm cdv ct oc : Value} {an od : Option Addr}
    {osl : Array (Option Value)} {N ps : List Str} {sp : Sp} (lk : K.lookup f = some ⟨oc, od, .func (PySem.W.fnOf name qual params body scope dV kV doc pm an cdv ct), osl⟩) (hcd : PySem.W.codeIn K cdv qual = true) (S : FnScope N ps scope)
    (len : ∀ vs H Q E, sp vs H Q E → vs.length = ps.length)
    (hbody : ∀ (A : Around) (outer : List Env) (s : Shared) (H : Hp) (vs : List V) (Q : VK) (E : XK), Room k (A.deeper (envOfC qual scope s.heap.objs.size f cdv)) → sp vs H Q E →
      ∃ t, PSs (cxOf CX P w K mg base N qual scope f cdv A outer s H E) body t ∧ t { nx := fun _ H' => Q .non H', rt := Q } (start N vs) H) :
    FnOk P w K mg base CX (k + 1) f (PySem.W.fnOf name qual params body scope dV kV doc pm an cdv ct) ps sp := by
  refine ⟨len, fun A outer s H args us vs Q E hr e0 hb r hsp => ?_⟩
  have hl := len _ _ _ _ hsp
  have KX : K.In s.heap := e0.mod.kin.keeps fun b o e => (e0.bs b o e).1
  have lim : s.heap.NoLimit := e0.mod.nolimit.keeps fun b o e => (e0.bs b o e).1
  have hkind : ∀ y ∈ ps.zip us, scope.names.lookup y.1 = some .local ∨ (scope.names.lookup y.1 = some .cell ∧ ((cellsFrom (s.heap.objs.size + 1) scope.names []).lookup y.1).isSome = true) := fun ⟨n, v⟩ hy => by
    rcases S.par n (List.of_mem_zip hy).1 with q | q
    · exact .inl q
    · exact .inr ⟨q, PySem.W.cellsFrom_some _ _ _ (.inl q)⟩
  refine codeAny_call_function hr.depth (KX _ _ lk) rfl S.co S.gen rfl (PySem.W.codeRec_of KX hcd) (hb _ _ _ _ ?_)
  refine wpAny_newFunctionEnv_cells S.kind hkind fun env he s1 x => ?_
  subst he
  refine ⟨lim.keeps x.toInCall.keep, codeAny_func ?_⟩
  obtain ⟨t, ht, hq⟩ := hbody A outer s H vs Q E (hr.deeper _) hsp
  have I : Inv (cxOf CX P w K mg base N qual scope f cdv A outer s H E) [] (start N vs) H s1 := inv_start S hr.hd e0 hl r x
  refine wpAny_mono (ht [] s1 (start N vs) H _ I hq) (fun fl s' hs => ?_) fun e s' hs => hs
  have fin : ∀ {σ' : St} {H' : Hp} {v : V} {u : Value}, Inv (cxOf CX P w K mg base N qual scope f cdv A outer s H E) [] σ' H' s' → RelV v u → Q v H' → CE outer P w H s Q u s' :=
    fun {σ' H' v u} J rv q => ⟨v, H', J.os, J.bare, J.base, J.hok, rv, q⟩
  cases fl with
  | ret u =>
    obtain ⟨v, σ', H', J, rv, q⟩ := hs
    exact fin J rv q
  | next =>
    obtain ⟨σ', H', J, q⟩ := hs
    exact fin (v := V.non) (u := Value.none) J rfl q
  | brk =>
    obtain ⟨_, _, _, q⟩ := hs
    exact False.elim q
  | cont =>
    obtain ⟨_, _, _, q⟩ := hs
    exact False.elim q
end L2

namespace L2
open PySem PySem.Spec PyProof.Rows
section
variable {X : Cx} {x : Str} {p pos : Pos} {e : Expr} {es : List Expr} {t : TA} {id T : String} {r : List V → Hp → VK → Prop}

def tCB (r : List V → Hp → VK → Prop) (t : TA) : TE := fun σ H Q => t σ H fun vs H1 => r vs H1 Q
/-- f(e, ..), f a built-in function -/
theorem pe_callB (hc : CallR X (.builtin id) r) (hg : Gl X x) (hm : X.mg x = none) (hv : bootBuiltins x = some (.builtin id)) (ha : PA X (e :: es) t) (hn : x ≠ "__name__" := by decide) (hdb : (x == ("__debug__" : Str)) = false := by decide)
    (he : starEach (e :: es) X.env = (false, eval e X.env) :: starEach es X.env := by rfl) (hpl : (backTo pos (starEach es X.env)).any (·.1) = false := by rfl) : PE X (.Call (.Name x p) (e :: es) [] pos) (tCB r t) := by
  intro pins s σ H Q I h
  refine wpAny_Call_Name_kw (ld_blt I hg hm hv ?_ hn hdb)
  exact PyProof.Rows.callWith_builtin1 (thn (ha pos pins s σ H _ I h) fun us s1 ⟨vs, H1, I1, r1, q1⟩ => hc pins s1 σ H1 vs us Q I1 r1 q1) he hpl
/-- T(e, ..), T a built-in type -/
theorem pe_callTy (hc : CallR X (.type T) r) (hg : Gl X x) (hm : X.mg x = none) (hv : bootBuiltins x = some (.type T)) (ha : PA X (e :: es) t) (hn : x ≠ "__name__" := by decide) (hdb : (x == ("__debug__" : Str)) = false := by decide)
    (he : starEach (e :: es) X.env = (false, eval e X.env) :: starEach es X.env := by rfl) (hpl : (backTo pos (starEach es X.env)).any (·.1) = false := by rfl) : PE X (.Call (.Name x p) (e :: es) [] pos) (tCB r t) := by
  intro pins s σ H Q I h
  refine wpAny_Call_Name_kw (ld_blt I hg hm hv ?_ hn hdb)
  exact PyProof.Rows.callWith_type1 (thn (ha pos pins s σ H _ I h) fun us s1 ⟨vs, H1, I1, r1, q1⟩ => hc pins s1 σ H1 vs us Q I1 r1 q1) he hpl
end
end L2

namespace HT
open PySem PyProof.Rows



section
open PySem.SeqAt
open PySem.AutoSeq1 (wpAny_loadPart')
open PySem.MeetsSeq PySem.MeetsSeq2 PySem.MeetsSeq3

end

section
variable {prog : Program} {w : World} {A : Around} {E : Value → Shared → Prop} {s : Shared}



/-! ### t[a:b], not the whole -/

end
end HT

namespace L2
open PySem PySem.Spec PyProof.Rows

/-! ### the parts of a slice -/


section
variable {X : Cx} {e : Expr} {te : TE} {lo hi : Option Expr} {tl th : TO} {pos p2 : Pos}




/-! ### t < u, t + u -/
end
end L2

namespace L2
open PySem PySem.Spec PyProof.Rows

/-! ### places -/
/-- the place that an index of any sign means -/
def ixN (n : Nat) (i : Int) : Option Nat := if 0 ≤ i then (if i < n then some i.toNat else none) else if -(n : Int) ≤ i then some (i + n).toNat else none
def atI {α : Type} (xs : List α) (i : Int) : Option α := (ixN xs.length i).bind fun j => xs[j]?
theorem ixN_seq {n : Nat} {i : Int} {j : Nat} (h : ixN n i = some j) : seqIndex? i n = some j ∧ j < n ∧ -(n : Int) ≤ i ∧ i < n := by
  unfold ixN at h
  by_cases h0 : 0 ≤ i
  · rw [if_pos h0] at h
    by_cases h1 : i < n
    · rw [if_pos h1] at h
      have e : i.toNat = j := Option.some.inj h
      exact ⟨by rw [seqIndex_of h0 h1, e], by omega, by omega, h1⟩
    · rw [if_neg h1] at h; cases h
  · rw [if_neg h0] at h
    by_cases h1 : -(n : Int) ≤ i
    · rw [if_pos h1] at h
      have e : (i + n).toNat = j := Option.some.inj h
      exact ⟨by rw [seqIndex_neg (by omega) h1, e], by omega, h1, by omega⟩
    · rw [if_neg h1] at h; cases h
theorem atI_get {α : Type} {xs : List α} {i : Int} {v : α} (h : atI xs i = some v) : ∃ j, seqIndex? i xs.length = some j ∧ xs[j]? = some v ∧ j < xs.length ∧ -(xs.length : Int) ≤ i ∧ i < xs.length := by
  unfold atI at h
  cases e : ixN xs.length i with
  | none => rw [e] at h; cases h
  | some j =>
    rw [e] at h
    obtain ⟨h1, h2, h3, h4⟩ := ixN_seq e
    exact ⟨j, h1, h, h2, h3, h4⟩
theorem atI_nat {α : Type} {xs : List α} {j : Nat} {v : α} (h : xs[j]? = some v) : atI xs (j : Int) = some v := by
  have hj : j < xs.length := (List.getElem?_eq_some_iff.mp h).1
  have e : ixN xs.length (j : Int) = some j := by
    unfold ixN
    rw [if_pos (by omega), if_pos (by omega)]; simp
  unfold atI; rw [e]; exact h
theorem atI_last {α : Type} (xs : List α) (v : α) : atI (xs ++ [v]) (-1) = some v := by
  have hl : (xs ++ [v]).length = xs.length + 1 := by simp
  have e : ixN (xs ++ [v]).length (-1) = some xs.length := by
    unfold ixN
    rw [hl, if_neg (by decide), if_pos (by omega)]
    congr 1
    omega
  unfold atI
  rw [e]
  show (xs ++ [v])[xs.length]? = some v
  simp

/-! ### what may be subscripted -/
/-- what stands as an index of a plain subscript -/
def PlainIx (b : Expr) : Prop := ∀ o i, subscripted b false o i = operate [o, i] (getItem o i)
/-- a subscript by values -/
def IxR (X : Cx) (r : R2) : Prop :=
  ∀ (value slice : Expr) (pins : List (Addr × Obj)) (s : Shared) (σ : St) (H : Hp) (x y : V) (v u : Value) (Q : VK), Inv X pins σ H s → RelV x v → RelV y u → r x y H Q →
    subscripted slice false v u = operate [v, u] (getItem v u) → wpAny (model X.prog X.w) X.A (subscriptTail value slice v u) (EP X pins σ Q) X.xe s
/-- a call of a builtin's method by values: the receiver, the arguments -/
def MtR (X : Cx) (id : String) (r : V → List V → Hp → VK → Prop) : Prop :=
  ∀ (pins : List (Addr × Obj)) (s : Shared) (σ : St) (H : Hp) (x : V) (xs : List V) (v : Value) (us : List Value) (Q : VK), Inv X pins σ H s → RelV x v → Vals xs us → r x xs H Q →
    wpAny (model X.prog X.w) X.A (call (.builtin id) (v :: us)) (EP X pins σ Q) X.xe s
section
variable {X : Cx} {a b : Expr} {ta tb : TE} {pos : Pos}
theorem IxR.or {r r' : R2} (h : IxR X r) (h' : IxR X r') : IxR X (fun x y H Q => r x y H Q ∨ r' x y H Q) := by
  intro value slice pins s σ H x y v u Q I rx ry q hs
  rcases q with q | q
  · exact h value slice pins s σ H x y v u Q I rx ry q hs
  · exact h' value slice pins s σ H x y v u Q I rx ry q hs
/-- a[b] -/
theorem pe_ix {r : R2} (hr : IxR X r) (ha : PE X a ta) (hb : PE X b tb) (hs : PlainIx b) : PE X (.Subscript a b pos) (tOp r ta tb) := by
  intro pins s σ H Q I h
  exact Subscript_ (binT ha hb I h fun v u s2 x y H2 I2 rx ry q => hr a b pins s2 σ H2 x y v u Q I2 rx ry q (hs _ _))

def rIxL (K : PySem.W.Frag) : R2 := fun x y H Q => ∃ p xs i v, x = .ref p ∧ y = .int i ∧ SqL K H p xs ∧ atI xs i = some v ∧ Q v H
def rIxT (K : PySem.W.Frag) : R2 := fun x y H Q => ∃ p xs i v, x = .ref p ∧ y = .int i ∧ SqT K H p xs ∧ atI xs i = some v ∧ Q v H
def rIxS : R2 := fun x y H Q => ∃ z i c, x = .str z ∧ y = .int i ∧ z.length ≤ sizeLine ∧ atI z.cps.toList i = some c ∧ Q (.str ⟨#[c]⟩) H
theorem ix_list : IxR X (rIxL X.K) := by
  intro value slice pins s σ H x y v u Q I rx ry h hs
  obtain ⟨p, xs, i, z, rfl, rfl, hq, he, q⟩ := h
  cases rx
  obtain ⟨t, rfl⟩ := ry
  obtain ⟨its, r, pl, hz⟩ := I.list hq
  obtain ⟨j, h1, h2, h3, h4, h5⟩ := atI_get he
  obtain ⟨w, ew, rw'⟩ := r.get h2
  have hl := r.length
  have hn := line63
  have fin : EP X pins σ Q w s := ⟨z, H, I, rw', q⟩
  by_cases h0 : 0 ≤ i
  · have hj : i.toNat = j := by
      rw [seqIndex_of h0 h5] at h1
      exact Option.some.inj h1
    exact item_listR pl.isList h0 (by omega) (by rw [hj]; simpa using ew) fin hs
  · have hj : (i + (its.toArray.size : Int)).toNat = j := by
      rw [seqIndex_neg (by omega) h4] at h1
      rw [List.size_toArray, ← hl]
      exact Option.some.inj h1
    exact subscriptTail_builtinR (x := w) pl.isList.typeIs slot_list_getitem.lookup
      (wpAny_getItem_list_neg (Q := fun r s' => r = w ∧ EP X pins σ Q r s') pl.isList (by omega) (by rw [List.size_toArray] <;> omega) (by omega) (by rw [hj]; simpa using ew) ⟨rfl, fin⟩) hs
theorem ix_tup : IxR X (rIxT X.K) := by
  intro value slice pins s σ H x y v u Q I rx ry h hs
  obtain ⟨p, xs, i, z, rfl, rfl, hq, he, q⟩ := h
  cases rx
  obtain ⟨t, rfl⟩ := ry
  obtain ⟨its, r, pl, hz⟩ := I.tuple hq
  obtain ⟨j, h1, h2, h3, h4, h5⟩ := atI_get he
  obtain ⟨w, ew, rw'⟩ := r.get h2
  have hl := r.length
  have hn := line63
  have fin : EP X pins σ Q w s := ⟨z, H, I, rw', q⟩
  exact subscriptTail_builtinR (x := w) pl.typeIs slot_tuple_getitem.lookup
    (getItem_tuple (j := j) (Q := fun r s' => r = w ∧ EP X pins σ Q r s') pl (by omega) (by omega) (by rw [List.size_toArray, ← hl]; exact h1) (by simpa using ew) ⟨rfl, fin⟩) hs
theorem ix_str : IxR X rIxS := by
  intro value slice pins s σ H x y v u Q I rx ry h hs
  obtain ⟨z, i, c, rfl, rfl, hz, he, q⟩ := h
  obtain ⟨t, rfl⟩ := rx
  obtain ⟨t', rfl⟩ := ry
  obtain ⟨j, h1, h2, h3, h4, h5⟩ := atI_get he
  have hl : z.cps.toList.length = z.length := by simp [Str.length]
  rw [hl] at h1 h4 h5
  have hn := line63
  exact tail_any (typeIs_str s z t) slot_str_getitem.lookup (getItem_str (c := c) (by
    have e1 : decide (i < -(2 ^ 63 : Int)) = false := decide_eq_false (by omega)
    have e2 : decide (i ≥ 2 ^ 63) = false := decide_eq_false (by omega)
    rw [e1, e2, Bool.or_false]) (by rw [h1]; simpa using h2) ⟨.str ⟨#[c]⟩, H, I.tok _, ⟨_, rfl⟩, q⟩) hs
/-- list, tuple or str -/
def rIx (K : PySem.W.Frag) : R2 := fun x y H Q => rIxL K x y H Q ∨ rIxT K x y H Q ∨ rIxS x y H Q
theorem ix_seq : IxR X (rIx X.K) := ix_list.or (ix_tup.or ix_str)

/-! ### xs[i] = v, any sign -/
/-- the list's object behind a store -/
theorem mapSeq_set (its : List Value) (n j : Nat) (u : Value) : Obj.mapSeq (·.setIfInBounds j u) { cls := .type "list", data := .seq its.toArray n } = { cls := .type "list", data := .seq (its.set j u).toArray n } := by
  simp [Obj.mapSeq]
theorem Inv.lst {pins : List (Addr × Obj)} {σ : St} {H : Hp} {s : Shared} {p : Addr} {xs : List V} (I : Inv X pins σ H s) (h : H p = some (.lst xs)) :
    ∃ (its : List Value) (n : Nat), Vals xs its ∧ s.heap.get? p = some { cls := .type "list", data := .seq its.toArray n } ∧ xs.length ≤ sizeLine := by
  obtain ⟨z, its, n, r, e⟩ := I.hok p _ h
  exact ⟨its, n, r, e, z⟩
/-- the list at p is written by an update of its object -/
theorem Inv.lstUpd {pins : List (Addr × Obj)} {σ : St} {H : Hp} {s : Shared} {p : Addr} {xs ys : List V} {its its' : List Value} {n n' : Nat} {f : Obj → Obj} (I : Inv X pins σ H s) (h : H p = some (.lst xs))
    (ho : s.heap.get? p = some { cls := .type "list", data := .seq its.toArray n }) (hf : f { cls := .type "list", data := .seq its.toArray n } = { cls := .type "list", data := .seq its'.toArray n' }) (r : Vals ys its') (hz : ys.length ≤ sizeLine) (t : Nat) :
    Inv X pins σ (upd H p (.lst ys)) { s with heap := s.heap.update p f, toks := t } := by
  have e : (s.heap.update p f).get? p = some { cls := .type "list", data := .seq its'.toArray n' } := by
    rw [Heap.get?_update_self f ho (by rw [hf] <;> rfl), hf]
  refine I.write (x := p) (e := p) (by rw [h]; trivial) (.inl rfl) (fun b u hb q => (Heap.get?_update_other _ _ (Ne.symm hb)).trans q) ⟨_, e⟩ ?_
  exact ⟨hz, its', n', r, e⟩
def rSetL : V → V → V → Hp → (Hp → Prop) → Prop := fun o i v H Q => ∃ p xs k j, o = .ref p ∧ i = .int k ∧ H p = some (.lst xs) ∧ ixN xs.length k = some j ∧ Q (upd H p (.lst (xs.set j v)))
theorem set_list : PSet X rSetL := by
  intro pins s σ H o i v ov iv u Q I ro ri rv h
  obtain ⟨p, xs, k, j, rfl, rfl, hp, hj, q⟩ := h
  cases ro
  obtain ⟨t, rfl⟩ := ri
  obtain ⟨its, n, r, ho, hz⟩ := I.lst hp
  obtain ⟨h1, h2, h3, h4⟩ := ixN_seq hj
  have hl := r.length
  have hn := line63
  have I' : Inv X pins σ (upd H p (.lst (xs.set j v))) { s with heap := s.heap.update p (Obj.mapSeq (·.setIfInBounds j u)) } :=
    I.lstUpd hp ho (mapSeq_set its n j u) (r.set rv j) (by rw [List.length_set]; exact hz) s.toks
  by_cases h0 : 0 ≤ k
  · have hk : k.toNat = j := by
      rw [seqIndex_of h0 h4] at h1
      exact Option.some.inj h1
    exact PySem.W.ki_setAt ho h0 (by omega) (by rw [List.size_toArray, ← hl]; exact h4) (by rw [hk]; exact ⟨_, I', q⟩)
  · have hk : (k + (its.toArray.size : Int)).toNat = j := by
      rw [seqIndex_neg (by omega) h3] at h1
      rw [List.size_toArray, ← hl]
      exact Option.some.inj h1
    exact PySem.W.ki_setBack ho (by omega) (by rw [List.size_toArray, ← hl]; exact h3) (by omega) (by rw [hk]; exact ⟨_, I', q⟩)

/-! ### slices -/

/-! ### in, not in: flat items -/
def flatV : V → Bool
  | .non => true
  | .bl _ => true
  | .int _ => true
  | .str _ => true
  | _ => false
/-- == of flat values -/
def eqV : V → V → Bool
  | .non, .non => true
  | .bl a, .bl b => a == b
  | .bl a, .int b => (if a then 1 else 0) == b
  | .int a, .bl b => a == (if b then 1 else 0)
  | .int a, .int b => a == b
  | .str a, .str b => a == b
  | _, _ => false
theorem eqAt_V {A : Around} {s : Shared} {y x : V} {u v : Value} (ry : RelV y u) (rx : RelV x v) (fy : flatV y = true) (fx : flatV x = true) : SeqAt.EqAt A s u v (eqV y x) := by
  cases y with
  | non =>
    cases ry
    cases x with
    | non => cases rx; exact SeqAt.EqAt.same _
    | bl b => cases rx; exact SeqAt.EqAt.none_bool b
    | int b => obtain ⟨t, rfl⟩ := rx; exact SeqAt.EqAt.none_int b t
    | str b => obtain ⟨t, rfl⟩ := rx; exact SeqAt.EqAt.none_str b t
    | _ => exact absurd (show false = true from fx) Bool.false_ne_true
  | bl a =>
    cases ry
    cases x with
    | non => cases rx; exact SeqAt.EqAt.bool_none a
    | bl b => cases rx; exact SeqAt.EqAt.bool_bool a b
    | int b => obtain ⟨t, rfl⟩ := rx; exact SeqAt.EqAt.bool_int a b t
    | str b => obtain ⟨t, rfl⟩ := rx; exact SeqAt.EqAt.bool_str a b t
    | _ => exact absurd (show false = true from fx) Bool.false_ne_true
  | int a =>
    obtain ⟨t', rfl⟩ := ry
    cases x with
    | non => cases rx; exact SeqAt.EqAt.int_none a t'
    | bl b => cases rx; exact SeqAt.EqAt.int_bool a t' b
    | int b => obtain ⟨t, rfl⟩ := rx; exact SeqAt.EqAt.int_int a t' b t
    | str b => obtain ⟨t, rfl⟩ := rx; exact SeqAt.EqAt.int_str a t' b t
    | _ => exact absurd (show false = true from fx) Bool.false_ne_true
  | str a =>
    obtain ⟨t', rfl⟩ := ry
    cases x with
    | non => cases rx; exact SeqAt.EqAt.str_none a t'
    | bl b => cases rx; exact SeqAt.EqAt.str_bool a t' b
    | int b => obtain ⟨t, rfl⟩ := rx; exact SeqAt.EqAt.str_int a t' b t
    | str b => obtain ⟨t, rfl⟩ := rx; exact SeqAt.EqAt.str_str a t' b t
    | _ => exact absurd (show false = true from fx) Bool.false_ne_true
  | _ => exact absurd (show false = true from fy) Bool.false_ne_true
/-- the items' answers, read off the values (a value's own answer does not lean on its token) -/
def eqU (x : V) (u : Value) : Bool := match u with
  | .none => eqV .non x
  | .bool b => eqV (.bl b) x
  | .int i _ => eqV (.int i) x
  | .str z _ => eqV (.str z) x
  | _ => false
theorem eqU_of {x y : V} {u : Value} (r : RelV y u) (f : flatV y = true) : eqU x u = eqV y x := by
  cases y with
  | non => cases r; rfl
  | bl b => cases r; rfl
  | int i => obtain ⟨t, rfl⟩ := r; rfl
  | str z => obtain ⟨t, rfl⟩ := r; rfl
  | _ => exact absurd (show false = true from f) Bool.false_ne_true
theorem any_eqU {x : V} : ∀ {xs : List V} {us : List Value}, Vals xs us → xs.all flatV = true → us.any (eqU x) = xs.any fun y => eqV y x
  | _, _, .nil, _ => rfl
  | y :: xs, u :: us, .cons r t, f => by
    rw [List.all_cons, Bool.and_eq_true] at f
    rw [List.any_cons, List.any_cons, eqU_of r f.1, any_eqU t f.2]
theorem mem_eqAt {A : Around} {s : Shared} {x : V} {v : Value} (rx : RelV x v) (fx : flatV x = true) : ∀ {xs : List V} {us : List Value}, Vals xs us → xs.all flatV = true → ∀ u ∈ us, SeqAt.EqAt A s u v (eqU x u)
  | _, _, .nil, _ => fun u hu => by cases hu
  | y :: xs, u :: us, .cons r t, f => fun u' hu => by
    rw [List.all_cons, Bool.and_eq_true] at f
    rcases List.mem_cons.mp hu with rfl | hu
    · rw [eqU_of r f.1]; exact eqAt_V r rx f.1 fx
    · exact mem_eqAt rx fx t f.2 u' hu
def inV (x : V) (xs : List V) : Bool := xs.any fun y => eqV y x
/-- x in a list or tuple of flat items -/
def rIn (K : PySem.W.Frag) (neg : Bool) : R2 := fun x y H Q => ∃ p xs, y = .ref p ∧ (SqL K H p xs ∨ SqT K H p xs) ∧ flatV x = true ∧ xs.all flatV = true ∧ Q (.bl (if neg then !inV x xs else inV x xs)) H
theorem op_in_seq : OpR X (compareOp .In) (rIn X.K false) := by
  intro pins s σ H x y v u Q I rx ry h
  obtain ⟨p, xs, rfl, hq, fx, fs, q⟩ := h
  cases ry
  rcases hq with hq | hq
  · obtain ⟨its, r, pl, hz⟩ := I.list hq
    refine SeqAt.in_listAt (eqU x) pl.isList (fun w hw => mem_eqAt rx fx r fs w (by simpa using hw)) ⟨.bl _, H, I, rfl, ?_⟩
    rw [show its.toArray.any (eqU x) = its.any (eqU x) by simp, any_eqU r fs]
    exact q
  · obtain ⟨its, r, pl, hz⟩ := I.tuple hq
    refine SeqAt.in_tupleAt (eqU x) pl (fun w hw => mem_eqAt rx fx r fs w (by simpa using hw)) ⟨.bl _, H, I, rfl, ?_⟩
    rw [show its.toArray.any (eqU x) = its.any (eqU x) by simp, any_eqU r fs]
    exact q
theorem op_notIn_seq : OpR X (compareOp .NotIn) (rIn X.K true) := by
  intro pins s σ H x y v u Q I rx ry h
  obtain ⟨p, xs, rfl, hq, fx, fs, q⟩ := h
  cases ry
  rcases hq with hq | hq
  · obtain ⟨its, r, pl, hz⟩ := I.list hq
    refine SeqAt.notIn_listAt (eqU x) pl.isList (fun w hw => mem_eqAt rx fx r fs w (by simpa using hw)) ⟨.bl _, H, I, rfl, ?_⟩
    rw [show its.toArray.any (eqU x) = its.any (eqU x) by simp, any_eqU r fs]
    exact q
  · obtain ⟨its, r, pl, hz⟩ := I.tuple hq
    refine SeqAt.notIn_tupleAt (eqU x) pl (fun w hw => mem_eqAt rx fx r fs w (by simpa using hw)) ⟨.bl _, H, I, rfl, ?_⟩
    rw [show its.toArray.any (eqU x) = its.any (eqU x) by simp, any_eqU r fs]
    exact q

/-! ### len, list(x), tuple(x) of any list or tuple that is read -/
theorem call_len_seq : CallR X (.builtin "len") (fun xs H Q => ∃ p ys, xs = [.ref p] ∧ (SqL X.K H p ys ∨ SqT X.K H p ys) ∧ Q (.int ys.length) H) := by
  intro pins s σ H xs us Q I r h
  obtain ⟨p, ys, rfl, hq, q⟩ := h
  obtain ⟨u, rfl, rx⟩ := vals1 r
  cases rx
  have hn := line63
  rcases hq with hq | hq
  · obtain ⟨its, r', pl, hz⟩ := I.list hq
    have hlen := r'.length
    exact Calls.call_len_list pl.isList (by simp only [List.size_toArray] <;> omega) ⟨.int ys.length, H, I.tok _, ⟨s.toks + 1, by rw [List.size_toArray, hlen]⟩, q⟩
  · obtain ⟨its, r', pl, hz⟩ := I.tuple hq
    have hlen := r'.length
    exact len_tuple pl (by simp only [List.size_toArray] <;> omega) ⟨.int ys.length, H, I.tok _, ⟨s.toks + 1, by rw [List.size_toArray, hlen]⟩, q⟩
theorem call_list_of : CallR X (.type "list") (fun xs H Q => ∃ p ys, xs = [.ref p] ∧ (SqL X.K H p ys ∨ SqT X.K H p ys) ∧ ∀ l, H l = none → Q (.ref l) (upd H l (.lst ys))) := by
  intro pins s σ H xs us Q I r h
  obtain ⟨p, ys, rfl, hq, q⟩ := h
  obtain ⟨u, rfl, rx⟩ := vals1 r
  cases rx
  have fin : ∀ (its : List Value), Vals ys its → ys.length ≤ sizeLine → ∀ (h' : Heap) (c' : Nat), (∀ b o', s.heap.get? b = some o' → h'.get? b = some o') →
      h'.get? s.heap.objs.size = some { cls := .type "list", dict := none, data := .seq its.toArray c', slots := #[] } → EP X pins σ Q (.ref s.heap.objs.size) { s with heap := h' } := fun its r' hz h' c' kp e =>
    ⟨.ref s.heap.objs.size, _, I.laid (t' := s.toks) kp (Nat.le_refl _) (show ObjOk X.prog X.w _ h' _ (.lst ys) from ⟨hz, its, c', r', e⟩), rfl, q _ (I.hok.fresh (Nat.le_refl _))⟩
  rcases hq with hq | hq
  · obtain ⟨its, r', pl, hz⟩ := I.list hq
    have hlen := r'.length
    obtain ⟨o, ho, hc, n, hd⟩ := pl.isList
    exact call_list_seq p (.inl rfl) ho hc hd (fun h' c' kp e => fin its r' hz h' c' kp e) (by simp only [List.size_toArray] <;> omega)
  · obtain ⟨its, r', pl, hz⟩ := I.tuple hq
    have hlen := r'.length
    obtain ⟨o, ho, hc, n, hd⟩ := pl
    exact call_list_seq p (.inr rfl) ho hc hd (fun h' c' kp e => fin its r' hz h' c' kp e) (by simp only [List.size_toArray] <;> omega)

/-! ### the call of a builtin's method: o.m(..) -/
/-- the value is of that builtin type -/
def tyV (K : PySem.W.Frag) (T : String) (x : V) (H : Hp) : Prop := match x with
  | .str _ => T = "str"
  | .int _ => T = "int"
  | .ref p => (T = "list" ∧ ∃ xs, SqL K H p xs) ∨ (T = "tuple" ∧ ∃ o, K.lookup p = some o ∧ o.cls = .type "tuple" ∧ o.dict = none) ∨
      (T = "dict" ∧ ((∃ kvs, H p = some (.dK kvs)) ∨ ∃ kvs, H p = some (.dT kvs))) ∨ (T = "set" ∧ ∃ S n, H p = some (.set S n))
  | _ => False
theorem tyV_is {pins : List (Addr × Obj)} {σ : St} {H : Hp} {s : Shared} {T : String} {x : V} {v : Value} (I : Inv X pins σ H s) (r : RelV x v) (ty : tyV X.K T x H) :
    s.TypeIs v T ∧ ∀ a, v = .ref a → ∃ ob, s.heap.get? a = some ob ∧ ob.dict = none := by
  cases x with
  | str z =>
    obtain ⟨t, rfl⟩ := r
    cases (show T = "str" from ty)
    exact ⟨typeIs_str s z t, fun _ e => nomatch e⟩
  | int i =>
    obtain ⟨t, rfl⟩ := r
    cases (show T = "int" from ty)
    exact ⟨typeIs_int s i t, fun _ e => nomatch e⟩
  | ref p =>
    cases r
    rcases ty with ⟨rfl, xs, hq⟩ | ⟨rfl, o, hk, hc, hd⟩ | ⟨rfl, hk⟩ | ⟨rfl, S, n, hk⟩
    · obtain ⟨its, _, pl, _⟩ := I.list hq
      refine ⟨pl.isList.typeIs, fun a e => ?_⟩
      cases e
      obtain ⟨o, n, e, c, hd, _⟩ := pl
      exact ⟨o, e, hd⟩
    · refine ⟨⟨o, I.kIn p o hk, hc⟩, fun a e => ?_⟩
      cases e
      exact ⟨o, I.kIn _ o hk, hd⟩
    · have z : ∃ o, s.heap.get? p = some o ∧ o.ExactDict := by
        rcases hk with ⟨kvs, hk⟩ | ⟨kvs, hk⟩
        · obtain ⟨_, _, _, _, o, _, _, e, ex, _⟩ := I.hok p _ hk
          exact ⟨o, e, ex⟩
        · obtain ⟨_, _, _, _, o, _, _, e, ex, _⟩ := I.hok p _ hk
          exact ⟨o, e, ex⟩
      obtain ⟨o, e, ex⟩ := z
      refine ⟨⟨o, e, ex.1⟩, fun a e2 => ?_⟩
      cases e2
      exact ⟨o, e, ex.2.1⟩
    · obtain ⟨o, _, _, _, e, ex, _⟩ := I.hok p _ hk
      refine ⟨⟨o, e, ex.1⟩, fun a e2 => ?_⟩
      cases e2
      exact ⟨o, e, ex.2.1⟩
  | _ => exact False.elim ty
def tBM (K : PySem.W.Frag) (T : String) (r : V → List V → Hp → VK → Prop) (to : TE) (t : TA) : TE := fun σ H Q => to σ H fun x H1 => tyV K T x H1 ∧ t σ H1 fun xs H2 => r x xs H2 Q
variable {o e : Expr} {es : List Expr} {to : TE} {t : TA} {name : Str} {apos cpos : Pos} {T id : String} {r : V → List V → Hp → VK → Prop}
theorem pe_bm (pa : PlainAttrs T) (slot : Slot T name id) (hty : typeOf (.builtin id) = pure (.type "method_descriptor")) (hm : MtR X id r) (ho : PE X o to) (ha : PA X (e :: es) t)
    (hbase : attributeBase o name X.env (eval o X.env) = eval o X.env := by rfl)
    (hfew : ((backTo cpos (starEach (e :: es) X.env)).all (fun x => !x.1) && (backToKw cpos (keywordEach [] X.env)).all (fun x => x.1.isSome)
      && decide ((e :: es).length + ([] : List Keyword).length + (if ([] : List Keyword).isEmpty then 0 else 1) < 30)) = true := by rfl)
    (hline : (apos.endLine == cpos.line) = true := by rfl) (hs : starEach (e :: es) X.env = (false, eval e X.env) :: starEach es X.env := by rfl) (hplain : (backTo cpos (starEach es X.env)).any (·.1) = false := by rfl) :
    PE X (.Call (.Attribute o name apos) (e :: es) [] cpos) (tBM X.K T r to t) := by
  intro pins s σ H Q I h
  refine wpAny_Call_method_late hbase hfew hline rfl (thn (ho pins s σ H _ I h) fun v s1 ⟨x, H1, I1, r1, ty, q1⟩ => ?_)
  obtain ⟨h1, h2⟩ := tyV_is I1 r1 ty
  refine ⟨T, id, pa, slot, hty, h1, h2, ?_⟩
  have hA := ha cpos pins s1 σ H1 _ I1 q1
  rw [hs] at hA ⊢
  refine Calls.callWith_builtin (by show (false || (backTo cpos (starEach es X.env)).any (·.1)) = false; rw [hplain] <;> rfl) (Calls.evalArgs_plain ?_)
  exact thn hA fun us s2 ⟨vs, H2, I2, r2, q2⟩ => hm pins s2 σ H2 x vs v us Q I2 r1 r2 q2
/- xs.append(e), list.index on a module's tuple .. are MtR facts of 06m -/
end
end L2

namespace L2
open PySem PySem.Spec PyProof.Rows

def MtM (X : Cx) (id : String) (r : V → List V → Hp → VK → Prop) : Prop :=
  ∀ (pins : List (Addr × Obj)) (s : Shared) (σ : St) (H : Hp) (x : V) (xs : List V) (v : Value) (us : List Value) (Q : VK), Inv X pins σ H s → RelV x v → Vals xs us → r x xs H Q →
    wpAny (model X.prog X.w) X.A (call (.builtin id) (v :: us)) (EP X pins σ Q) X.xe s

/-! ### lists of values -/
theorem Vals.one : ∀ {x : V} {us : List Value}, Vals [x] us → ∃ u, us = [u] ∧ RelV x u
  | _, _, .cons r .nil => ⟨_, rfl, r⟩
theorem Vals.two : ∀ {x y : V} {us : List Value}, Vals [x, y] us → ∃ u v, us = [u, v] ∧ RelV x u ∧ RelV y v
  | _, _, _, .cons r (.cons q .nil) => ⟨_, _, rfl, r, q⟩

section
variable {X : Cx} {pins : List (Addr × Obj)} {σ : St} {H : Hp} {s : Shared} {l b : Addr} {xs ys zs : List V}

/-! ### the two steps: a tracked list is rewritten, a new list is laid -/
theorem Inv.lset {its its' : List Value} {n : Nat} {f : Array Value → Array Value} {t' : Nat} (I : Inv X pins σ H s) (hH : H l = some (.lst xs))
    (e : s.heap.get? l = some { cls := .type "list", data := .seq its.toArray n }) (hf : f its.toArray = its'.toArray) (hv : Vals ys its') (hz : ys.length ≤ sizeLine) :
    Inv X pins σ (upd H l (.lst ys)) { s with heap := s.heap.update l (Obj.mapSeq f), toks := t' } := by
  have q := PySem.IsL.update e f
  rw [hf] at q
  refine I.write (x := l) (e := l) (by rw [hH]; exact trivial) (.inl rfl) (fun b' u hb hu => (Heap.get?_update_other s.heap (Obj.mapSeq f) (Ne.symm hb)).trans hu) ⟨_, q⟩ ?_
  exact ⟨hz, its', _, hv, q⟩
theorem Inv.lnew {its : List Value} {t' : Nat} (I : Inv X pins σ H s) (hv : Vals ys its) (hz : ys.length ≤ sizeLine) :
    Inv X pins σ (upd H s.heap.objs.size (.lst ys)) { s with heap := s.heap.push { cls := .type "list", data := .seq its.toArray }, toks := t' } :=
  I.laid (fun _ _ q => Heap.get?_push_of_some _ q) (Nat.le_refl _) ⟨hz, its, 0, hv, Heap.get?_push_size _ rfl⟩
theorem Inv.fresh (I : Inv X pins σ H s) : H s.heap.objs.size = none := I.hok.fresh (Nat.le_refl _)
theorem Inv.lstM (I : Inv X pins σ H s) (hH : H l = some (.lst xs)) : xs.length ≤ sizeLine ∧ ∃ (its : List Value) (n : Nat), Vals xs its ∧ xs.length = its.length ∧ s.heap.get? l = some { cls := .type "list", data := .seq its.toArray n } := by
  obtain ⟨z, its, n, r, e⟩ := I.hok l _ hH
  exact ⟨z, its, n, r, r.length, e⟩

end

section
variable {X : Cx}

/-! ### methods -/
def rAppend : V → List V → Hp → VK → Prop := fun x vs H Q => ∃ l xs y, x = .ref l ∧ vs = [y] ∧ H l = some (.lst xs) ∧ xs.length < sizeLine ∧ Q .non (upd H l (.lst (xs ++ [y])))
theorem mt_append : MtM X "list.append" rAppend := by
  intro pins s σ H x vs v us Q I rx rv h
  obtain ⟨l, xs, y, rfl, rfl, hH, hz, q⟩ := h
  cases rx
  obtain ⟨u, rfl, ru⟩ := rv.one
  obtain ⟨z, its, n, r, hl, e⟩ := I.lstM hH
  refine call_meets F.slot_list_append ⟨_, e, rfl⟩ F.entry_list_append (F.args_list_append_2 _ _) (PySem.list_append l its.toArray n u (by rw [List.size_toArray]; omega)) ⟨e, ?_⟩
  refine ⟨.non, _, I.lset (its' := its ++ [u]) hH e (by simp) (r.append (.cons ru .nil)) ?_, rfl, q⟩
  rw [List.length_append, List.length_singleton]
  omega






/-! ### list + list, list += list, list * int -/

/-! ### del xs[i] -/
end

/-! ### xs[a:b] = ys -/
section
variable {prog : Program} {w : World} {A : Around} {E : Value → Shared → Prop} {s : Shared}
end

section
variable {X : Cx}
end
end L2

namespace Att
open PySem PySem.W PySem.Calls PyProof.Rows

/-! ### the script -/
theorem ints_of_wellAll {P : Params} {h : Heap} : ∀ (ns : List Int) (vs : List Value), WellAll P h vs (ns.map WData.int) → IntsAre vs ns := by
  intro ns
  induction ns with
  | nil =>
    intro vs w
    rw [List.map_nil] at w
    cases w
    exact .nil
  | cons n ns ih =>
    intro vs w
    rw [List.map_cons] at w
    cases w with
    | cons a b =>
      cases a
      exact .cons _ _ (ih _ b)

theorem script_of {l : OpenLaw} {n : Nat} (hn : l.most = some n) {P : Params} {h : Heap} {args : List WData} {vals : List Value}
    (hpre : l.row.toRowW.claim.pre args = true) (hwl : WellAll P h vals args) :
    ∃ a vs ns, vals = [Value.ref a] ∧ args = [WData.list (ns.map WData.int)] ∧ h.get? a = some { cls := .type "list", data := .seq vs.toArray } ∧ IntsAre vs ns ∧ ns.length ≤ n := by
  have hsh : WShape.hasAll [] args [.list .int] = true := (pre_splitW hpre).1
  have hc : l.pre.holds [] { args := args } = true := (pre_splitW hpre).2
  obtain ⟨d, r, rfl, h1, h2⟩ := hasAllW_cons hsh
  obtain rfl := hasAllW_nil h2
  obtain ⟨xs, rfl, h3⟩ := hasW_list h1
  obtain ⟨ns, rfl⟩ := items_int h3
  have hlen : ns.length ≤ n := by
    unfold OpenLaw.pre at hc
    have h4 : (WTm.not (.lt (.lit (.int (n : Int))) (.len (.arg 0)))).holds [] { args := [.list (ns.map .int)] } = true := by
      have h4 := (holds_andW hc).1
      rw [hn] at h4
      exact h4
    have h5 := condW_of h4 (w_not (w_lt w_lit (w_len_list (w_arg rfl))))
    rw [List.length_map] at h5
    refine Nat.le_of_not_lt fun q => ?_
    have q' : (n : Int) < ((ns.length : Nat) : Int) := by omega
    first
      | (rw [decide_eq_true q'] at h5; exact absurd h5 (by decide))
      | (simp at h5; omega)
  cases hwl with
  | cons w1 w2 =>
    cases w2
    cases w1 with
    | list ho hall => exact ⟨_, _, ns, rfl, rfl, ho, ints_of_wellAll ns _ hall, hlen⟩

theorem post_true (l : OpenLaw) (args : List WData) : l.row.toRowW.claim.post args (.bool true) args = true :=
  postW_of (r := l.row.toRowW) (X := (true == true))
    (show WShape.has [] (.bool true) .bool = true by first | rfl | decide | simp [WShape.has, WShape.arms, WShape.armsAll])
    (show (WTm.eq .res (.lit (.bool true))).value [] { args := args, res := some (.bool true), after := args } = some (.bool (true == true)) from w_eq_bool (w_res rfl) w_lit) rfl

/-! ### the attachment: holds_open's last premise (the goal 'hc' behind k_head) from a wpAny of the law's body -/

/-- the same from a codeAny of the CALL (for a layer whose function contracts speak of calls) -/
theorem attach_call {l : OpenLaw} {n : Nat} {q : Program} {loose : List Str} {XP : (Str → Option Value) → Heap → Prop} {YP : World → Heap → Prop} {d : DefRec}
    (hn : l.most = some n) (hdf : d.params.defaults = [])
    (call : ∀ (w : World) (s₀ s₁ : Shared) (mg mb : Str → Option Value) (fa : Addr) (o : Obj) (pm cd doc : Value) (a : Addr) (vs : List Value) (ns : List Int),
      Ground q loose [] XP w s₀ mg mb s₁.heap → YP w s₁.heap →
      s₁.heap.get? fa = some o → o.data = .func (docDef d.name d.params d.body d.scope pm cd doc) → s₁.heap.CodeRec cd d.name → mg d.name = some (.ref fa) →
      s₁.heap.get? a = some { cls := .type "list", data := .seq vs.toArray } → IntsAre vs ns → ns.length ≤ n → s₁.gens = #[] →
      codeAny (model l.prog w) callerA (.call (.ref fa) ⟨[.ref a], []⟩) (fun r s' => r = .ok (.ret (.bool true)) ∧ OldK s₁.heap s'.heap ∧ s'.os = s₁.os ∧ AllBare s'.gens) s₁) :
    WalkO q loose XP YP l.row.toRowW d [] (fun f vs => PySem.call f vs) := by
  intro w s₀ s₁ mg mb G Y fa o pm cd doc dV kV ho hd hcd hD hmg hg args vals as hpre hlay hrd hwl hlo
  obtain rfl : dV = .none := Dflts.none hD hdf
  obtain rfl : kV = .none := Dflts.noKw hD
  obtain ⟨a, vs, ns, rfl, rfl, hobj, hints, hlen⟩ := script_of hn hpre hwl
  refine enter_call (codeAny_mono (call w s₀ s₁ mg mb fa o pm cd doc a vs ns G Y ho (fd_plain hd) hcd hmg hobj hints hlen hg) fun r s' hq => ?_)
  obtain ⟨rfl, h2, h3, h4⟩ := hq
  exact ⟨.inl ⟨.bool true, .bool true, [], rfl, fun _ => rfl, .bool true, post_true l _, fun _ => ⟨List.Pairwise.nil, fun _ hm => (nomatch hm)⟩⟩, h2, h3, h4⟩


/-! ### rules over ANY heap (no ledger) from facts about the written part K: the library's own take a ledger (News) for what they write -/
section
variable {prog : Program} {w : World} {A : Around} {E : Value → Shared → Prop} {s : Shared} {K : Frag}





/-! the whole heap as the ledger: makes every rule that writes through a ledger a rule over any heap -/

end
end Att

namespace L2
open PySem PySem.Spec PyProof.Rows

theorem vals_ints : ∀ {vs : List Value} {ns : List Int}, IntsAre vs ns → Vals (ns.map V.int) vs
  | _, _, .nil => .nil
  | _, _, .cons n t h => .cons ⟨t, rfl⟩ (vals_ints h)

/-- nothing is tracked but the script, known to the object (or it is an object of the module) -/
def Only (H : Hp) : Prop := ∀ b, H b = none ∨ ∃ o xs, H b = some (.frz o (.lst xs))

/-- THE HEAD: the law's promise, at the heap behind the top. F, the promise of the law's def, may use that base is part of the heap (so K.In base, base.Ns mainGlobals mg stand in Mod) -/
theorem law_call {P : Program} {w : World} {K : PySem.W.Frag} {mg mb : Str → Option Value} {CX : CXT} {k : Nat} {fa a : Addr} {fd : FuncData} {x : Str} {sp : Sp} {s₁ : Shared} {vs : List Value} {ns : List Int}
    (KX : K.In s₁.heap) (hns : s₁.heap.Ns mainGlobals mg) (hb : s₁.heap.Ns builtinsNs mb) (hbb : ∀ x : Str, x ≠ "__name__" → mb x = bootBuiltins x) (hlim : s₁.heap.NoLimit) (hg : s₁.gens = #[])
    (ha : s₁.heap.get? a = some { cls := .type "list", data := .seq vs.toArray }) (hi : IntsAre vs ns) (hl : ns.length ≤ sizeLine) (hr : Room k callerA)
    (F : ∀ base : Heap, K.In base → base.Ns mainGlobals mg → FnOk P w K mg base CX k fa fd [x] sp) (hbind : ∀ (s : Shared) (u : Value), BindsTo s fd ⟨[u], []⟩ [(x, u)])
    (hsp : ∀ H : Hp, Only H → SqL K H a (ns.map V.int) → sp [.ref a] H (fun v _ => v = .bl true) fun _ _ _ => False)
    (hCX : ∀ H e s', CX [] H s₁ (fun _ _ _ => False) e s' → False) :
    codeAny (model P w) callerA (.call (.ref fa) ⟨[.ref a], []⟩) (fun r s' => r = .ok (.ret (.bool true)) ∧ OldK s₁.heap s'.heap ∧ s'.os = s₁.os ∧ AllBare s'.gens) s₁ := by
  have rv := vals_ints hi
  have lenV := hi.length
  -- from an abstract heap in which nothing but the script may be tracked
  have core : ∀ H : Hp, Only H → SqL K H a (ns.map V.int) → HOk P w H s₁.heap → (∀ b, H b ≠ none → b = a) → (H a ≠ none → K.lookup a = none) →
      codeAny (model P w) callerA (.call (.ref fa) ⟨[.ref a], []⟩) (fun r s' => r = .ok (.ret (.bool true)) ∧ OldK s₁.heap s'.heap ∧ s'.os = s₁.os ∧ AllBare s'.gens) s₁ := by
    intro H hO hS hok hA hK
    have base_of : ∀ {b : Addr} {o : Obj}, s₁.heap.get? b = some o → H b = none → (hidT s₁.heap H).get? b = some o := fun e n => hidT_get e n
    have noA : ∀ {b : Addr} {o : Obj} {es : Array DictEntry} {ep : Nat}, s₁.heap.get? b = some o → o.data = .dict es ep → H b = none := fun {b o es ep} e d => by
      cases q : H b with
      | none => rfl
      | some u =>
        have e' : b = a := hA b (by rw [q]; simp)
        subst e'
        rw [ha] at e; cases e
        have d' : Data.seq vs.toArray _ = Data.dict es ep := d
        cases d'
    have nsK : ∀ {b : Addr} {m : Str → Option Value}, s₁.heap.Ns b m → (hidT s₁.heap H).Ns b m := fun {b m} ⟨o, es, ep, e, d, r⟩ => ⟨o, es, ep, base_of e (noA e d), d, r⟩
    have hKb : K.In (hidT s₁.heap H) := fun b o e => base_of (KX b o e) (by
      cases q : H b with
      | none => rfl
      | some u =>
        have e' : b = a := hA b (by rw [q]; simp)
        subst e'
        rw [hK (by rw [q]; simp)] at e; cases e)
    have hM : Mod K mg (hidT s₁.heap H) := ⟨hKb, nsK hns, ⟨mb, nsK hb, hbb⟩, let ⟨mc, h1, h2⟩ := hlim; ⟨mc, nsK h1, h2⟩⟩
    have e0 : Env0 P w K mg (hidT s₁.heap H) callerA [] s₁ H := ⟨rfl, hM, fun b o e => of_hidT e, Nat.le_of_eq (hidT_size _ _), trivial, fun b hb => absurd (show b ∈ ([] : List Addr) from hb) (by simp), hok, .of_eq hg⟩
    refine codeAny_mono ((F _ hKb (nsK hns)).run callerA [] s₁ H ⟨[.ref a], []⟩ [.ref a] [.ref a] _ _ hr e0 (hbind s₁ (.ref a)) (.cons rfl .nil) (hsp H hO hS)) fun r s' h => ?_
    cases r with
    | error e => exact (hCX H e s' h).elim
    | ok fl =>
      cases fl with
      | next => exact False.elim h
      | brk => exact False.elim h
      | cont => exact False.elim h
      | ret u =>
        obtain ⟨v, H', os, bare, un, hok', r', q⟩ := h
        have q' : v = .bl true := q
        subst q'
        obtain rfl : u = Value.bool true := r'
        refine ⟨rfl, OldK.of_keep fun b o e => ?_, os, bare⟩
        cases q : H b with
        | none => exact un.keep b o e q (by intro z; exact absurd (show b ∈ ([] : List Addr) from z) (by simp)) (by simp)
        | some u =>
          rcases hO b with z | ⟨ob, xs, z⟩
          · rw [q] at z; cases z
          · have z2 := un.frzs b ob _ z
            obtain ⟨e1, _⟩ := hok b _ z
            obtain ⟨e2, _⟩ := hok' b _ z2
            rw [e] at e1; cases e1
            exact e2
  cases hk : K.lookup a with
  | some o =>
    -- the script is one of the module's own objects
    have e := KX a o hk
    rw [ha] at e
    cases e
    refine core (fun _ => none) (fun _ => .inl rfl) (.inr ⟨_, vs.toArray, _, hk, rfl, rfl, rfl, by rw [List.size_toArray, lenV]; exact hl, by simpa using rv⟩) (fun b u z => by have z' : (none : Option HO) = some u := z; cases z') (fun b z => absurd rfl z) fun z => absurd rfl z
  | none =>
    refine core (fun b => if b = a then some (.frz { cls := .type "list", data := .seq vs.toArray } (.lst (ns.map V.int))) else none) (fun b => ?_) (.inl (.inr ⟨{ cls := .type "list", data := .seq vs.toArray }, if_pos rfl⟩)) (fun b u z => ?_) (fun b z => ?_) fun _ => hk
    · by_cases hb : b = a
      · exact .inr ⟨_, _, if_pos hb⟩
      · exact .inl (if_neg hb)
    · by_cases hb : b = a
      · have z' := (if_pos hb).symm.trans z
        cases z'
        subst hb
        exact ⟨ha, by rw [List.length_map]; exact hl, vs, _, rv, ha⟩
      · have z' := (if_neg hb).symm.trans z
        cases z'
    · by_cases hb : b = a
      · exact hb
      · exact absurd (if_neg hb) z
end L2

namespace L2
open PySem PySem.Spec PyProof.Rows


/-- the goal that k_head leaves (case hc), from the law's promise. F gives the function object fd (K's own) once, then the promise over every base -/
theorem walk_of {l : PySem.W.OpenLaw} {n k : Nat} {q : Program} {loose : List Str} {XP : (Str → Option Value) → Heap → Prop} {YP : World → Heap → Prop} {d : DefRec} {K : Params → PySem.W.Frag} {CX : World → CXT} {sp : World → Sp} {x : Str}
    (hn : l.most = some n) (hn2 : n ≤ sizeLine) (hdf : d.params.defaults = []) (hr : Room k callerA)
    (hY : ∀ (w : World) (h : Heap), YP w h → (K w.params).In h)
    (F : ∀ (w : World) (mg : Str → Option Value) (fa : Addr) (h : Heap), (K w.params).In h → h.Ns mainGlobals mg → mg d.name = some (.ref fa) →
      ∃ fd : FuncData, (∀ (s : Shared) (u : Value), BindsTo s fd ⟨[u], []⟩ [(x, u)]) ∧
        ∀ base : Heap, (K w.params).In base → base.Ns mainGlobals mg → FnOk l.prog w (K w.params) mg base (CX w) k fa fd [x] (sp w))
    (hsp : ∀ (w : World) (H : Hp) (a : Addr) (ns : List Int), ns.length ≤ n → Only H → SqL (K w.params) H a (ns.map V.int) → sp w [.ref a] H (fun v _ => v = .bl true) fun _ _ _ => False)
    (hCX : ∀ (w : World) (H : Hp) (s : Shared) (e : Value) (s' : Shared), CX w [] H s (fun _ _ _ => False) e s' → False) :
    PySem.W.WalkO q loose XP YP l.row.toRowW d [] (fun f vs => PySem.call f vs) := by
  refine Att.attach_call hn hdf fun w s₀ s₁ mg mb fa o pm cd doc a vs ns G Y ho hd hcd hmg hobj hints hlen hg => ?_
  have KX := hY w _ Y
  obtain ⟨fd, hb, hF⟩ := F w mg fa _ KX G.T.g hmg
  exact law_call KX G.T.g G.T.b G.T.builtins G.T.nolimit hg hobj hints (Nat.le_trans hlen hn2) hr hF hb (fun H hO hS => hsp w H a ns hlen hO hS) fun H e s' => hCX w H s₁ e s'
end L2

/- THE LAST THEOREM (shape; LID, My.* are yours):
   My.Adr: a structure of the addresses that your layer names (classes, functions); My.Txt K t: a structure (Prop) of the equations over K;
   My.txt_mk : {K} {implicit addresses ..} (e1 : nsIn K mainGlobals "law" = some (some (.ref f))) (e2 : K.lookup f = some ⟨oc, od, .func (fnOf "law" "law" params body scope dV kV doc pm an cdv ct), sl⟩) (e3 : codeIn K cdv "law" = true) .. : ∃ t, My.Txt K t

set_option maxRecDepth 100000 in
set_option maxHeartbeats 0 in
theorem PySem.Challenge.cw_LID_holds : PySem.Challenge.rw_LID.Holds := by
  w_on; o_law; k_head; (case hw => w_witness2)
  k_fill
  refine L2.walk_of (l := PySem.Challenge.rw_LID) (n := 63) (k := 40) (x := "script") (CX := fun w => ..) (sp := fun _ => My.sp_law) rfl (by decide) rfl ⟨rfl, by decide, by decide⟩ (fun w h Y => PySem.W.kIn_of Y) ?F ?S ?C
  case F =>
    intro w mg fa h KX G hmg
    have T : ∃ t, My.Txt (L2.KOf KX) t := by
      dsimp only [L2.KOf]                          -- K must stand as «<heap const> w.params» for k_is
      refine' My.txt_mk ?e1 ?e2 ?e3 ..
      (case e1 => PySem.W.k_is)                    -- in the order: a name -> its address -> its object -> its parts
      (case e2 => PySem.W.k_is)
      ..
    obtain ⟨t, T⟩ := T
    have e0 := hmg.symm.trans (PySem.W.mg_of KX G T.law)
    cases e0                                       -- fa is the law's own address
    exact ⟨_, fun s u => .of_eq rfl, fun base kb nb => My.law_fn T kb nb⟩     -- if «.of_eq rfl» comes too early: refine' ⟨_, ?b, fun base kb nb => My.law_fn T kb nb⟩; exact fun s u => .of_eq rfl
  case S => exact fun w H a ns hl hO hS => ..
  case C => exact ..
(the tactic k_is has no namespace: write k_is) -/

/-! SHORT WORDS over the layer: a def of the text, its body, what a loop and a test want. -/
namespace L2
open PySem PySem.Spec PyProof.Rows

/-! ### the text by places -/
def defArgs (s : Stmt) : Arguments := match s with
  | .FunctionDef _ a _ _ _ _ _ _ _ _ => a
  | _ => { posonlyargs := [], args := [], vararg := none, kwonlyargs := [], kw_defaults := [], kwarg := none, defaults := [] }
def defBody (s : Stmt) : List Stmt := match s with
  | .FunctionDef _ _ b _ _ _ _ _ _ _ => b
  | _ => []
def defScope (s : Stmt) : Scope := match s with
  | .FunctionDef _ _ _ _ _ _ sc _ _ _ => sc
  | _ => { kind := .function, names := [], isGenerator := false, isCoroutine := false }

/-! ### no exception leaves a def -/
abbrev CX0 : CXT := fun _ _ _ _ _ _ => False
abbrev E0 : XK := fun _ _ _ => False
theorem pass0 {X : Cx} : Passes CX0 X E0 := fun _ _ _ _ _ _ _ h => h.elim

/-! ### a def (or method) of the text as it stands behind the top -/
structure Fun (K : PySem.W.Frag) (x qual : Str) (st : Stmt) (f : Addr) (fd : FuncData) : Prop where
  ex : ∃ (oc : Value) (od : Option Addr) (kV doc pm : Value) (an : Option Addr) (cdv ct : Value) (osl : Array (Option Value)),
    fd = PySem.W.fnOf x qual (defArgs st) (defBody st) (defScope st) .none kV doc pm an cdv ct ∧ K.lookup f = some ⟨oc, od, .func fd, osl⟩ ∧ PySem.W.codeIn K cdv qual = true
  kp : PySem.W.keepIn K (.ref f) = true
section
variable {P : Program} {w : World} {K : PySem.W.Frag} {mg : Str → Option Value} {base : Heap}
/-- THE RULE for a def: its body as a term of rules, and the reading of that term -/
theorem Fun.ok {x qual : Str} {st : Stmt} {f : Addr} {fd : FuncData} {N ps : List Str} {k : Nat} {sp : Sp} (F : Fun K x qual st f fd) (S : FnScope N ps (defScope st)) (len : ∀ vs H Q E, sp vs H Q E → vs.length = ps.length)
    (hbody : ∀ (cdv : Value) (A : Around) (outer : List Env) (s : Shared) (H : Hp) (vs : List V) (Q : VK) (E : XK), Room k (A.deeper (envOfC qual (defScope st) s.heap.objs.size f cdv)) → sp vs H Q E →
      ∃ t, PSs (cxOf CX0 P w K mg base N qual (defScope st) f cdv A outer s H E).nox (defBody st) t ∧ t { nx := fun _ H' => Q .non H', rt := Q } (start N vs) H) : FnOk P w K mg base CX0 (k + 1) f fd ps sp := by
  obtain ⟨oc, od, kV, doc, pm, an, cdv, ct, osl, rfl, lk, hcd⟩ := F.ex
  refine fn_of lk hcd S len fun A outer s H vs Q E hr hsp => ?_
  obtain ⟨t, h, q⟩ := hbody cdv A outer s H vs Q E hr hsp
  exact ⟨t, h.nox, q⟩
/-- how its arguments bind (no defaults): h is «fun _ _ _ _ _ _ us hl => match us, hl with | [_, _], _ => rfl», one _ a parameter -/
theorem Fun.binds {x qual : Str} {st : Stmt} {f : Addr} {fd : FuncData} {ps : List Str} (F : Fun K x qual st f fd)
    (h : ∀ (kV doc pm : Value) (an : Option Addr) (cdv ct : Value) (us : List Value), us.length = ps.length → bindArgs (PySem.W.fnOf x qual (defArgs st) (defBody st) (defScope st) .none kV doc pm an cdv ct) ⟨us, []⟩ = pure (ps.zip us)) : Binds K fd ps [] := by
  obtain ⟨oc, od, kV, doc, pm, an, cdv, ct, osl, rfl, lk, hcd⟩ := F.ex
  exact .all (h kV doc pm an cdv ct)
theorem fun_mk {x qual : Str} {st : Stmt} {f : Addr} {oc : Value} {od an : Option Addr} {osl : Array (Option Value)} {kV doc pm cdv ct : Value} (l : K.lookup f = some ⟨oc, od, .func (PySem.W.fnOf x qual (defArgs st) (defBody st) (defScope st) .none kV doc pm an cdv ct), osl⟩)
    (c : PySem.W.codeIn K cdv qual = true) (k : PySem.W.keepIn K (.ref f) = true) : Fun K x qual st f (PySem.W.fnOf x qual (defArgs st) (defBody st) (defScope st) .none kV doc pm an cdv ct) := ⟨⟨oc, od, kV, doc, pm, an, cdv, ct, osl, rfl, l, c⟩, k⟩
end
theorem hu_of {A : Around} {k : Nat} (hr : Room k A) : A.units + 1 < cLine := Nat.lt_of_le_of_lt (Nat.add_le_add_left (by decide : 1 ≤ 64) _) hr.units

/-! ### expressions in short: the name that stands in the i-th slot -/
section
variable {X : Cx}
theorem pv (i : Nat) {x : Str} {pos : Pos} (hN : X.N[i]? = some x := by rfl) (hv : Vis X.env.scope x := by first | exact Or.inl rfl | exact Or.inr (Or.inl rfl) | exact Or.inr (Or.inr rfl)) (hd : (x == ("__debug__" : Str)) = false := by decide)
    (hcd : (x == ("__classdict__" : Str)) = false := by decide) : PE X (.Name x pos) (tVar i) := pe_var hN hv hd hcd
end

/-! ### tests -/
theorem iteF {A B : Prop} (h : B) : if false = true then A else B := by
  rw [if_neg Bool.false_ne_true]
  exact h
theorem iteT {A B : Prop} (h : A) : if true = true then A else B := by
  rw [if_pos rfl]
  exact h

/-! ### heaps -/
/-- all that was tracked is as it was -/
def Same (H H' : Hp) : Prop := ∀ b o, H b = some o → H' b = some o
theorem Same.seq {K : PySem.W.Frag} {H H' : Hp} {a : Addr} {xs : List V} (e : Same H H') (h : SqL K H a xs) : SqL K H' a xs := by
  rcases h with (h | ⟨o, h⟩) | h
  · exact .inl (.inl (e _ _ h))
  · exact .inl (.inr ⟨o, e _ _ h⟩)
  · exact .inr h

end L2
namespace L2
open PySem PySem.Spec PyProof.Rows

/-! ### comprehensions -/
theorem closure_go {env : Env} : ∀ (names : List (Str × NameKind)) (acc : List (Str × Addr)), (∀ x ∈ names, x.2 = .free → ∃ c, env.cells.lookup x.1 = some c) →
    (∀ x c, acc.lookup x = some c → env.cells.lookup x = some c) →
    ∃ cl : List (Str × Addr), forIn names acc (fun (x : Str × NameKind) (r : List (Str × Addr)) => match x with
        | (name, kind) => (if kind == NameKind.free then do let c ← cellOf env name; pure (ForInStep.yield ((name, c) :: r)) else pure (ForInStep.yield r) : Sem (ForInStep (List (Str × Addr))))) = pure cl ∧
      (∀ x c, cl.lookup x = some c → env.cells.lookup x = some c) ∧ (∀ x ∈ names, x.2 = .free → ∃ c, cl.lookup x.1 = some c) ∧ (∀ x c, acc.lookup x = some c → ∃ c', cl.lookup x = some c') := by
  intro names
  induction names with
  | nil => intro acc _ h2; exact ⟨acc, rfl, h2, fun _ h => (nomatch h), fun x c h => ⟨c, h⟩⟩
  | cons p r ih =>
    intro acc h1 h2
    obtain ⟨n, k⟩ := p
    rw [List.forIn_cons]
    have hr : ∀ x ∈ r, x.2 = .free → ∃ c, env.cells.lookup x.1 = some c := fun x hx => h1 x (List.mem_cons_of_mem _ hx)
    by_cases hk : k = .free
    · subst hk
      obtain ⟨c, hc⟩ := h1 (n, .free) List.mem_cons_self rfl
      have hce : cellOf env n = pure c := by unfold cellOf; rw [show env.cells.lookup n = some c from hc]
      have h2' : ∀ x c', ((n, c) :: acc).lookup x = some c' → env.cells.lookup x = some c' := fun x c' h => by
        rw [List.lookup_cons] at h
        cases hx : x == n with
        | true => rw [hx] at h; cases h; rw [eq_of_beq hx]; exact hc
        | false => rw [hx] at h; exact h2 x c' h
      obtain ⟨cl, e, a, b, d⟩ := ih ((n, c) :: acc) hr h2'
      refine ⟨cl, ?_, a, fun x hx hf => ?_, fun x c' h => ?_⟩
      · show ((cellOf env n >>= fun c => pure (ForInStep.yield ((n, c) :: acc))) >>= _) = _
        rw [hce]
        exact e
      · rcases List.mem_cons.mp hx with rfl | hx
        · exact d n c (by simp [List.lookup_cons])
        · exact b x hx hf
      · cases hx : x == n with
        | true => exact d x c (by rw [List.lookup_cons, hx])
        | false => exact d x c' (by rw [List.lookup_cons, hx]; exact h)
    · have hb : (k == NameKind.free) = false := by simpa using hk
      obtain ⟨cl, e, a, b, d⟩ := ih acc hr h2
      refine ⟨cl, ?_, a, fun x hx hf => ?_, d⟩
      · show ((if (k == NameKind.free) = true then _ else _) >>= _) = _
        rw [hb]
        exact e
      · rcases List.mem_cons.mp hx with rfl | hx
        · exact absurd hf hk
        · exact b x hx hf
theorem closure_of {scope : Scope} {env : Env} (h : ∀ x ∈ scope.names, x.2 = .free → ∃ c, env.cells.lookup x.1 = some c) :
    ∃ cl : List (Str × Addr), closureFor scope env = pure cl ∧ (∀ x c, cl.lookup x = some c → env.cells.lookup x = some c) ∧ (∀ x ∈ scope.names, x.2 = .free → ∃ c, cl.lookup x.1 = some c) := by
  obtain ⟨cl, e, a, b, _⟩ := closure_go (env := env) scope.names [] h (fun _ _ h => nomatch h)
  refine ⟨cl, ?_, a, b⟩
  have q : closureFor scope env = (forIn scope.names ([] : List (Str × Addr)) (fun (x : Str × NameKind) (r : List (Str × Addr)) => match x with
        | (name, kind) => (if kind == NameKind.free then do let c ← cellOf env name; pure (ForInStep.yield ((name, c) :: r)) else pure (ForInStep.yield r) : Sem (ForInStep (List (Str × Addr))))) >>= fun r => pure r) := rfl
  rw [q, e]
  rfl

/-- the context of a comprehension's block -/
def cxComp (X : Cx) (N : List Str) (scope : Scope) (cl : List (Str × Addr)) (s : Shared) (H : Hp) (fp : List Addr) (pins : List (Addr × Obj)) : Cx where
  prog := X.prog
  w := X.w
  K := X.K
  mg := X.mg
  base := X.base
  A := X.A
  N := N
  s₀ := s
  H₀ := H
  env := compEnvC scope cl s.heap.objs.size X.env
  outer := X.stack
  stack := X.stack
  ex := fp
  fn := fun _ => false
  calm := X.calm
  pn := X.pn ++ pins
  xe := fun _ _ => False

/-- what a block's context hangs on besides -/
structure CC where
  cl : List (Str × Addr)
  s : Shared
  H : Hp
  fp : List Addr
  pins : List (Addr × Obj)
abbrev cxC (X : Cx) (N : List Str) (scope : Scope) (c : CC) : Cx := cxComp X N scope c.cl c.s c.H c.fp c.pins

/-- what stands in the block's slots at its entry: the targets' (nt of them) are empty, the others are the outer names' -/
def compSt (nt : Nat) (fr : List Nat) (σ : St) : St := List.replicate nt none ++ fr.map fun j => (σ[j]?).join

/-- what a comprehension's scope must be: N the targets and the free names, fr the outer slots of these -/
structure CompScope (N : List Str) (nt : Nat) (fr : List Nat) (ON : List Str) (sc osc : Scope) : Prop where
  kind : sc.kind = .function
  nocell : ∀ x ∈ sc.names, x.2 ≠ .cell
  names : ∀ x ∈ sc.names, x.2 = .local → sc.names.lookup x.1 = some .local
  len : N.length = nt + fr.length
  out : ∀ (i : Nat) (j : Nat), fr[i]? = some j → ∃ x, N[nt + i]? = some x ∧ ON[j]? = some x ∧ osc.names.lookup x = some .cell ∧ sc.names.lookup x = some .free
  cells : ∀ x ∈ sc.names, x.2 = .free → osc.names.lookup x.1 = some .cell
  looks : ∀ x ∈ sc.names, x.2 = .free → sc.names.lookup x.1 = some .free

theorem relabel_look {sc : Scope} {env : Env} : ∀ (names : List (Str × NameKind)) (x : Str) (k : NameKind),
    (names.map fun (n, k) => if (k == NameKind.free && env.scope.kind == .function && env.kindOf n == some .cell) then (n, NameKind.cell) else (n, k)).lookup x = some k →
    names.lookup x = some k ∨ (k = .cell ∧ names.lookup x = some .free)
  | [], _, _, h => by simp at h
  | (n, k0) :: r, x, k, h => by
    have ih := relabel_look (sc := sc) (env := env) r x k
    rw [List.map_cons] at h
    have h' : List.lookup x ((if (k0 == NameKind.free && env.scope.kind == .function && env.kindOf n == some .cell) = true then (n, NameKind.cell) else (n, k0)) :: (r.map fun (n, k) => if (k == NameKind.free && env.scope.kind == .function && env.kindOf n == some .cell) then (n, NameKind.cell) else (n, k))) = some k := h
    by_cases hc : (k0 == NameKind.free && env.scope.kind == .function && env.kindOf n == some .cell) = true
    · rw [if_pos hc, List.lookup_cons] at h'
      rw [List.lookup_cons]
      cases hx : x == n with
      | true =>
        rw [hx] at h'
        cases h'
        rw [Bool.and_eq_true, Bool.and_eq_true] at hc
        have : k0 = .free := by simpa using hc.1.1
        subst this
        exact .inr ⟨rfl, rfl⟩
      | false => rw [hx] at h'; exact ih h'
    · rw [if_neg hc, List.lookup_cons] at h'
      rw [List.lookup_cons]
      cases hx : x == n with
      | true => rw [hx] at h'; exact .inl h'
      | false => rw [hx] at h'; exact ih h'

/-- the turn of a comprehension's loop -/
theorem comp_loop {prog : Program} {w : World} {A : Around} {R : Result → Shared → Prop} {s : Shared} {elt target iter : Expr} {ifs : List Expr} {scope : Scope} {pos : Pos} {it acc : Value} {env : Env} (I : Nat → Shared → Prop)
    (turn : ∀ n s, I n s → wpAny (model prog w) A (pyNext it) (fun r s₁ => match r with
      | none => R (.ok .next) s₁
      | some v => wpAny (model prog w) A (letOwnedTupleGo target it v) (fun _ s₂ => wpAny (model prog w) A (assign target env v) (fun _ s₂ =>
          wpAny (model prog w) A (forIn ifs true fun c r => if r = true then do let ok ← isTrue c env (eval c env); pure (ForInStep.yield ok) else pure (ForInStep.yield r)) (fun ok s₃ =>
            if ok = true then wpAny (model prog w) A (eval elt env) (fun x s₄ =>
              wpAny (model prog w) A (call (.builtin "list.append") [acc, x]) (fun _ s₅ => ∃ m, m < n ∧ I m s₅) (fun _ _ => False) s₄) (fun _ _ => False) s₃
            else ∃ m, m < n ∧ I m s₃) (fun _ _ => False) s₂) (fun _ _ => False) s₂) (fun _ _ => False) s₁) (fun _ _ => False) s)
    (n : Nat) (h : I n s) :
    codeAny (model prog w) A (.compLoop (.ListComp elt [⟨target, iter, ifs, 0⟩] scope pos) 0 it acc env) R s := by
  refine codeAny_loop rfl I (fun n s hI => ?_) n h
  show wpAny _ A ((compTurn (.ListComp elt [⟨target, iter, ifs, 0⟩] scope pos) 0 it acc env).onRaise (fun x => do noteFrame x env; theTreesLotGoes x)) _ _ s
  refine wpAny_noted ?_
  rw [compTurn_list]
  refine wpAny_bind (wpAny_standAt (wpAny_bind (wpAny_mono (turn n s hI) (fun r s₁ h₁ => ?_) fun _ _ h' => h'.elim)))
  cases r with
  | none => exact wpAny_pure h₁
  | some v =>
    refine wpAny_bind (wpAny_mono h₁ (fun _ s₂ h₁ => ?_) fun _ _ h' => h'.elim)
    refine wpAny_bind (wpAny_mono h₁ (fun _ s₂ h₂ => wpAny_bind (wpAny_mono h₂ (fun ok s₃ h₃ => ?_) fun _ _ h' => h'.elim)) fun _ _ h' => h'.elim)
    cases ok with
    | false => exact wpAny_pure ⟨rfl, h₃⟩
    | true =>
      exact wpAny_bind (wpAny_bind (wpAny_mono h₃ (fun x s₄ h₄ => wpAny_bind (wpAny_mono h₄ (fun _ s₅ h₅ => wpAny_pure (wpAny_pure ⟨rfl, h₅⟩)) fun _ _ h' => h'.elim)) fun _ _ h' => h'.elim))

section
variable {X : Cx} {tg elt iter : Expr} {ifs : List Expr} {scope : Scope} {pos : Pos} {N : List Str} {nt : Nat} {fr : List Nat}
/-- the block's state at its entry -/
theorem comp_start {pins : List (Addr × Obj)} {σ : St} {H : Hp} {s s4 : Shared} {fp : List Addr} {cl : List (Str × Addr)} (S : CompScope N nt fr X.N scope X.env.scope) (I : Inv X pins σ H s)
    (hf : ∀ b ∈ fp, FpOk X pins H b) (hlt : ∀ b ∈ fp, b < s.heap.objs.size)
    (hcl : ∀ x c, cl.lookup x = some c → X.env.cells.lookup x = some c) (hcf : ∀ x ∈ scope.names, x.2 = .free → ∃ c, cl.lookup x.1 = some c)
    (hk : ∀ b o, s.heap.get? b = some o → s4.heap.get? b = some o) (hn : ∃ m, s4.heap.Ns s.heap.objs.size m) (ho : s4.os = s.os) (hg : s4.gens = s.gens) :
    Inv (cxComp X N scope cl s H fp pins) [] (compSt nt fr σ) H s4 := by
  have hC : H s.heap.objs.size = none := I.hok.fresh (Nat.le_refl _)
  have neC : ∀ b o, s.heap.get? b = some o → b ≠ s.heap.objs.size := fun b o e => Nat.ne_of_lt (Heap.lt_size e)
  have kd : (cxComp X N scope cl s H fp pins).env.scope.kind = .function := S.kind
  have lk : ∀ x, scope.names.lookup x = some .free → ∃ c, cl.lookup x = some c := fun x h => hcf (x, .free) (PySem.mem_of_lookup h) rfl
  refine ⟨⟨I.ok.mod, kd, I.ok.glob, I.ok.blt, Nat.le_refl _, fun x y c h1 h2 => I.ok.inj x y c (hcl x c h1) (hcl y c h2), fun x hx => ?_, fun _ _ h _ => absurd (show false = true from h) Bool.false_ne_true, I.ok.hd, I.ok.frames, .inl rfl, fun b hb => ⟨Nat.ne_of_lt (hlt b hb), fun x c e => (hf b hb).2.2.2.2.1 x c (hcl x c e)⟩,
    I.bs, Nat.le_trans I.ok.bsz I.sz, fun b o e hb => ?_, fun b hb hs => ?_, I.stack, I.stkFree⟩, ho, by rw [hg]; exact I.bare, Un.kept hk, ?_, fun x c e => ?_, hC, fun x c e => I.freeC x c (hcl x c e), fun p hp => ?_, I.hok.kept hk, ?_⟩
  · have hx' : (relabel scope X.env).names.lookup x = some .cell ∨ (relabel scope X.env).names.lookup x = some .free := hx
    rcases hx' with h | h
    · rcases relabel_look (sc := scope) scope.names x _ h with q | ⟨_, q⟩
      · exact absurd rfl (S.nocell _ (PySem.mem_of_lookup q))
      · exact lk x q
    · rcases relabel_look (sc := scope) scope.names x _ h with q | ⟨q, _⟩
      · exact lk x q
      · cases q
  · rcases (hf b hb).2.2.2.1 with z | z
    · exact I.ok.noex b o e z
    · exact absurd (Nat.lt_of_lt_of_le (Heap.lt_size e) (Nat.le_trans I.ok.bsz z)) (Nat.lt_irrefl _)
  · rcases List.mem_cons.mp (I.stkSub b hs) with z | z
    · exact (hf b hb).2.1 z
    · exact (hf b hb).2.2.1 z
  · obtain ⟨m, hm⟩ := hn
    refine ⟨m, hm, fun i x v h1 h2 h3 => ?_⟩
    obtain ⟨m0, hn0, hl0⟩ := I.loc
    -- the slot holds something: it is one of the outer names
    have hi : nt ≤ i := by
      refine Nat.le_of_not_lt fun hlt => ?_
      unfold compSt at h2
      rw [List.getElem?_append_left (by simpa using hlt), List.getElem?_replicate] at h2
      rw [if_pos hlt] at h2
      cases h2
    obtain ⟨d, rfl⟩ : ∃ d, i = nt + d := ⟨i - nt, by omega⟩
    unfold compSt at h2
    rw [List.getElem?_append_right (by simp), List.length_replicate, Nat.add_sub_cancel_left, List.getElem?_map] at h2
    cases ej : fr[d]? with
    | none => rw [ej] at h2; cases h2
    | some j =>
      rw [ej] at h2
      have h2' : (σ[j]?).join = some v := Option.some.inj h2
      have hσ : σ[j]? = some (some v) := by
        cases e : σ[j]? with
        | none => rw [e] at h2'; cases h2'
        | some q => rw [e] at h2'; exact congrArg some h2'
      obtain ⟨y, e1, e2, e3, e4⟩ := S.out d j ej
      have e1' : N[nt + d]? = some x := h1
      rw [e1] at e1'; cases e1'
      obtain ⟨u, ru, l⟩ := hl0 j x v e2 hσ (.inr (.inl e3))
      refine ⟨u, ru, ?_⟩
      rcases l with ⟨q, _⟩ | ⟨_, c, ec, z⟩
      · have q' : X.env.scope.names.lookup x = some .local := q
        rw [e3] at q'; cases q'
      · obtain ⟨c', hc'⟩ := lk x e4
        have : c' = c := by have := hcl x c' hc'; rw [ec] at this; exact (Option.some.inj this).symm
        subst this
        obtain ⟨o, ho', hd⟩ := z
        refine .inr ⟨?_, c', hc', ⟨o, hk _ _ ho', hd⟩⟩
        rcases h3 with q | q | q
        · have q' : (relabel scope X.env).names.lookup x = some .local := q
          rcases relabel_look (sc := scope) scope.names x _ q' with z | ⟨z, _⟩
          · rw [e4] at z; cases z
          · cases z
        · exact .inl q
        · exact .inr q
  · obtain ⟨v, o, ho', hd⟩ := I.cell x c (hcl x c e)
    exact ⟨v, o, hk _ _ ho', hd⟩
  · have hp' : p ∈ X.pn ++ pins := by
      rcases List.mem_append.mp hp with z | z
      · exact z
      · exact absurd z (by simp)
    obtain ⟨e, n, ne, nf, d⟩ := I.pin p hp'
    refine ⟨hk _ _ e, n, neC _ _ e, fun z => ?_, d⟩
    rcases List.mem_cons.mp (I.stkSub p.1 z) with q | q
    · exact ne q
    · exact nf q
  · show (compSt nt fr σ).length = N.length
    unfold compSt
    rw [List.length_append, List.length_replicate, List.length_map, S.len]

/-- behind the block -/
theorem comp_end {pins pins' : List (Addr × Obj)} {σ σ' : St} {H H1 : Hp} {s s3 s5 : Shared} {D : Addr} {h' : Heap} {fp : List Addr} {cl : List (Str × Addr)} (I : Inv X pins σ H s) (hf : ∀ b ∈ fp, FpOk X pins H b)
    (hD : H D = none) (hDs : s.heap.objs.size ≤ D) (hDC : D < s3.heap.objs.size) (hk : ∀ b o, s.heap.get? b = some o → s3.heap.get? b = some o) (hos : s3.os = s.os)
    (J : Inv (cxComp X N scope cl s3 (upd H D (.lst [])) fp pins) pins' σ' H1 s5) (hs : Heap.SameBut s3.heap.objs.size s5.heap h') :
    Inv X pins σ H1 { s5 with heap := h' } := by
  have hsz : s.heap.objs.size ≤ s3.heap.objs.size := Nat.le_of_lt (Nat.lt_of_le_of_lt hDs hDC)
  have up3 : ∀ b, b < s.heap.objs.size → b ≠ D ∧ b ≠ s3.heap.objs.size := fun b hb => ⟨Nat.ne_of_lt (Nat.lt_of_lt_of_le hb hDs), Nat.ne_of_lt (Nat.lt_of_lt_of_le hb hsz)⟩
  have H3 : ∀ b, b ≠ D → (upd H D (.lst [])) b = H b := fun b hb => upd_ne hb
  refine I.call' (ch := fp) (s' := { s5 with heap := h' }) (J.os.trans hos) ⟨fun b o e n hb hx => ?_, fun b o e n hb hx => ?_, fun b o e n hx => ?_, fun b o e hx => ?_, fun b xs e => ?_, fun b o u e => ?_, fun b ps e => ?_⟩ ?_ J.bare fun b hb => ?_
  · obtain ⟨n1, n2⟩ := up3 b (Heap.lt_size e)
    exact (hs.2 b n2).trans (J.base.keep b o (hk b o e) ((H3 b n1).trans n) hb hx)
  · obtain ⟨n1, n2⟩ := up3 b (Heap.lt_size e)
    obtain ⟨sl, q⟩ := J.base.slot b o (hk b o e) ((H3 b n1).trans n) hb hx
    exact ⟨sl, (hs.2 b n2).trans q⟩
  · obtain ⟨n1, n2⟩ := up3 b (Heap.lt_size e)
    exact J.base.free b o (hk b o e) ((H3 b n1).trans n) hx
  · obtain ⟨n1, n2⟩ := up3 b (Heap.lt_size e)
    obtain ⟨o', q⟩ := J.base.there b o (hk b o e) hx
    exact ⟨o', (hs.2 b n2).trans q⟩
  · exact J.base.tups b xs ((H3 b (ne_of_none e hD)).trans e)
  · exact J.base.frzs b o u ((H3 b (ne_of_none e hD)).trans e)
  · exact J.base.tbls b ps ((H3 b (ne_of_none e hD)).trans e)
  · intro b u e
    refine (J.hok b u e).stay (fun c v hc q => (hs.2 c ?_).trans q) (fun _ q => q) fun _ _ q => q
    have hfree : H1 s3.heap.objs.size = none := J.free
    rintro rfl
    rcases hc with z | z
    · rw [z] at hfree; rw [hfree] at e; cases e
    · rw [hfree] at z; cases z
  · obtain ⟨f0, f1, f2, f3, f4, f5⟩ := hf b hb
    exact ⟨f3, f1, f4, f5⟩

abbrev TC := Addr → St → Hp → (Hp → Prop) → Prop
/-- the element is put behind the list's others -/
def cEmit (te : TE) : TC := fun D σ H Q => te σ H fun y H1 => ∃ ys, H1 D = some (.lst ys) ∧ ys.length < sizeLine ∧ Q (upd H1 D (.lst (ys ++ [y])))
def cTest (tt : TT) (te : TE) : TC := fun D σ H Q => tt σ H fun b H1 => if b = true then cEmit te D σ H1 Q else Q H1
/-- W: the invariant by the turn, a measure, the block's slots and the heap -/
def tComp (wi : TI) (nt : Nat) (fr : List Nat) (g : CC → TG) (tc : CC → TC) : TE := fun σ H Q => wi σ H fun J H1 => ∀ (c : CC) D, H1 D = none → ∃ W : Nat → Nat → St → Hp → Prop, (∃ m, W 0 m (compSt nt fr σ) (upd H1 D (.lst []))) ∧
  ∀ i m σ' H', W i m σ' H' → (J.stop i H' ∧ Q (.ref D) H') ∨ (J.go i H' ∧ ∀ x H2, J.yld i H' x H2 → g c x σ' H2 fun σ3 H3 => tc c D σ3 H3 fun H4 => ∃ m', m' < m ∧ W (i + 1) m' σ3 H4)

/-- the act of a turn: the tests, the element -/
def PAct (Y : Cx) (D : Addr) (ifs : List Expr) (elt : Expr) (tc : TC) : Prop :=
  ∀ (pins : List (Addr × Obj)) (s : Shared) (σ : St) (H : Hp) (Q : Hp → Prop), Inv Y pins σ H s → tc D σ H Q →
    wpAny (model Y.prog Y.w) Y.A (forIn ifs true fun c r => if r = true then do let ok ← isTrue c Y.env (eval c Y.env); pure (ForInStep.yield ok) else pure (ForInStep.yield r)) (fun ok s₃ =>
      if ok = true then wpAny (model Y.prog Y.w) Y.A (eval elt Y.env) (fun x s₄ =>
        wpAny (model Y.prog Y.w) Y.A (call (.builtin "list.append") [.ref D, x]) (fun _ s₅ => ∃ H', Inv Y pins σ H' s₅ ∧ Q H') Y.xe s₄) Y.xe s₃
      else ∃ H', Inv Y pins σ H' s₃ ∧ Q H') Y.xe s
theorem emit_ok {Y : Cx} {D : Addr} {te : TE} (he : PE Y elt te) {pins : List (Addr × Obj)} {s : Shared} {σ : St} {H : Hp} {Q : Hp → Prop} (I : Inv Y pins σ H s) (h : cEmit te D σ H Q) :
    wpAny (model Y.prog Y.w) Y.A (eval elt Y.env) (fun x s₄ =>
        wpAny (model Y.prog Y.w) Y.A (call (.builtin "list.append") [.ref D, x]) (fun _ s₅ => ∃ H', Inv Y pins σ H' s₅ ∧ Q H') Y.xe s₄) Y.xe s := by
  refine thn (he pins s σ H _ I h) fun u s1 ⟨y, H1, I1, r1, ys, hD, hz, q⟩ => ?_
  refine thn (mt_append pins s1 σ H1 (.ref D) [y] (.ref D) [u] (fun v H' => v = .non ∧ Q H') I1 rfl (.cons r1 .nil) ⟨D, ys, y, rfl, rfl, hD, hz, rfl, q⟩) fun v s2 ⟨z, H2, I2, _, _, q2⟩ => ⟨H2, I2, q2⟩
theorem act_plain {Y : Cx} {D : Addr} {te : TE} (he : PE Y elt te) : PAct Y D [] elt (cEmit te) := by
  intro pins s σ H Q I h
  refine wpAny_tests_nil ?_
  rw [if_pos rfl]
  exact emit_ok he I h
theorem act_test {Y : Cx} {D : Addr} {c : Expr} {tt : TT} {te : TE} (hc : PT Y c tt) (he : PE Y elt te) : PAct Y D [c] elt (cTest tt te) := by
  intro pins s σ H Q I h
  refine wpAny_tests_one (thn (hc pins s σ H _ I h) fun b s1 ⟨H1, I1, q1⟩ => ?_)
  cases b with
  | true =>
    rw [if_pos rfl] at q1 ⊢
    exact emit_ok he I1 q1
  | false =>
    rw [if_neg Bool.false_ne_true] at q1 ⊢
    exact ⟨H1, I1, q1⟩

/-- the whole block, whatever becomes of the list -/
theorem comp_core {wi : TI} {g : CC → TG} {tc : CC → TC} {use : Option (Value → Sem Unit)} {Q0 : Value → Shared → Prop} (hc : X.calm = true) (S : CompScope N nt fr X.N scope X.env.scope) (hi : PI X tg iter wi)
    (hg : ∀ c : CC, PG (cxC X N scope c) tg (g c)) (ha : ∀ (c : CC) D, PAct (cxC X N scope c) D ifs elt (tc c))
    {pins : List (Addr × Obj)} {s : Shared} {σ : St} {H : Hp} {Q : VK} (I : Inv X pins σ H s) (h : tComp wi nt fr g tc σ H Q) (hfr : ∀ x ∈ scope.names, x.2 = .free → X.env.kindOf x.1 = some .cell)
    (fin : ∀ (D C : Addr) (s5 : Shared) (H1 : Hp), FpOk X pins H1 C → s5.heap.get? C ≠ none → C ≠ X.env.locals → (∃ m, s5.heap.Ns C m) → (∀ h', Heap.SameBut C s5.heap h' → Inv X pins σ H1 { s5 with heap := h' }) → Q (.ref D) H1 →
      compPost (model X.prog X.w) X.A X.xe use Q0 (.ref D) C (.ok .next) s5)
    (hs : ∀ x, foldedSetIterable iter X.env x = pure x := by intro _; rfl) :
    wpAny (model X.prog X.w) X.A (comprehension (.ListComp elt [⟨tg, iter, ifs, 0⟩] scope pos) scope X.env (firstIterPos [⟨tg, iter, ifs, 0⟩] pos) (newList []) false (eval iter X.env) use) Q0 X.xe s := by
  have hcells : ∀ x ∈ scope.names, x.2 = .free → ∃ c, X.env.cells.lookup x.1 = some c := fun x hx hf => I.ok.has x.1 (.inl (hfr x hx hf))
  obtain ⟨cl, hcl, h1, h2⟩ := closure_of hcells
  refine wpAny_comprehension_free (use := use) rfl hs hcl S.kind S.names (thn (hi pins s σ H _ I h) fun xv s1 hx => thn hx fun itv s2 hpe => ?_)
  obtain ⟨it, fp, tn, J, H2, rfl, I2, T, st2, f2, hW⟩ := hpe
  have hlt : ∀ b ∈ fp, b < s2.heap.objs.size := fun b hb => let ⟨o, e, _⟩ := T.obj 0 _ st2 b hb; Heap.lt_size e
  refine wpAny_newObj_type (wpAny_newFunctionEnv S.nocell (by intro y hy; simp at hy) (fun h₁ hns₁ hsb₁ => ?_) S.kind) (by show 0 ≤ sizeLine; exact Nat.zero_le _)
  have hD : H2 s2.heap.objs.size = none := I2.hok.fresh (Nat.le_refl _)
  have I3 : Inv X pins σ (upd H2 s2.heap.objs.size (.lst [])) { s2 with heap := s2.heap.push { cls := .type "list", dict := none, data := .seq ([] : List Value).toArray } } := I2.lnew (t' := s2.toks) (ys := []) .nil (Nat.zero_le _)
  generalize hs3 : ({ s2 with heap := s2.heap.push { cls := .type "list", dict := none, data := .seq ([] : List Value).toArray } } : Shared) = s3 at hns₁ hsb₁ I3 ⊢
  obtain ⟨W, ⟨m0, w0⟩, turn⟩ := hW ⟨cl, s3, upd H2 s2.heap.objs.size (.lst []), fp, pins⟩ _ hD
  have k23 : ∀ b o, s2.heap.get? b = some o → s3.heap.get? b = some o := fun b o e => by rw [← hs3]; exact Heap.get?_push_of_some _ e
  have z3 : s3.heap.objs.size = s2.heap.objs.size + 1 := by rw [← hs3]; exact Heap.size_push ..
  have os3 : s3.os = s2.os := by rw [← hs3]
  have f3 : ∀ b ∈ fp, FpOk X pins (upd H2 s2.heap.objs.size (.lst [])) b := fun b hb => ⟨by rw [upd_ne (Nat.ne_of_lt (hlt b hb))]; exact (f2 b hb).1, (f2 b hb).2⟩
  have k34 : ∀ b o, s3.heap.get? b = some o → h₁.get? b = some o := fun b o e => hsb₁.extBut b o (Nat.ne_of_lt (Heap.lt_size e)) (Heap.get?_push_of_some _ e)
  generalize hs4 : ({ s3 with heap := h₁, toks := s3.toks + ([] : List (Str × Value)).length } : Shared) = s4
  have e4h : s4.heap = h₁ := by rw [← hs4]
  have I4 : Inv (cxComp X N scope cl s3 (upd H2 s2.heap.objs.size (.lst [])) fp pins) [] (compSt nt fr σ) (upd H2 s2.heap.objs.size (.lst [])) s4 :=
    comp_start S I3 f3 (fun b hb => by rw [z3]; exact Nat.lt_succ_of_lt (hlt b hb)) h1 h2 (fun b o e => by rw [e4h]; exact k34 b o e) ⟨_, by rw [e4h]; exact hns₁⟩ (by rw [← hs4]) (by rw [← hs4])
  have st4 : tn 0 s4.heap := T.keep 0 _ _ st2 fun b hb o e => by rw [e4h]; exact k34 b o (k23 b o e)
  have loop : codeAny (model X.prog X.w) X.A (.compLoop (.ListComp elt [⟨tg, iter, ifs, 0⟩] scope pos) 0 (.ref it) (.ref s2.heap.objs.size) (compEnvC scope cl s3.heap.objs.size X.env))
      (compPost (model X.prog X.w) X.A X.xe use Q0 (.ref s2.heap.objs.size) s3.heap.objs.size) s4 := by
    have stat : ∀ {H' : Hp}, (∀ b ∈ fp, H' b = none) → ∀ b ∈ fp, FpOk (cxComp X N scope cl s3 (upd H2 s2.heap.objs.size (.lst [])) fp pins) [] H' b := fun {H'} hn b hb =>
      ⟨hn b hb, Nat.ne_of_lt (show b < s3.heap.objs.size by rw [z3]; exact Nat.lt_succ_of_lt (hlt b hb)), fun z => I4.ok.exfs b hb z, .inl hb, fun x c e => (f2 b hb).2.2.2.2.1 x c (h1 x c e), fun p hp => (f2 b hb).2.2.2.2.2 p (by
        rcases List.mem_append.mp hp with z | z
        · exact z
        · exact absurd z (by simp))⟩
    refine comp_loop (env := compEnvC scope cl s3.heap.objs.size X.env) (fun n s' => ∃ i σ' H', Inv (cxComp X N scope cl s3 (upd H2 s2.heap.objs.size (.lst [])) fp pins) [] σ' H' s' ∧ tn i s'.heap ∧ (∀ b ∈ fp, H' b = none) ∧ W i n σ' H') ?_ m0
      ⟨0, _, _, I4, st4, fun b hb => (f3 b hb).1, w0⟩
    rintro n s5 ⟨i, σ5, H5, I5, st5, fr5, w5⟩
    rcases turn i n σ5 H5 w5 with ⟨stop, qn⟩ | ⟨go, step⟩
    · refine thn (T.done (cxComp X N scope cl s3 (upd H2 s2.heap.objs.size (.lst [])) fp pins) rfl rfl rfl hc i [] s5 σ5 H5 (fun _ _ => False) I5 (stat fr5) st5 stop) fun r s6 ⟨hr, I6⟩ => ?_
      subst hr
      obtain ⟨m, hm, _⟩ := id I6.loc
      refine fin _ _ s6 H5 (I2.fpOk (by rw [z3]; exact Nat.le_succ _) I6.free) ?_ ?_ ⟨m, hm⟩ (fun h' hs' => comp_end I2 f2 hD (Nat.le_refl _) (by rw [z3]; exact Nat.lt_succ_self _) k23 os3 I6 hs') qn
      · obtain ⟨o, _, _, ho, _⟩ := hm
        intro z
        have ho' : s6.heap.get? s3.heap.objs.size = some o := ho
        rw [z] at ho'; cases ho'
      · exact Nat.ne_of_gt (Nat.lt_trans I2.lt (by rw [z3]; exact Nat.lt_succ_self _))
    · refine thn (T.item (cxComp X N scope cl s3 (upd H2 s2.heap.objs.size (.lst [])) fp pins) rfl rfl rfl hc i [] s5 σ5 H5 (fun _ _ => False) I5 (stat fr5) st5 go) fun r s6 ⟨u, hr, h6⟩ => ?_
      subst hr
      refine thn h6 fun _ s7 ⟨x, H7, I7, r7, y7, st7, fr7⟩ => ?_
      have I7' := I7.pinned (stat fr7) (T.obj _ _ st7)
      refine thn (hg ⟨cl, s3, upd H2 s2.heap.objs.size (.lst []), fp, pins⟩ _ s7 σ5 H7 x u _ I7' r7 (step x H7 y7)) fun _ s8 ⟨σ8, H8, I8, q8⟩ => ?_
      refine thn (ha ⟨cl, s3, upd H2 s2.heap.objs.size (.lst []), fp, pins⟩ _ _ s8 σ8 H8 _ I8 q8) fun ok s9 h9 => ?_
      have again : ∀ {s7' : Shared}, (∃ H', Inv (cxComp X N scope cl s3 (upd H2 s2.heap.objs.size (.lst [])) fp pins) ([] ++ pinsAt fp s7.heap) σ8 H' s7' ∧ ∃ m', m' < n ∧ W (i + 1) m' σ8 H') →
          ∃ m, m < n ∧ ∃ i σ' H', Inv (cxComp X N scope cl s3 (upd H2 s2.heap.objs.size (.lst [])) fp pins) [] σ' H' s7' ∧ tn i s7'.heap ∧ (∀ b ∈ fp, H' b = none) ∧ W i m σ' H' := fun {s7'} ⟨H', I', m', hm, w'⟩ => by
        refine ⟨m', hm, i + 1, σ8, H', I'.unpinned, T.keep _ _ _ st7 fun b hb o e => (I'.pin (b, o) (List.mem_append_right _ (List.mem_append_right _ (mem_pinsAt hb e)))).1, fun b hb => ?_, w'⟩
        obtain ⟨o, e, d⟩ := T.obj _ _ st7 b hb
        exact (I'.pin (b, o) (List.mem_append_right _ (List.mem_append_right _ (mem_pinsAt hb e)))).2.1
      cases ok with
      | true =>
        rw [if_pos rfl] at h9 ⊢
        exact thn h9 fun y s10 h10 => thn h10 fun _ s11 h11 => again h11
      | false =>
        rw [if_neg Bool.false_ne_true] at h9 ⊢
        exact again h9
  exact codeAny_compStart_list loop (T.self X.A 0 s4 _ _ st4 loop)

/-- [elt for tg in iter if ..] as a value -/
theorem pe_comp {wi : TI} {g : CC → TG} {tc : CC → TC} (hc : X.calm = true) (S : CompScope N nt fr X.N scope X.env.scope) (hi : PI X tg iter wi)
    (hg : ∀ c : CC, PG (cxC X N scope c) tg (g c)) (ha : ∀ (c : CC) D, PAct (cxC X N scope c) D ifs elt (tc c))
    (hs : ∀ x, foldedSetIterable iter X.env x = pure x := by intro _; rfl) :
    PE X (.ListComp elt [⟨tg, iter, ifs, 0⟩] scope pos) (tComp wi nt fr g tc) := by
  intro pins s σ H Q I h
  rw [eval_ListComp]
  refine comp_core (use := none) hc S hi hg ha I h (fun x hx hf => S.cells x hx hf) (fun D C s5 H1 _ _ _ hm hI q => ?_) hs
  obtain ⟨m, hm⟩ := hm
  exact ⟨m, hm, fun h' hs' => ⟨.ref D, H1, hI h' hs', rfl, q⟩⟩
/-- name = [elt for tg in iter if ..] -/
theorem ps_setC {i : Nat} {y : Str} {py spos : Pos} {wi : TI} {g : CC → TG} {tc : CC → TC} (hN : X.N.Nodup) (hy : X.N[i]? = some y) (hl : X.env.scope.names.lookup y = some .local) (hc : X.calm = true) (S : CompScope N nt fr X.N scope X.env.scope) (hi : PI X tg iter wi)
    (hg : ∀ c : CC, PG (cxC X N scope c) tg (g c)) (ha : ∀ (c : CC) D, PAct (cxC X N scope c) D ifs elt (tc c))
    (hs : ∀ x, foldedSetIterable iter X.env x = pure x := by intro _; rfl)
    (hsw : swapsWith (.ListComp elt [⟨tg, iter, ifs, 0⟩] scope pos) (some (.Name y py)) spos.line X.env = pure true := by rfl) :
    PS X (.Assign [.Name y py] (.ListComp elt [⟨tg, iter, ifs, 0⟩] scope pos) spos) (tAsg (tComp wi nt fr g tc) (gName i)) := by
  intro pins s σ H D I h
  rw [exec_Assign_Name_used _ _ _ _ hsw]
  refine wpAny_bind (wpAny_standAt (wpAny_bind ?_))
  show wpAny _ X.A (do let _ ← comprehension (.ListComp elt [⟨tg, iter, ifs, 0⟩] scope pos) scope X.env _ (newList []) false (eval iter X.env) (some (assign (.Name y py) X.env))) _ _ s
  refine wpAny_bind (wpAny_mono (comp_core (use := some (assign (.Name y py) X.env)) (Q := fun x H1 => D.nx (σ.set i (some x)) H1) (Q0 := fun _ s' => SP X pins D .next s') hc S hi hg ha I h (fun x hx hf => S.cells x hx hf) (fun Dd C s5 H1 fp hC _ hm hI q => ?_) hs) (fun _ s' hq => wpAny_pure (wpAny_pure hq)) fun _ _ e => e)
  obtain ⟨m, hm⟩ := hm
  have I5 : Inv X pins σ H1 s5 := hI s5.heap ⟨rfl, fun _ _ => rfl⟩
  show wpAny _ X.A (assign (.Name y py) X.env (.ref Dd)) _ _ _
  refine wpAny_assign_Name (store_ok2 I5 hN hy (.inl hl) (v := .ref Dd) rfl (fun s6 I6 hsb => ?_) (.inr hl))
  obtain ⟨a, hs6, ha6⟩ := hsb
  have hCa : C ≠ a := by
    rcases ha6 with e | e
    · rw [e]; exact fp.2.1
    · exact fun z => fp.2.2.2.2.1 _ _ e z.symm
  exact ⟨m, hm.sameBut hs6 hCa, fun h' hs' => ⟨_, H1, I6.turned (t' := s6.toks) (fun b o hb e => (hs'.2 b hb).trans e) fp.1 fp.2.1 fp.2.2.2.1 fp.2.2.2.2.1 fp.2.2.2.2.2, q⟩⟩
end

end L2
namespace L2
open PySem PySem.Spec PyProof.Rows

section
variable {prog : Program} {w : World} {A : Around} {E : Value → Shared → Prop} {s : Shared}
theorem nextOf_tuple_item {it t : Addr} {i : Nat} {items} {x : Value} {Q : Value → Shared → Prop} (hit : s.heap.IsTupleIter it t i)
    (ht : s.heap.IsTuple t items) (hx : items[i]? = some x)
    (hQ : ∀ h', h'.IsTupleIter it t (i + 1) → Heap.SameBut it s.heap h' → Q x { s with heap := h' }) :
    wpAny (model prog w) A (Builtin.SmallTypes.nextOf (.ref it)) Q E s := by
  obtain ⟨o, ho, hc, hd⟩ := id hit
  obtain ⟨ol, hol, _, nl, hdl⟩ := ht
  unfold Builtin.SmallTypes.nextOf
  refine wpAny_bind (wpAny_callSpecial?_slot (name := Str.ofString "__next__") hit.typeIs F.slot_tuple_iterator_next
    (wpAny_call_entry F.slot_tuple_iterator_next hit.typeIs F.entry_tuple_iterator_next ?_ (F.args_tuple_iterator_next_1 _)))
  show wpAny _ _ (field (.ref it) 0 >>= _) _ _ s
  refine wpAny_bind (wpAny_field ho hd (x := .ref t) rfl ?_)
  show wpAny _ _ (if (Value.ref t == Value.none) = true then _ else _) _ _ s
  rw [if_neg (show ¬ ((Value.ref t == Value.none) = true) from Bool.false_ne_true)]
  show wpAny _ _ (field (.ref it) 1 >>= _) _ _ s
  refine wpAny_bind (wpAny_field ho hd (x := .int i 0) rfl ?_)
  show wpAny _ _ (seqItems? (.ref t) >>= _) _ _ s
  refine wpAny_bind (wpAny_seqItems hol hdl ?_)
  simp only [Int.toNat_natCast, hx]
  refine wpAny_bind (wpAny_setField ho hd (by simp) (wpAny_pure ⟨x, rfl, wpAny_pure (hQ _ ?_ (Heap.SameBut.update ..))⟩))
  exact ⟨_, Heap.get?_update_self _ ho (Obj.isFreed_of_fields (Obj.data_mapFields hd _)), (Obj.cls_mapFields ..).trans hc, by
    rw [Obj.data_mapFields hd]; simp [rawInt]⟩
theorem nextOf_tuple_end {it t : Addr} {i : Nat} {items} {Q : Value → Shared → Prop} (hh : A.handled = none)
    (hit : s.heap.IsTupleIter it t i) (ht : s.heap.IsTuple t items) (hx : items[i]? = none)
    (hE : ∀ h' e, Heap.ExtBut it s.heap h' → (∃ o, h'.get? e = some o ∧ o.cls = .type "StopIteration") → E (.ref e) { s with heap := h' }) :
    wpAny (model prog w) A (Builtin.SmallTypes.nextOf (.ref it)) Q E s := by
  obtain ⟨o, ho, hc, hd⟩ := id hit
  obtain ⟨ol, hol, _, nl, hdl⟩ := ht
  unfold Builtin.SmallTypes.nextOf
  refine wpAny_bind (wpAny_callSpecial?_slot (name := Str.ofString "__next__") hit.typeIs F.slot_tuple_iterator_next
    (wpAny_call_entry F.slot_tuple_iterator_next hit.typeIs F.entry_tuple_iterator_next ?_ (F.args_tuple_iterator_next_1 _)))
  show wpAny _ _ (field (.ref it) 0 >>= _) _ _ s
  refine wpAny_bind (wpAny_field ho hd (x := .ref t) rfl ?_)
  show wpAny _ _ (if (Value.ref t == Value.none) = true then _ else _) _ _ s
  rw [if_neg (show ¬ ((Value.ref t == Value.none) = true) from Bool.false_ne_true)]
  show wpAny _ _ (field (.ref it) 1 >>= _) _ _ s
  refine wpAny_bind (wpAny_field ho hd (x := .int i 0) rfl ?_)
  show wpAny _ _ (seqItems? (.ref t) >>= _) _ _ s
  refine wpAny_bind (wpAny_seqItems hol hdl ?_)
  simp only [Int.toNat_natCast, hx]
  refine wpAny_bind (wpAny_rule (wpAny_bind (wpAny_setField ho hd (by simp) ?_)))
  show wpAny _ _ (newExc (.type "StopIteration") [] >>= _) _ _ _
  refine wpAny_bind ?_
  simp only [newExc, newTuple]
  refine wpAny_bind (wpAny_newObj_type ?_ (by size_fits))
  refine wpAny_bind (m := firstArgMember _ _) (wpAny_of_eq (a := Value.none) (by first | rfl | (simp only [firstArgMember]; rfl)) ?_)
  refine wpAny_newObj_type ?_ (by size_fits)
  simp only [raiseNew]
  refine wpAny_bind (wpAny_handled ?_)
  first | rw [show A.in1.handled = none from hh] | rw [hh]
  refine wpAny_bind (wpAny_pure (wpAny_throw ?_))
  exact hE _ _ (((Heap.SameBut.update ..).extBut.push _).push _) ⟨_, Heap.get?_push_size _ rfl, rfl⟩
end

/-! ### what zip walks: a list, a tuple, a text -/
inductive ZS where
  | lst (a : Addr) (xs : List V)
  | tup (a : Addr) (xs : List V)
  | str (z : Str)
def ZS.items : ZS → List V
  | .lst _ xs => xs
  | .tup _ xs => xs
  | .str z => z.cps.toList.map fun c => .str ⟨#[c]⟩
def ZS.val : ZS → V
  | .lst a _ => .ref a
  | .tup a _ => .ref a
  | .str z => .str z
def ZS.ok (K : PySem.W.Frag) (H : Hp) : ZS → Prop
  | .lst a xs => SqL K H a xs
  | .tup a xs => SqT K H a xs
  | .str _ => True

/-- a source and its iterator on the bare heap -/
structure Sub (prog : Program) (w : World) (A : Around) (i : Addr) (sl : List Addr) (src : Heap → Prop) (st : Nat → Heap → Prop) (vs : List V) : Prop where
  sfr : ∀ h h', src h → (∀ b ∈ sl, ∀ o, h.get? b = some o → h'.get? b = some o) → src h'
  ifr : ∀ k h h', st k h → (∀ o, h.get? i = some o → h'.get? i = some o) → st k h'
  item : ∀ (k : Nat) (s : Shared) (x : V) (Q : Value → Shared → Prop) (E : Value → Shared → Prop), vs[k]? = some x → src s.heap → st k s.heap →
    (∀ v h' tk, RelV x v → st (k + 1) h' → Heap.SameBut i s.heap h' → Q v { s with heap := h', toks := tk }) → wpAny (model prog w) A (Builtin.SmallTypes.nextOf (.ref i)) Q E s
  done : ∀ (k : Nat) (s : Shared) (Q : Value → Shared → Prop) (E : Value → Shared → Prop), vs.length ≤ k → src s.heap → st k s.heap →
    (∀ h' e, Heap.ExtBut i s.heap h' → (∃ o, h'.get? e = some o ∧ o.cls = .type "StopIteration") → E (.ref e) { s with heap := h' }) → wpAny (model prog w) A (Builtin.SmallTypes.nextOf (.ref i)) Q E s

theorem Sub.list {prog : Program} {w : World} {A : Around} (hh : A.handled = none) (i l : Addr) {xs : List V} {its : List Value} (r : Vals xs its) :
    Sub prog w A i [l] (fun h => h.IsList l its.toArray) (fun k h => h.IsListIter i l k) xs where
  sfr := fun h h' x k => x.at fun o e => k l (by simp) o e
  ifr := fun k h h' x f => x.at fun o e => f o e
  item := fun k s x Q E hx hs st hQ => by
    obtain ⟨u, hu, ru⟩ := r.get hx
    exact wpAny_nextOf_list_item st hs (x := u) (by simpa using hu) fun h' st' sb => hQ u h' s.toks ru st' sb
  done := fun k s Q E hk hs st hE => by
    have hl := r.length
    exact wpAny_nextOf_list_end hh st hs (by simp; omega) hE
theorem Sub.tuple {prog : Program} {w : World} {A : Around} (hh : A.handled = none) (i l : Addr) {xs : List V} {its : List Value} (r : Vals xs its) :
    Sub prog w A i [l] (fun h => h.IsTuple l its.toArray) (fun k h => h.IsTupleIter i l k) xs where
  sfr := fun h h' ⟨o, e, c⟩ k => ⟨o, k l (by simp) o e, c⟩
  ifr := fun k h h' ⟨o, e, c⟩ f => ⟨o, f o e, c⟩
  item := fun k s x Q E hx hs st hQ => by
    obtain ⟨u, hu, ru⟩ := r.get hx
    exact nextOf_tuple_item st hs (x := u) (by simpa using hu) fun h' st' sb => hQ u h' s.toks ru st' sb
  done := fun k s Q E hk hs st hE => by
    have hl := r.length
    exact nextOf_tuple_end hh st hs (by simp; omega) hE
theorem Sub.strs {prog : Program} {w : World} {A : Around} (hh : A.handled = none) (i : Addr) (z : Str) (t : Tok) :
    Sub prog w A i [] (fun _ => True) (fun k h => h.IsStrIter i (strIterType z) z t k) (z.cps.toList.map fun c => V.str ⟨#[c]⟩) where
  sfr := fun h h' x k => trivial
  ifr := fun k h h' ⟨o, e, c⟩ f => ⟨o, f o e, c⟩
  item := fun k s x Q E hx hs st hQ => by
    rw [List.getElem?_map] at hx
    cases e : z.cps.toList[k]? with
    | none => rw [e] at hx; cases hx
    | some c =>
      rw [e] at hx
      have hx' : V.str ⟨#[c]⟩ = x := Option.some.inj hx
      subst hx'
      have e' : z.cps[k]? = some c := by rw [← Array.getElem?_toList]; exact e
      unfold strIterType at st hQ
      split at st
      · rename_i ha
        rw [if_pos ha] at hQ
        exact wpAny_nextOf_ascii_item st e' fun h' st' sb => hQ _ h' _ ⟨_, rfl⟩ st' sb
      · rename_i ha
        rw [if_neg ha] at hQ
        exact wpAny_nextOf_wide_item st e' fun h' st' sb => hQ _ h' _ ⟨_, rfl⟩ st' sb
  done := fun k s Q E hk hs st hE => by
    have e' : z.cps[k]? = none := by
      rw [List.length_map, Array.length_toList] at hk
      exact Array.getElem?_eq_none hk
    unfold strIterType at st
    split at st
    · exact wpAny_nextOf_ascii_end hh st e' hE
    · exact wpAny_nextOf_wide_end hh st e' hE

structure ZApart (z TI TO i1 i2 : Addr) (sl1 sl2 : List Addr) : Prop where
  TIz : TI ≠ z
  TOz : TO ≠ z
  i1z : i1 ≠ z
  i2z : i2 ≠ z
  TITO : TI ≠ TO
  TIi1 : TI ≠ i1
  TIi2 : TI ≠ i2
  TOi1 : TO ≠ i1
  TOi2 : TO ≠ i2
  i12 : i1 ≠ i2
  s1 : ∀ b ∈ sl1, b ≠ z ∧ b ≠ TO ∧ b ≠ i1 ∧ b ≠ i2
  s2 : ∀ b ∈ sl2, b ≠ z ∧ b ≠ TO ∧ b ≠ i1 ∧ b ≠ i2

section
variable {prog : Program} {w : World} {A : Around} {E : Value → Shared → Prop} {s : Shared}
theorem zipG_item {z TI TO i1 i2 : Addr} {sl1 sl2 : List Addr} {src1 src2 : Heap → Prop} {st1 st2 : Nat → Heap → Prop} {xs ys : List V} {k : Nat} {x y : V} {a b : Value} {Q : Value → Shared → Prop} (D : ZApart z TI TO i1 i2 sl1 sl2)
    (S1 : Sub prog w A i1 sl1 src1 st1 xs) (S2 : Sub prog w A i2 sl2 src2 st2 ys)
    (hz : IsZip s.heap z TI TO .none) (hTI : IsPair s.heap TI (.ref i1) (.ref i2)) (hTO : IsPair s.heap TO a b)
    (h1 : st1 k s.heap) (h2 : st2 k s.heap) (hl1 : src1 s.heap) (hl2 : src2 s.heap) (hx : xs[k]? = some x) (hy : ys[k]? = some y)
    (hQ : ∀ u v h' tk, RelV x u → RelV y v → IsZip h' z TI TO (rawInt s.heap.objs.size) → IsPair h' TO u v → st1 (k + 1) h' → st2 (k + 1) h' → IsPair h' s.heap.objs.size u v → h'.objs.size = s.heap.objs.size + 1 →
      (∀ c o, c ≠ z → c ≠ TO → c ≠ i1 → c ≠ i2 → s.heap.get? c = some o → h'.get? c = some o) → Q (.ref s.heap.objs.size) { s with heap := h', toks := tk })
    (hi1 : i1 < s.heap.objs.size) (hi2 : i2 < s.heap.objs.size) :
    wpAny (model prog w) A (Builtin.«zip.__next__» ⟨[.ref z], []⟩) (fun fin s' => ∃ v, fin = .done (.ret v) ∧ Q v s') E s := by
  show wpAny _ _ (field (.ref z) 2 >>= _) _ _ _
  refine wpAny_bind (wpAny_field hz rfl (x := .bool false) rfl ?_)
  show wpAny _ _ (field (.ref z) 3 >>= _) _ _ _
  refine wpAny_bind (wpAny_field hz rfl (x := .ref TI) rfl ?_)
  refine wpAny_bind (wpAny_seqItems hTI rfl ?_)
  show wpAny _ _ (Builtin.SmallTypes.ownedTupleIsFree (.ref z) >>= _) _ _ _
  refine wpAny_bind ?_
  unfold Builtin.SmallTypes.ownedTupleIsFree
  refine wpAny_bind (wpAny_field hz rfl (x := .none) rfl (wpAny_pure ?_))
  simp only [if_true]
  refine wpAny_bind (wpAny_rule ?_)
  refine wpAny_bind (wpAny_field hz rfl (x := .ref TO) rfl ?_)
  refine wpAny_bind (wpAny_setField_rec hz (by simp) fun h₁ hz₁ hs₁ => ?_)
  replace hz₁ : IsZip h₁ z TI TO .ellipsis := hz₁
  refine wpAny_bind ?_
  simp only [List.zipIdx_cons, List.zipIdx_nil, List.forIn_cons, List.forIn_nil]
  refine wpAny_bind (wpAny_bind (wpAny_onRaise ?_))
  show wpAny _ _ (Builtin.SmallTypes.nextOf (.ref i1) >>= _) _ _ _
  refine wpAny_bind (S1.item k _ x _ _ hx (S1.sfr _ _ hl1 fun b hb o e => hs₁.extBut b o (D.s1 b hb).1 e) (S1.ifr _ _ _ h1 fun o e => hs₁.extBut _ o D.i1z e) fun u h₂ tk₂ ru h1₂ hs₂ => wpAny_pure ?_)
  have hs₂ : Heap.SameBut i1 h₁ h₂ := hs₂
  have hTO₂ : IsPair h₂ TO a b := hs₂.extBut _ _ D.TOi1 (hs₁.extBut _ _ D.TOz hTO)
  refine wpAny_bind (wpAny_seqItems hTO₂ rfl ?_)
  refine wpAny_bind (wpAny_updateSeq_pair hTO₂ fun h₃ hTO₃ hs₃ => ?_)
  replace hTO₃ : IsPair h₃ TO u b := hTO₃
  have hs₃ : Heap.SameBut TO h₂ h₃ := hs₃
  refine wpAny_bind (wpAny_letGo (wpAny_pure ?_))
  refine wpAny_bind (wpAny_bind (wpAny_onRaise ?_))
  show wpAny _ _ (Builtin.SmallTypes.nextOf (.ref i2) >>= _) _ _ _
  refine wpAny_bind (S2.item k _ y _ _ hy (S2.sfr _ _ hl2 fun b hb o e => hs₃.extBut b o (D.s2 b hb).2.1 (hs₂.extBut b o (D.s2 b hb).2.2.1 (hs₁.extBut b o (D.s2 b hb).1 e)))
    (S2.ifr _ _ _ h2 fun o e => hs₃.extBut _ o D.TOi2.symm (hs₂.extBut _ o D.i12.symm (hs₁.extBut _ o D.i2z e))) fun v h₄ tk₄ rv h2₄ hs₄ => wpAny_pure ?_)
  have hs₄ : Heap.SameBut i2 h₃ h₄ := hs₄
  have hTO₄ : IsPair h₄ TO u b := hs₄.extBut _ _ D.TOi2 hTO₃
  refine wpAny_bind (wpAny_seqItems hTO₄ rfl ?_)
  refine wpAny_bind (wpAny_updateSeq_pair hTO₄ fun h₅ hTO₅ hs₅ => ?_)
  replace hTO₅ : IsPair h₅ TO u v := hTO₅
  have hs₅ : Heap.SameBut TO h₄ h₅ := hs₅
  refine wpAny_bind (wpAny_letGo (wpAny_pure (wpAny_pure ?_)))
  refine wpAny_bind (wpAny_seqItems hTO₅ rfl ?_)
  refine wpAny_bind (wpAny_newTuple ?_)
  have hsz : h₅.objs.size = s.heap.objs.size := by rw [hs₅.1, hs₄.1, hs₃.1, hs₂.1, hs₁.1]
  have hz₅ : IsZip h₅ z TI TO .ellipsis := hs₅.extBut _ _ D.TOz.symm (hs₄.extBut _ _ D.i2z.symm (hs₃.extBut _ _ D.TOz.symm (hs₂.extBut _ _ D.i1z.symm hz₁)))
  have hk₅ : ∀ c o, c ≠ z → c ≠ TO → c ≠ i1 → c ≠ i2 → s.heap.get? c = some o → h₅.get? c = some o := fun c o c1 c2 c3 c4 e =>
    hs₅.extBut _ _ c2 (hs₄.extBut _ _ c4 (hs₃.extBut _ _ c2 (hs₂.extBut _ _ c3 (hs₁.extBut _ _ c1 e))))
  have h1₅ : st1 (k + 1) h₅ := S1.ifr _ _ _ h1₂ fun o e => hs₅.extBut _ o D.TOi1.symm (hs₄.extBut _ o D.i12 (hs₃.extBut _ o D.TOi1.symm e))
  have h2₅ : st2 (k + 1) h₅ := S2.ifr _ _ _ h2₄ fun o e => hs₅.extBut _ o D.TOi2.symm e
  have hzlt : z < h₅.objs.size := Heap.lt_size hz₅
  show wpAny _ _ (Builtin.SmallTypes.ownedTupleHandOut (.ref z) (.ref h₅.objs.size) >>= _) _ _ _
  refine wpAny_bind ?_
  unfold Builtin.SmallTypes.ownedTupleHandOut
  have hz₆ : IsZip (h₅.push { cls := .type "tuple", data := .seq #[u, v] }) z TI TO .ellipsis := Heap.get?_push_of_some _ hz₅
  refine wpAny_bind (wpAny_setField_rec hz₆ (by simp) fun h₇ hz₇ hs₇ => ?_)
  replace hz₇ : IsZip h₇ z TI TO (rawInt h₅.objs.size) := hz₇
  refine wpAny_setField_rec hz₇ (by simp) fun h₈ hz₈ hs₈ => ?_
  replace hz₈ : IsZip h₈ z TI TO (rawInt h₅.objs.size) := hz₈
  have up : ∀ c o, c ≠ z → h₅.get? c = some o → h₈.get? c = some o := fun c o c1 e => hs₈.extBut _ _ c1 (hs₇.extBut _ _ c1 (Heap.get?_push_of_some _ e))
  have hT₈ : IsPair h₈ h₅.objs.size u v := hs₈.extBut _ _ (Nat.ne_of_gt hzlt) (hs₇.extBut _ _ (Nat.ne_of_gt hzlt) (Heap.get?_push_size _ rfl))
  have hz8 : h₈.objs.size = h₅.objs.size + 1 := by rw [hs₈.1, hs₇.1, Heap.size_push]
  rw [hsz] at hz₈ hT₈ hz8
  refine wpAny_pure ⟨_, rfl, ?_⟩
  show Q (.ref h₅.objs.size) _
  rw [hsz]
  exact hQ u v h₈ _ ru rv hz₈ (up _ _ D.TOz hTO₅) (S1.ifr _ _ _ h1₅ fun o e => up _ o D.i1z e) (S2.ifr _ _ _ h2₅ fun o e => up _ o D.i2z e) hT₈ hz8 fun c o c1 c2 c3 c4 e => up c o c1 (hk₅ c o c1 c2 c3 c4 e)

theorem zipG_end {z TI TO i1 i2 : Addr} {sl1 sl2 : List Addr} {src1 src2 : Heap → Prop} {st1 st2 : Nat → Heap → Prop} {xs ys : List V} {k : Nat} {a b : Value} {Q : Fin → Shared → Prop} (D : ZApart z TI TO i1 i2 sl1 sl2)
    (S1 : Sub prog w A i1 sl1 src1 st1 xs) (S2 : Sub prog w A i2 sl2 src2 st2 ys)
    (hz : IsZip s.heap z TI TO .none) (hTI : IsPair s.heap TI (.ref i1) (.ref i2)) (hTO : IsPair s.heap TO a b)
    (h1 : st1 k s.heap) (h2 : st2 k s.heap) (hl1 : src1 s.heap) (hl2 : src2 s.heap) (hend : xs.length ≤ k ∨ ys.length ≤ k)
    (hE : ∀ h' tk e, (∀ c o, c ≠ z → c ≠ TO → c ≠ i1 → c ≠ i2 → s.heap.get? c = some o → h'.get? c = some o) → (∃ o, h'.get? e = some o ∧ o.cls = .type "StopIteration") → E (.ref e) { s with heap := h', toks := tk }) :
    wpAny (model prog w) A (Builtin.«zip.__next__» ⟨[.ref z], []⟩) Q E s := by
  show wpAny _ _ (field (.ref z) 2 >>= _) _ _ _
  refine wpAny_bind (wpAny_field hz rfl (x := .bool false) rfl ?_)
  show wpAny _ _ (field (.ref z) 3 >>= _) _ _ _
  refine wpAny_bind (wpAny_field hz rfl (x := .ref TI) rfl ?_)
  refine wpAny_bind (wpAny_seqItems hTI rfl ?_)
  show wpAny _ _ (Builtin.SmallTypes.ownedTupleIsFree (.ref z) >>= _) _ _ _
  refine wpAny_bind ?_
  unfold Builtin.SmallTypes.ownedTupleIsFree
  refine wpAny_bind (wpAny_field hz rfl (x := .none) rfl (wpAny_pure ?_))
  simp only [if_true]
  refine wpAny_bind (wpAny_rule ?_)
  refine wpAny_bind (wpAny_field hz rfl (x := .ref TO) rfl ?_)
  refine wpAny_bind (wpAny_setField_rec hz (by simp) fun h₁ hz₁ hs₁ => ?_)
  replace hz₁ : IsZip h₁ z TI TO .ellipsis := hz₁
  refine wpAny_bind ?_
  simp only [List.zipIdx_cons, List.zipIdx_nil, List.forIn_cons, List.forIn_nil]
  refine wpAny_bind (wpAny_bind (wpAny_onRaise ?_))
  show wpAny _ _ (Builtin.SmallTypes.nextOf (.ref i1) >>= _) _ _ _
  have l1 : src1 h₁ := S1.sfr _ _ hl1 fun b hb o e => hs₁.extBut b o (D.s1 b hb).1 e
  have t1 : st1 k h₁ := S1.ifr _ _ _ h1 fun o e => hs₁.extBut _ o D.i1z e
  by_cases hx : xs.length ≤ k
  · refine wpAny_bind (S1.done k _ _ _ hx l1 t1 fun h₂ e hs₂ he => ?_)
    have hs₂ : Heap.ExtBut i1 h₁ h₂ := hs₂
    obtain ⟨oe, hoe, hce⟩ := he
    have hz₂ : IsZip h₂ z TI TO .ellipsis := hs₂ _ _ D.i1z.symm hz₁
    have hez : e ≠ z := fun x => by subst x; rw [hz₂] at hoe; cases hoe; simp at hce
    refine wpAny_setField_rec hz₂ (by simp) fun h₃ _ hs₃ => hE h₃ _ e (fun c o c1 _ c3 _ x => hs₃.extBut _ _ c1 (hs₂ _ _ c3 (hs₁.extBut _ _ c1 x))) ⟨oe, hs₃.extBut _ _ hez hoe, hce⟩
  · have hy : ys.length ≤ k := by rcases hend with h | h; exact absurd h hx; exact h
    obtain ⟨x, hx'⟩ : ∃ x, xs[k]? = some x := ⟨_, List.getElem?_eq_getElem (Nat.lt_of_not_le hx)⟩
    refine wpAny_bind (S1.item k _ x _ _ hx' l1 t1 fun u h₂ tk₂ ru h1₂ hs₂ => wpAny_pure ?_)
    have hs₂ : Heap.SameBut i1 h₁ h₂ := hs₂
    have hTO₂ : IsPair h₂ TO a b := hs₂.extBut _ _ D.TOi1 (hs₁.extBut _ _ D.TOz hTO)
    refine wpAny_bind (wpAny_seqItems hTO₂ rfl ?_)
    refine wpAny_bind (wpAny_updateSeq_pair hTO₂ fun h₃ hTO₃ hs₃ => ?_)
    have hs₃ : Heap.SameBut TO h₂ h₃ := hs₃
    refine wpAny_bind (wpAny_letGo (wpAny_pure ?_))
    refine wpAny_bind (wpAny_bind (wpAny_onRaise ?_))
    show wpAny _ _ (Builtin.SmallTypes.nextOf (.ref i2) >>= _) _ _ _
    refine wpAny_bind (S2.done k _ _ _ hy (S2.sfr _ _ hl2 fun b hb o e => hs₃.extBut b o (D.s2 b hb).2.1 (hs₂.extBut b o (D.s2 b hb).2.2.1 (hs₁.extBut b o (D.s2 b hb).1 e)))
      (S2.ifr _ _ _ h2 fun o e => hs₃.extBut _ o D.TOi2.symm (hs₂.extBut _ o D.i12.symm (hs₁.extBut _ o D.i2z e))) fun h₄ e hs₄ he => ?_)
    have hs₄ : Heap.ExtBut i2 h₃ h₄ := hs₄
    obtain ⟨oe, hoe, hce⟩ := he
    have hz₄ : IsZip h₄ z TI TO .ellipsis := hs₄ _ _ D.i2z.symm (hs₃.extBut _ _ D.TOz.symm (hs₂.extBut _ _ D.i1z.symm hz₁))
    have hez : e ≠ z := fun x => by subst x; rw [hz₄] at hoe; cases hoe; simp at hce
    refine wpAny_setField_rec hz₄ (by simp) fun h₅ _ hs₅ => hE h₅ _ e (fun c o c1 c2 c3 c4 x => hs₅.extBut _ _ c1 (hs₄ _ _ c4 (hs₃.extBut _ _ c2 (hs₂.extBut _ _ c3 (hs₁.extBut _ _ c1 x))))) ⟨oe, hs₅.extBut _ _ hez hoe, hce⟩

theorem nextG_item {z TI TO i1 i2 : Addr} {sl1 sl2 : List Addr} {src1 src2 : Heap → Prop} {st1 st2 : Nat → Heap → Prop} {xs ys : List V} {k : Nat} {x y : V} {a b : Value} {Q : Option Value → Shared → Prop} (D : ZApart z TI TO i1 i2 sl1 sl2)
    (S1 : Sub prog w A.in1 i1 sl1 src1 st1 xs) (S2 : Sub prog w A.in1 i2 sl2 src2 st2 ys)
    (hz : IsZip s.heap z TI TO .none) (hTI : IsPair s.heap TI (.ref i1) (.ref i2)) (hTO : IsPair s.heap TO a b)
    (h1 : st1 k s.heap) (h2 : st2 k s.heap) (hl1 : src1 s.heap) (hl2 : src2 s.heap) (hx : xs[k]? = some x) (hy : ys[k]? = some y)
    (hQ : ∀ u v h' tk, RelV x u → RelV y v → IsZip h' z TI TO (rawInt s.heap.objs.size) → IsPair h' TO u v → st1 (k + 1) h' → st2 (k + 1) h' → IsPair h' s.heap.objs.size u v → h'.objs.size = s.heap.objs.size + 1 →
      (∀ c o, c ≠ z → c ≠ TO → c ≠ i1 → c ≠ i2 → s.heap.get? c = some o → h'.get? c = some o) → Q (some (.ref s.heap.objs.size)) { s with heap := h', toks := tk })
    (hi1 : i1 < s.heap.objs.size) (hi2 : i2 < s.heap.objs.size) :
    wpAny (model prog w) A (pyNext (.ref z)) Q E s := by
  have hT : s.TypeIs (.ref z) "zip" := ⟨_, hz, rfl⟩
  unfold pyNext
  exact wpAny_bind (wpAny_attempt (wpAny_callSpecial?_slot (name := Str.ofString "__next__") hT F.slot_zip_next
    (wpAny_call_entry F.slot_zip_next hT F.entry_zip_next
      (zipG_item D S1 S2 hz hTI hTO h1 h2 hl1 hl2 hx hy (fun u v h' tk r1 r2 a1 a2 a3 a4 a5 a6 a7 => wpAny_pure (hQ u v h' tk r1 r2 a1 a2 a3 a4 a5 a6 a7)) hi1 hi2) (F.args_zip_next_1 _))))
theorem nextG_end {z TI TO i1 i2 : Addr} {sl1 sl2 : List Addr} {src1 src2 : Heap → Prop} {st1 st2 : Nat → Heap → Prop} {xs ys : List V} {k : Nat} {a b : Value} {Q : Option Value → Shared → Prop} (D : ZApart z TI TO i1 i2 sl1 sl2)
    (S1 : Sub prog w A.in1 i1 sl1 src1 st1 xs) (S2 : Sub prog w A.in1 i2 sl2 src2 st2 ys)
    (hz : IsZip s.heap z TI TO .none) (hTI : IsPair s.heap TI (.ref i1) (.ref i2)) (hTO : IsPair s.heap TO a b)
    (h1 : st1 k s.heap) (h2 : st2 k s.heap) (hl1 : src1 s.heap) (hl2 : src2 s.heap) (hend : xs.length ≤ k ∨ ys.length ≤ k)
    (hQ : ∀ h' tk, (∀ c o, c ≠ z → c ≠ TO → c ≠ i1 → c ≠ i2 → s.heap.get? c = some o → h'.get? c = some o) → Q none { s with heap := h', toks := tk }) : wpAny (model prog w) A (pyNext (.ref z)) Q E s := by
  have hT : s.TypeIs (.ref z) "zip" := ⟨_, hz, rfl⟩
  unfold pyNext
  refine wpAny_bind (wpAny_attempt (wpAny_callSpecial?_slot (name := Str.ofString "__next__") hT F.slot_zip_next
    (wpAny_call_entry F.slot_zip_next hT F.entry_zip_next (zipG_end D S1 S2 hz hTI hTO h1 h2 hl1 hl2 hend fun h' tk e hk he => ?_) (F.args_zip_next_1 _))))
  obtain ⟨o, ho, hc⟩ := he
  refine wpAny_bind (wpAny_isInstance (T := "StopIteration") (b := true) ⟨o, ho, hc⟩ isSubtype_stop ?_)
  exact wpAny_pure (hQ _ _ hk)
end
end L2
namespace L2
open PySem PySem.Spec PyProof.Rows

/-- the pairs of two sources -/
def Itz (K : PySem.W.Frag) (a b : ZS) : It :=
  ⟨fun i H => a.ok K H ∧ b.ok K H ∧ i < a.items.length ∧ i < b.items.length,
   fun i H v H' => ∃ T x y, a.items[i]? = some x ∧ b.items[i]? = some y ∧ H T = none ∧ v = .ref T ∧ H' = upd H T (.tup [x, y]),
   fun i H => a.ok K H ∧ b.ok K H ∧ (a.items.length ≤ i ∨ b.items.length ≤ i)⟩

/-- the iterator's record of a source -/
def ZS.rcd : ZS → Value → Obj
  | .lst _ _, v => { cls := .type "list_iterator", data := .fields #[v, .int 0 0] }
  | .tup _ _, v => { cls := .type "tuple_iterator", data := .fields #[v, .int 0 0] }
  | .str z, v => { cls := .type (strIterType z), data := .fields #[v, .int 0 0] }
def ZS.st (a : ZS) (v : Value) (i : Addr) (k : Nat) (h : Heap) : Prop := match a, v with
  | .lst l _, _ => h.IsListIter i l k
  | .tup l _, _ => h.IsTupleIter i l k
  | .str z, .str _ t => h.IsStrIter i (strIterType z) z t k
  | .str _, _ => False
def ZS.sl : ZS → List Addr
  | .lst l _ => [l]
  | .tup l _ => [l]
  | .str _ => []
theorem ZS.st_obj {a : ZS} {v : Value} {i : Addr} {k : Nat} {h : Heap} (x : a.st v i k h) : ∃ o, h.get? i = some o ∧ ∀ c, o.data ≠ .cell c := by
  cases a with
  | lst l xs => obtain ⟨o, e, c, d⟩ := (show h.IsListIter i l k from x); exact ⟨o, e, fun v z => by rw [d] at z; cases z⟩
  | tup l xs => obtain ⟨o, e, c, d⟩ := (show h.IsTupleIter i l k from x); exact ⟨o, e, fun v z => by rw [d] at z; cases z⟩
  | str z =>
    cases v with
    | str y t => obtain ⟨o, e, c, d⟩ := (show h.IsStrIter i (strIterType z) z t k from x); exact ⟨o, e, fun v z => by rw [d] at z; cases z⟩
    | _ => exact False.elim x
theorem ZS.st_keep {a : ZS} {v : Value} {i : Addr} {k : Nat} {h h' : Heap} (x : a.st v i k h) (f : ∀ o, h.get? i = some o → h'.get? i = some o) : a.st v i k h' := by
  cases a with
  | lst l xs => obtain ⟨o, e, c⟩ := (show h.IsListIter i l k from x); exact ⟨o, f o e, c⟩
  | tup l xs => obtain ⟨o, e, c⟩ := (show h.IsTupleIter i l k from x); exact ⟨o, f o e, c⟩
  | str z =>
    cases v with
    | str y t => obtain ⟨o, e, c⟩ := (show h.IsStrIter i (strIterType z) z t k from x); exact ⟨o, f o e, c⟩
    | _ => exact False.elim x

section
variable {X : Cx} {pins : List (Addr × Obj)} {σ : St} {H : Hp} {s : Shared}
/-- from the abstract heap: the source on the bare heap -/
theorem ZS.sub (a : ZS) {v : Value} (I : Inv X pins σ H s) (ok : a.ok X.K H) (rv : RelV a.val v) (A : Around) (hh : A.handled = none) (i : Addr) :
    ∃ src : Heap → Prop, src s.heap ∧ Sub X.prog X.w A i a.sl src (a.st v i) a.items ∧ (∀ b ∈ a.sl, ∃ o, s.heap.get? b = some o ∧ (H b ≠ none ∨ X.base.get? b = some o)) := by
  cases a with
  | lst l xs =>
    have ok : SqL X.K H l xs := ok
    obtain ⟨its, r, p, hz⟩ := I.list ok
    refine ⟨_, p.isList, Sub.list hh i l r, fun b hb => ?_⟩
    have e : b = l := by simpa [ZS.sl] using hb
    subst e
    rcases ok with (h | ⟨o, h⟩) | ⟨o, its', n, hk, _⟩
    · obtain ⟨_, _, _, _, e⟩ := I.hok _ _ h
      exact ⟨_, e, .inl (by rw [h]; simp)⟩
    · obtain ⟨e, _⟩ := I.hok _ _ h
      exact ⟨_, e, .inl (by rw [h]; simp)⟩
    · exact ⟨o, I.kIn _ _ hk, .inr (I.ok.mod.kin _ _ hk)⟩
  | tup l xs =>
    have ok : SqT X.K H l xs := ok
    obtain ⟨its, r, p, hz⟩ := I.tuple ok
    refine ⟨_, p, Sub.tuple hh i l r, fun b hb => ?_⟩
    have e : b = l := by simpa [ZS.sl] using hb
    subst e
    rcases ok with (h | ⟨o, h⟩) | ⟨o, its', n, hk, _⟩
    · obtain ⟨_, _, _, o, e, _⟩ := I.hok _ _ h
      exact ⟨_, e, .inl (by rw [h]; simp)⟩
    · obtain ⟨e, _⟩ := I.hok _ _ h
      exact ⟨_, e, .inl (by rw [h]; simp)⟩
    · exact ⟨o, I.kIn _ _ hk, .inr (I.ok.mod.kin _ _ hk)⟩
  | str z =>
    obtain ⟨t, rfl⟩ := rv
    exact ⟨_, trivial, Sub.strs hh i z t, fun b hb => by simp [ZS.sl] at hb⟩
end

/-- no source stands among the iterator's own records -/
theorem zs_apart {X : Cx} {pins : List (Addr × Obj)} {σ : St} {H : Hp} {s : Shared} {a : ZS} {b : Addr} (I : Inv X pins σ H s) (f : FpOk X pins H b) (h : ∀ c ∈ a.sl, ∃ o, s.heap.get? c = some o ∧ (H c ≠ none ∨ X.base.get? c = some o)) : ∀ c ∈ a.sl, c ≠ b := by
  intro c hc e
  subst e
  obtain ⟨o, _, q⟩ := h c hc
  rcases q with q | q
  · exact q f.1
  · rcases f.2.2.2.1 with z | z
    · exact I.ok.noex c o q z
    · exact absurd (Nat.lt_of_lt_of_le (Heap.lt_size q) (Nat.le_trans I.ok.bsz z)) (Nat.lt_irrefl _)

structure ZRec (z TI TO i1 i2 : Addr) : Prop where
  TIz : TI ≠ z
  TOz : TO ≠ z
  i1z : i1 ≠ z
  i2z : i2 ≠ z
  TITO : TI ≠ TO
  TIi1 : TI ≠ i1
  TIi2 : TI ≠ i2
  TOi1 : TO ≠ i1
  TOi2 : TO ≠ i2
  i12 : i1 ≠ i2

/-- several untracked records of ours have turned -/
theorem Inv.turnedL {X : Cx} {pins : List (Addr × Obj)} {σ : St} {H : Hp} {s : Shared} {h' : Heap} {t' : Nat} {fp : List Addr} (I : Inv X pins σ H s) (k : ∀ b o, b ∉ fp → s.heap.get? b = some o → h'.get? b = some o) (f : ∀ b ∈ fp, FpOk X pins H b)
    : Inv X pins σ H { s with heap := h', toks := t' } := by
  have nit : ∀ b u, H b = some u → b ∉ fp := fun b u e z => by rw [(f b z).1] at e; cases e
  refine I.step (g' := s.gens) (d' := s.drawn) (ch := fp) (fun b hb => ?_) (fun b o _ _ hc e _ => k b o hc e) (fun b o _ _ hc e _ => ⟨o.slots, k b o hc e⟩) (fun _ _ _ _ n => n)
    (fun b o hc e => ⟨o, k b o hc e⟩) (fun _ _ e => e) (fun _ _ _ e => e) (fun b ps e => ⟨#[], by rw [e]; simp⟩) (fun m hm => ?_) (fun b u e => ?_) I.bare
  · obtain ⟨f0, f1, f2, f3, f4, f5⟩ := f b hb
    exact ⟨f3, f1, f4, f5⟩
  · obtain ⟨o, es, ep, ho, r⟩ := hm
    exact ⟨o, es, ep, k _ o (fun z => (f _ z).2.1 rfl) ho, r⟩
  · refine (I.hok b u e).stay (fun c v hc q => k c v ?_ q) (fun _ q => q) fun _ _ q => q
    rcases hc with z | z
    · rw [z]; exact nit b u e
    · exact nit c _ z

theorem turn_zip {P : Program} {w : World} {K : PySem.W.Frag} {es : List Expr} {x1} {pos : Pos} (a b : ZS) (va vb : Value) (ra : RelV a.val va) (rb : RelV b.val vb) (z TI TO i1 i2 : Addr) (R : ZRec z TI TO i1 i2) :
    Turn P w K (.Tuple es x1 pos) (Itz K a b) [z, TI, TO, i1, i2] z
      (fun i h => IsZip h z TI TO .none ∧ IsPair h TI (.ref i1) (.ref i2) ∧ (∃ p q, IsPair h TO p q) ∧ a.st va i1 i h ∧ b.st vb i2 i h) where
  mem := by simp
  obj := fun i h ⟨h1, h2, ⟨p, q, h3⟩, h4, h5⟩ c hc => by
    simp only [List.mem_cons, List.not_mem_nil, or_false] at hc
    rcases hc with rfl | rfl | rfl | rfl | rfl
    · exact ⟨_, h1, fun v z => by cases z⟩
    · exact ⟨_, h2, fun v z => by cases z⟩
    · exact ⟨_, h3, fun v z => by cases z⟩
    · exact ZS.st_obj h4
    · exact ZS.st_obj h5
  keep := fun i h h' ⟨h1, h2, ⟨p, q, h3⟩, h4, h5⟩ k =>
    ⟨k z (by simp) _ h1, k TI (by simp) _ h2, ⟨p, q, k TO (by simp) _ h3⟩, ZS.st_keep h4 (fun o e => k i1 (by simp) o e), ZS.st_keep h5 (fun o e => k i2 (by simp) o e)⟩
  item := by
    intro X hP hw hK hc i pins s σ H E I hf ⟨h1, h2, ⟨p, q, h3⟩, h4, h5⟩ hg
    subst hP hw hK
    obtain ⟨oka, okb, la, lb⟩ := hg
    have hh : X.A.in1.handled = none := I.ok.hd hc
    obtain ⟨src1, hs1, S1, ap1⟩ := a.sub I oka ra X.A.in1 hh i1
    obtain ⟨src2, hs2, S2, ap2⟩ := b.sub I okb rb X.A.in1 hh i2
    obtain ⟨x, hx⟩ : ∃ x, a.items[i]? = some x := ⟨_, List.getElem?_eq_getElem la⟩
    obtain ⟨y, hy⟩ : ∃ y, b.items[i]? = some y := ⟨_, List.getElem?_eq_getElem lb⟩
    have D : ZApart z TI TO i1 i2 a.sl b.sl := ⟨R.TIz, R.TOz, R.i1z, R.i2z, R.TITO, R.TIi1, R.TIi2, R.TOi1, R.TOi2, R.i12,
      fun c hc => ⟨zs_apart I (hf z (by simp)) ap1 c hc, zs_apart I (hf TO (by simp)) ap1 c hc, zs_apart I (hf i1 (by simp)) ap1 c hc, zs_apart I (hf i2 (by simp)) ap1 c hc⟩,
      fun c hc => ⟨zs_apart I (hf z (by simp)) ap2 c hc, zs_apart I (hf TO (by simp)) ap2 c hc, zs_apart I (hf i1 (by simp)) ap2 c hc, zs_apart I (hf i2 (by simp)) ap2 c hc⟩⟩
    have fl : ∀ c ∈ ([z, TI, TO, i1, i2] : List Addr), c < s.heap.objs.size := fun c hc => by
      simp only [List.mem_cons, List.not_mem_nil, or_false] at hc
      rcases hc with rfl | rfl | rfl | rfl | rfl
      · exact Heap.lt_size h1
      · exact Heap.lt_size h2
      · exact Heap.lt_size h3
      · obtain ⟨o, e, _⟩ := ZS.st_obj h4; exact Heap.lt_size e
      · obtain ⟨o, e, _⟩ := ZS.st_obj h5; exact Heap.lt_size e
    refine nextG_item D S1 S2 h1 h2 h3 h4 h5 hs1 hs2 hx hy (fun u v h' tk ru rv hz' hTO' st1' st2' hT hsz hk => ?_) (fl i1 (by simp)) (fl i2 (by simp))
    refine ⟨.ref s.heap.objs.size, rfl, ?_⟩
    refine wpAny_letOwnedTupleGo_zip hz' fun h'' hz'' hs'' => ?_
    have hs'' : Heap.SameBut z h' h'' := hs''
    have k1 : ∀ c o, c ∉ ([z, TI, TO, i1, i2] : List Addr) → s.heap.get? c = some o → h''.get? c = some o := fun c o hc e => by
      simp only [List.mem_cons, List.not_mem_nil, or_false, not_or] at hc
      exact hs''.extBut _ _ hc.1 (hk c o hc.1 hc.2.2.1 hc.2.2.2.1 hc.2.2.2.2 e)
    have hn : H s.heap.objs.size = none := I.hok.fresh (Nat.le_refl _)
    have I1 : Inv X pins σ H { s with heap := h'', toks := tk } := I.turnedL k1 hf
    have nez : s.heap.objs.size ≠ z := Nat.ne_of_gt (fl z (by simp))
    have hT'' : IsPair h'' s.heap.objs.size u v := hs''.extBut _ _ nez hT
    have I2 : Inv X pins σ (upd H s.heap.objs.size (.tup [x, y])) { s with heap := h'', toks := tk } := by
      refine I.step (g' := s.gens) (d' := s.drawn) (ch := [z, TI, TO, i1, i2]) (fun b hb => ?_) (fun b o _ _ hc e _ => k1 b o hc e) (fun b o _ _ hc e _ => ⟨o.slots, k1 b o hc e⟩) (fun b o hc e n => ?_)
        (fun b o hc e => ⟨o, k1 b o hc e⟩) (fun b ys e => ?_) (fun b o u e => ?_) (fun b ps e => ⟨#[], ?_⟩) (fun m hm => ?_) (fun b o e => ?_) I.bare
      · obtain ⟨f0, f1, f2, f3, f4, f5⟩ := hf b hb
        exact ⟨f3, f1, f4, f5⟩
      · rw [upd_ne (Nat.ne_of_lt (Heap.lt_size e))]; exact n
      · rw [upd_ne (ne_of_none e hn)]; exact e
      · rw [upd_ne (ne_of_none e hn)]; exact e
      · rw [upd_ne (ne_of_none e hn), e]; simp
      · obtain ⟨o, es', ep, ho, r⟩ := hm
        exact ⟨o, es', ep, k1 _ o (fun z => (hf _ z).2.1 rfl) ho, r⟩
      · by_cases hb : b = s.heap.objs.size
        · subst hb
          rw [upd_same] at e
          cases e
          exact ⟨(by show 2 ≤ sizeLine; decide), [u, v], .cons ru (.cons rv .nil), ⟨_, hT'', rfl, _, rfl⟩⟩
        · rw [upd_ne hb] at e
          refine (I1.hok b o e).stay (fun c v hc q => q) (fun c q => by rw [upd_ne (ne_of_none q hn)]; exact q) fun c ys q => by rw [upd_ne (ne_of_none q hn)]; exact q
    refine ⟨.ref s.heap.objs.size, _, I2, rfl, ⟨_, x, y, hx, hy, hn, rfl, rfl⟩, ⟨hz'', ?_, ⟨u, v, hs''.extBut _ _ R.TOz hTO'⟩, ZS.st_keep st1' (fun o e => hs''.extBut _ _ R.i1z e), ZS.st_keep st2' (fun o e => hs''.extBut _ _ R.i2z e)⟩, fun c hc => ?_⟩
    · exact hs''.extBut _ _ R.TIz (hk _ _ R.TIz R.TITO R.TIi1 R.TIi2 h2)
    · rw [upd_ne (Nat.ne_of_lt (fl c hc))]; exact (hf c hc).1
  done := by
    intro X hP hw hK hc i pins s σ H E I hf ⟨h1, h2, ⟨p, q, h3⟩, h4, h5⟩ hg
    subst hP hw hK
    obtain ⟨oka, okb, hend⟩ := hg
    have hh : X.A.in1.handled = none := I.ok.hd hc
    obtain ⟨src1, hs1, S1, ap1⟩ := a.sub I oka ra X.A.in1 hh i1
    obtain ⟨src2, hs2, S2, ap2⟩ := b.sub I okb rb X.A.in1 hh i2
    have D : ZApart z TI TO i1 i2 a.sl b.sl := ⟨R.TIz, R.TOz, R.i1z, R.i2z, R.TITO, R.TIi1, R.TIi2, R.TOi1, R.TOi2, R.i12,
      fun c hc => ⟨zs_apart I (hf z (by simp)) ap1 c hc, zs_apart I (hf TO (by simp)) ap1 c hc, zs_apart I (hf i1 (by simp)) ap1 c hc, zs_apart I (hf i2 (by simp)) ap1 c hc⟩,
      fun c hc => ⟨zs_apart I (hf z (by simp)) ap2 c hc, zs_apart I (hf TO (by simp)) ap2 c hc, zs_apart I (hf i1 (by simp)) ap2 c hc, zs_apart I (hf i2 (by simp)) ap2 c hc⟩⟩
    refine nextG_end D S1 S2 h1 h2 h3 h4 h5 hs1 hs2 hend fun h' tk hk => ⟨rfl, I.turnedL (fun c o hc e => ?_) hf⟩
    simp only [List.mem_cons, List.not_mem_nil, or_false, not_or] at hc
    exact hk c o hc.1 hc.2.2.1 hc.2.2.2.1 hc.2.2.2.2 e
  self := fun _ _ _ _ _ ⟨h1, _⟩ h => wpAny_pyIter_zip h1 h

/-! ### zip(a, b) -/
theorem meets_zip_newG (v1 v2 : Value) (o1 o2 : Obj) (src1 src2 : Heap → Prop) (fr2 : ∀ h o, src2 h → src2 (h.push o))
    (p1 : ∀ (prog : Program) (w : World) (A : Around) (E : Value → Shared → Prop) (s : Shared) (Q : Value → Shared → Prop), src1 s.heap → Q (.ref s.heap.objs.size) { s with heap := s.heap.push o1 } → wpAny (model prog w) A (pyIter v1) Q E s)
    (p2 : ∀ (prog : Program) (w : World) (A : Around) (E : Value → Shared → Prop) (s : Shared) (Q : Value → Shared → Prop), src2 s.heap → Q (.ref s.heap.objs.size) { s with heap := s.heap.push o2 } → wpAny (model prog w) A (pyIter v2) Q E s) :
    Meets (Builtin.«zip.__new__» ⟨[.type "zip", v1, v2], []⟩) (fun _ R s => src1 s.heap ∧ src2 s.heap ∧
      R (.ok (.ret (.ref ((((s.heap.push o1).push o2).push { cls := .type "tuple", data := .seq #[.ref s.heap.objs.size, .ref (s.heap.push o1).objs.size] }).push { cls := .type "tuple", data := .seq #[.none, .none] }).objs.size)))
        { s with heap := ((((s.heap.push o1).push o2).push { cls := .type "tuple", data := .seq #[.ref s.heap.objs.size, .ref (s.heap.push o1).objs.size] }).push { cls := .type "tuple", data := .seq #[.none, .none] }).push { cls := .type "zip", data := .fields #[.none, .bool false, .bool false, .ref ((s.heap.push o1).push o2).objs.size, .ref (((s.heap.push o1).push o2).push { cls := .type "tuple", data := .seq #[.ref s.heap.objs.size, .ref (s.heap.push o1).objs.size] }).objs.size] } }) :=
  .of_wp fun prog w A R s h => by
    obtain ⟨hp, g, d, tk, os⟩ := s; obtain ⟨hl1, hl2, h⟩ := h
    have hsub := sub_zip
    have q1 : ∀ {A : Around} {E : Value → Shared → Prop} {Q : Value → Shared → Prop}, Q (.ref hp.objs.size) ⟨hp.push o1, g, d, tk, os⟩ → wpAny (model prog w) A (pyIter v1) Q E ⟨hp, g, d, tk, os⟩ := fun hQ => p1 _ _ _ _ ⟨hp, g, d, tk, os⟩ _ hl1 hQ
    have q2 : ∀ {A : Around} {E : Value → Shared → Prop} {Q : Value → Shared → Prop}, Q (.ref (hp.push o1).objs.size) ⟨(hp.push o1).push o2, g, d, tk, os⟩ → wpAny (model prog w) A (pyIter v2) Q E ⟨hp.push o1, g, d, tk, os⟩ := fun hQ => p2 _ _ _ _ ⟨hp.push o1, g, d, tk, os⟩ _ (fr2 _ _ hl2) hQ
    wp_walk using q1, q2
    exact ⟨_, rfl, h⟩
end L2

namespace L2
open PySem PySem.Spec PyProof.Rows
theorem boot_zip : bootBuiltins "zip" = some (.type "zip") := by decide +kernel
section
variable {X : Cx}
/-- a source's pyIter pushes its record -/
theorem ZS.iter (a : ZS) {v : Value} {pins : List (Addr × Obj)} {σ : St} {H : Hp} {s : Shared} (I : Inv X pins σ H s) (ok : a.ok X.K H) (rv : RelV a.val v) :
    ∃ src : Heap → Prop, src s.heap ∧ (∀ h o, src h → src (h.push o)) ∧
      ∀ (prog : Program) (w : World) (A : Around) (E : Value → Shared → Prop) (s : Shared) (Q : Value → Shared → Prop), src s.heap → Q (.ref s.heap.objs.size) { s with heap := s.heap.push (a.rcd v) } → wpAny (model prog w) A (pyIter v) Q E s := by
  cases a with
  | lst l xs =>
    obtain ⟨its, r, p, hz⟩ := I.list (show SqL X.K H l xs from ok)
    cases rv
    exact ⟨fun h => h.IsList l its.toArray, p.isList, fun h o x => x.push o, fun prog w A E s Q h q => wpAny_pyIter_list h q⟩
  | tup l xs =>
    obtain ⟨its, r, p, hz⟩ := I.tuple (show SqT X.K H l xs from ok)
    cases rv
    exact ⟨fun h => h.IsTuple l its.toArray, p, fun h o x => x.push o, fun prog w A E s Q h q => wpAny_pyIter_tuple h q⟩
  | str z =>
    obtain ⟨t, rfl⟩ := rv
    exact ⟨fun _ => True, trivial, fun _ _ _ => trivial, fun prog w A E s Q _ q => wpAny_pyIter_strU q⟩
theorem ZS.st0 (a : ZS) {v : Value} (rv : RelV a.val v) {h : Heap} {i : Addr} (e : h.get? i = some (a.rcd v)) : a.st v i 0 h := by
  cases a with
  | lst l xs => cases rv; exact ⟨_, e, rfl, rfl⟩
  | tup l xs => cases rv; exact ⟨_, e, rfl, rfl⟩
  | str z => obtain ⟨t, rfl⟩ := rv; exact ⟨_, e, rfl, rfl⟩
theorem rcd_live (a : ZS) (v : Value) : (a.rcd v).isFreed = false := by cases a <;> rfl

def iZip (K : PySem.W.Frag) (ta : TA) : TI := fun σ H R => ta σ H fun vs H1 => ∃ a b : ZS, vs = [a.val, b.val] ∧ a.ok K H1 ∧ b.ok K H1 ∧ R (Itz K a b) H1
theorem pi_zip {es : List Expr} {x1} {tpos : Pos} {a b : Expr} {ta : TA} {p pos : Pos} (hg : Gl X "zip") (hm : X.mg "zip" = none) (ha : PA X [a, b] ta) (hs : starEach [a, b] X.env = [(false, eval a X.env), (false, eval b X.env)] := by rfl) (hs2 : starEach [b] X.env = [(false, eval b X.env)] := by rfl) :
    PI X (.Tuple es x1 tpos) (.Call (.Name "zip" p) [a, b] [] pos) (iZip X.K ta) := by
  intro pins s σ H R I h
  refine Call_ (ld_blt I hg hm boot_zip (PyProof.Rows.callWith_type1 (thn (ha pos pins s σ H _ I h) fun us s1 ⟨vs, H1, I1, r1, q1⟩ => ?_) (by rw [hs, hs2]) (by rw [hs2]; rfl)))
  obtain ⟨za, zb, e, oka, okb, q⟩ := q1
  subst e
  obtain ⟨ua, ub, rfl, ra, rb⟩ := r1.two
  obtain ⟨src1, h1, _, p1⟩ := za.iter I1 oka ra
  obtain ⟨src2, h2, fr2, p2⟩ := zb.iter I1 okb rb
  refine callType_new F.called_zip (by decide) (F.typeCall_zip_2 _ _) (F.newCall_zip_2 _ _) (fun obj => F.args_object_init_3 obj _ _) F.entry_zip_new
    (meets_zip_newG ua ub (za.rcd ua) (zb.rcd ub) src1 src2 fr2 p1 p2) ⟨h1, h2, ?_⟩
  generalize hA : s1.heap.push (za.rcd ua) = A1
  generalize hB : A1.push (zb.rcd ub) = A2
  generalize hC : A2.push { cls := .type "tuple", data := .seq #[.ref s1.heap.objs.size, .ref A1.objs.size] } = A3
  generalize hD : A3.push { cls := .type "tuple", data := .seq #[.none, .none] } = A4
  generalize hE : A4.push { cls := .type "zip", data := .fields #[.none, .bool false, .bool false, .ref A2.objs.size, .ref A3.objs.size] } = A5
  have z1 : A1.objs.size = s1.heap.objs.size + 1 := by rw [← hA]; exact Heap.size_push ..
  have z2 : A2.objs.size = s1.heap.objs.size + 2 := by rw [← hB, Heap.size_push, z1]
  have z3 : A3.objs.size = s1.heap.objs.size + 3 := by rw [← hC, Heap.size_push, z2]
  have z4 : A4.objs.size = s1.heap.objs.size + 4 := by rw [← hD, Heap.size_push, z3]
  have g5 : A5.get? A4.objs.size = some { cls := .type "zip", data := .fields #[.none, .bool false, .bool false, .ref A2.objs.size, .ref A3.objs.size] } := by rw [← hE]; exact Heap.get?_push_size _ rfl
  have u5 : ∀ c o, A4.get? c = some o → A5.get? c = some o := fun c o e => by rw [← hE]; exact Heap.get?_push_of_some _ e
  have u4 : ∀ c o, A3.get? c = some o → A5.get? c = some o := fun c o e => u5 c o (by rw [← hD]; exact Heap.get?_push_of_some _ e)
  have u3 : ∀ c o, A2.get? c = some o → A5.get? c = some o := fun c o e => u4 c o (by rw [← hC]; exact Heap.get?_push_of_some _ e)
  have u2 : ∀ c o, A1.get? c = some o → A5.get? c = some o := fun c o e => u3 c o (by rw [← hB]; exact Heap.get?_push_of_some _ e)
  have u1 : ∀ c o, s1.heap.get? c = some o → A5.get? c = some o := fun c o e => u2 c o (by rw [← hA]; exact Heap.get?_push_of_some _ e)
  have g4 : A5.get? A3.objs.size = some { cls := .type "tuple", data := .seq #[.none, .none] } := u5 _ _ (by rw [← hD]; exact Heap.get?_push_size _ rfl)
  have g3 : A5.get? A2.objs.size = some { cls := .type "tuple", data := .seq #[.ref s1.heap.objs.size, .ref A1.objs.size] } := u4 _ _ (by rw [← hC]; exact Heap.get?_push_size _ rfl)
  have g2 : A5.get? A1.objs.size = some (zb.rcd ub) := u3 _ _ (by rw [← hB]; exact Heap.get?_push_size _ (rcd_live _ _))
  have g1 : A5.get? s1.heap.objs.size = some (za.rcd ua) := u2 _ _ (by rw [← hA]; exact Heap.get?_push_size _ (rcd_live _ _))
  refine ⟨⟨_, g5, rfl⟩, ?_⟩
  have ez : IsZip A5 A4.objs.size A2.objs.size A3.objs.size .none := g5
  refine wpAny_pyIter_zip ez ?_
  have R : ZRec A4.objs.size A2.objs.size A3.objs.size s1.heap.objs.size A1.objs.size := by
    refine ⟨?_, ?_, ?_, ?_, ?_, ?_, ?_, ?_, ?_, ?_⟩ <;> (show (_ : Nat) ≠ _; omega)
  have I5 : Inv X pins σ H1 { s1 with heap := A5 } := I1.kept (t' := s1.toks) u1
  refine ⟨A4.objs.size, [A4.objs.size, A2.objs.size, A3.objs.size, s1.heap.objs.size, A1.objs.size], _, _, H1, rfl, I5, turn_zip za zb ua ub ra rb _ _ _ _ _ R,
    ⟨ez, g3, ⟨_, _, g4⟩, za.st0 ra g1, zb.st0 rb g2⟩, fun b hb => ?_, q⟩
  have hb' : s1.heap.objs.size ≤ b := by
    simp only [List.mem_cons, List.not_mem_nil, or_false] at hb
    rcases hb with rfl | rfl | rfl | rfl | rfl <;> omega
  exact I1.fpOk hb' (I1.hok.fresh hb')
end

/-! ### all(list of truths) -/
section
variable {X : Cx}
theorem all_bls {bs : List Bool} : ∀ {us : List Value}, Vals (bs.map V.bl) us → LSm.BoolsAre us bs := by
  induction bs with
  | nil => intro us r; rw [List.map_nil] at r; cases r; exact .nil
  | cons b bs ih =>
    intro us r
    rw [List.map_cons] at r
    cases r with
    | cons r1 r2 => cases r1; exact .cons b (ih r2)
theorem call_all (hc : X.calm = true) : CallR X (.builtin "all") (fun xs H Q => ∃ (p : Addr) (bs : List Bool), xs = [.ref p] ∧ SqL X.K H p (bs.map V.bl) ∧ Q (.bl (bs.all id)) H) := by
  intro pins s σ H xs us Q I r h
  obtain ⟨p, bs, rfl, hq, q⟩ := h
  obtain ⟨u, rfl, rx⟩ := vals1 r
  cases rx
  obtain ⟨its, r', pl, hz⟩ := I.list hq
  obtain ⟨m, F⟩ := I.fr
  have hlt : p < s.heap.objs.size := by obtain ⟨_, _, e, _⟩ := pl; exact Heap.lt_size e
  have hb := all_bls r'
  refine call_all_walk (wpAny_pyIter_list pl.isList ?_)
  refine ⟨s.heap.objs.size, [s.heap.objs.size, p], [s.heap.objs.size], its.toArray.size, _, _, fun i => (bs[i]?).getD true, rfl, Walks.list (A := X.A.in1) (I.ok.hd hc) _ p (Nat.ne_of_lt hlt) its.toArray,
    ⟨⟨_, Heap.get?_push_size _ rfl, rfl, rfl⟩, pl.isList.push _⟩, fun i v s' Q' E' hP hQ => ?_, fun h' tk hk => ?_⟩
  · obtain ⟨b, e, rfl⟩ := hb.get i v (by simpa using hP)
    simp only [e, Option.getD_some] at hQ
    exact wpAny_truthy_bool hQ
  · have e : ((List.range its.toArray.size).all fun i => (bs[i]?).getD true) = bs.all id := by
      rw [List.size_toArray, hb.length]; exact LSm.range_all bs
    rw [e]
    exact ⟨.bl (bs.all id), H, I.kept (LSm.kept_iter hk), rfl, q⟩

/-! ### isinstance(x, T), T one built-in type -/
end
end L2
namespace L2
open PySem PySem.Spec PyProof.Rows

/-! ### what a value reads as, through the abstract heap -/
mutual
inductive Dt (K : PySem.W.Frag) (H : Hp) : V → PyData → Prop
  | non : Dt K H .non .none
  | bl (b : Bool) : Dt K H (.bl b) (.bool b)
  | int (i : Int) : Dt K H (.int i) (.int i)
  | str (x : Str) : Dt K H (.str x) (.str x)
  | lst {a xs ds} : SqL K H a xs → DtAll K H xs ds → Dt K H (.ref a) (.list ds)
  | tup {a xs ds} : SqT K H a xs → DtAll K H xs ds → Dt K H (.ref a) (.tuple ds)
inductive DtAll (K : PySem.W.Frag) (H : Hp) : List V → List PyData → Prop
  | nil : DtAll K H [] []
  | cons {x d xs ds} : Dt K H x d → DtAll K H xs ds → DtAll K H (x :: xs) (d :: ds)
end
theorem DtAll.length {K : PySem.W.Frag} {H : Hp} : ∀ {xs : List V} {ds : List PyData}, DtAll K H xs ds → xs.length = ds.length
  | _, _, .nil => rfl
  | _, _, .cons _ t => by rw [List.length_cons, List.length_cons, DtAll.length t]
theorem DtAll.get {K : PySem.W.Frag} {H : Hp} : ∀ {xs : List V} {ds : List PyData} {i : Nat} {d : PyData}, DtAll K H xs ds → ds[i]? = some d → ∃ x, xs[i]? = some x ∧ Dt K H x d
  | _, _, _, _, .nil, e => by simp at e
  | _, _, 0, _, .cons r _, e => by simp at e; subst e; exact ⟨_, rfl, r⟩
  | _, _, i + 1, d, .cons _ t, e => by
    obtain ⟨u, h1, h2⟩ := DtAll.get (i := i) (d := d) t (by simpa using e)
    exact ⟨u, by simpa using h1, h2⟩
theorem DtAll.ints {K : PySem.W.Frag} {H : Hp} : ∀ (ns : List Int), DtAll K H (ns.map V.int) (ns.map PyData.int)
  | [] => .nil
  | n :: ns => .cons (.int n) (DtAll.ints ns)

theorem Same.tupS {K : PySem.W.Frag} {H H' : Hp} {a : Addr} {xs : List V} (e : Same H H') (h : SqT K H a xs) : SqT K H' a xs := by
  rcases h with (h | ⟨o, h⟩) | h
  · exact .inl (.inl (e _ _ h))
  · exact .inl (.inr ⟨o, e _ _ h⟩)
  · exact .inr h
mutual
theorem Dt.mono {K : PySem.W.Frag} {H H' : Hp} (s : Same H H') : ∀ {x : V} {d : PyData}, Dt K H x d → Dt K H' x d
  | _, _, .non => .non
  | _, _, .bl b => .bl b
  | _, _, .int i => .int i
  | _, _, .str x => .str x
  | _, _, .lst h t => .lst (s.seq h) (DtAll.mono s t)
  | _, _, .tup h t => .tup (s.tupS h) (DtAll.mono s t)
theorem DtAll.mono {K : PySem.W.Frag} {H H' : Hp} (s : Same H H') : ∀ {xs : List V} {ds : List PyData}, DtAll K H xs ds → DtAll K H' xs ds
  | _, _, .nil => .nil
  | _, _, .cons r t => .cons (Dt.mono s r) (DtAll.mono s t)
end

section
variable {X : Cx} {pins : List (Addr × Obj)} {σ : St} {H : Hp} {s : Shared}
mutual
theorem Dt.reads (I : Inv X pins σ H s) : ∀ {x : V} {d : PyData} {u : Value}, Dt X.K H x d → RelV x u → ∃ as, Reads s.heap u d as
  | _, _, _, .non, r => by cases r; exact ⟨_, .none⟩
  | _, _, _, .bl b, r => by cases r; exact ⟨_, .bool b⟩
  | _, _, _, .int i, r => by obtain ⟨t, rfl⟩ := r; exact ⟨_, .int i t⟩
  | _, _, _, .str x, r => by obtain ⟨t, rfl⟩ := r; exact ⟨_, .str x t⟩
  | _, _, _, .lst h t, r => by
    cases r
    obtain ⟨its, rv, ⟨o, n, e, hc, _, hd⟩, _⟩ := I.list h
    obtain ⟨as, q⟩ := DtAll.reads I t rv
    exact ⟨_, .list e hc hd (by simpa using q)⟩
  | _, _, _, .tup h t, r => by
    cases r
    obtain ⟨its, rv, ⟨o, e, hc, n, hd⟩, _⟩ := I.tuple h
    obtain ⟨as, q⟩ := DtAll.reads I t rv
    exact ⟨_, .tuple e hc hd (by simpa using q)⟩
theorem DtAll.reads (I : Inv X pins σ H s) : ∀ {xs : List V} {ds : List PyData} {us : List Value}, DtAll X.K H xs ds → Vals xs us → ∃ as, ReadsAll s.heap us ds as
  | _, _, _, .nil, r => by cases r; exact ⟨_, .nil⟩
  | _, _, _, .cons h t, r => by
    cases r with
    | cons r1 r2 =>
      obtain ⟨as, q⟩ := Dt.reads I h r1
      obtain ⟨bs, p⟩ := DtAll.reads I t r2
      exact ⟨_, .cons q p⟩
end
end

mutual
theorem eqv_refl : ∀ (d : PyData), d.canLay0 = true → PyData.eqv d d = true
  | .none, _ => by simp [PyData.eqv]
  | .bool b, _ => by simp [PyData.eqv]
  | .int i, _ => by simp [PyData.eqv]
  | .str x, _ => by simp [PyData.eqv]
  | .list xs, h => by simp only [PyData.eqv]; exact eqvAll_refl xs (by simpa [PyData.canLay0] using h)
  | .tuple xs, h => by simp only [PyData.eqv]; exact eqvAll_refl xs (by simpa [PyData.canLay0] using h)
  | .dict _, h => by simp [PyData.canLay0] at h
theorem eqvAll_refl : ∀ (ds : List PyData), PyData.canLayAll0 ds = true → PyData.eqvAll ds ds = true
  | [], _ => by simp [PyData.eqvAll]
  | d :: ds, h => by
    simp only [PyData.canLayAll0, Bool.and_eq_true] at h
    simp only [PyData.eqvAll, Bool.and_eq_true]
    exact ⟨eqv_refl d h.1, eqvAll_refl ds h.2⟩
end

section
variable {X : Cx}
/-- == of data -/
def rEqD (K : PySem.W.Frag) : R2 := fun x y H Q => ∃ da db, Dt K H x da ∧ Dt K H y db ∧ SeqAt.shaped da = true ∧ SeqAt.shaped db = true ∧ Q (.bl (PyData.eqv da db)) H
def rNeD (K : PySem.W.Frag) : R2 := fun x y H Q => ∃ da db, Dt K H x da ∧ Dt K H y db ∧ SeqAt.shaped da = true ∧ SeqAt.shaped db = true ∧ Q (.bl (!PyData.eqv da db)) H
theorem op_eqD (hu : X.A.units + 64 < cLine) : OpR X (compareOp .Eq) (rEqD X.K) := by
  intro pins s σ H x y v u Q I rx ry h
  obtain ⟨da, db, ra, rb, sa, sb, q⟩ := h
  obtain ⟨as, r1⟩ := ra.reads I rx
  obtain ⟨bs, r2⟩ := rb.reads I ry
  exact eq_dataH r1 r2 sa sb hu ⟨.bl _, H, I, rfl, q⟩
theorem op_neD (hu : X.A.units + 64 < cLine) : OpR X (compareOp .NotEq) (rNeD X.K) := by
  intro pins s σ H x y v u Q I rx ry h
  obtain ⟨da, db, ra, rb, sa, sb, q⟩ := h
  obtain ⟨as, r1⟩ := ra.reads I rx
  obtain ⟨bs, r2⟩ := rb.reads I ry
  exact ne_dataH r1 r2 sa sb hu ⟨.bl _, H, I, rfl, q⟩

/-! ### isinstance -/
theorem kit_same (K : PySem.W.Frag) (T : String) : PySem.W.kitOne K (.type T) (.type T) = some true := by
  unfold PySem.W.kitOne
  rw [if_pos (by simp)]
theorem kit_lt (K : PySem.W.Frag) : PySem.W.kitOne K (.type "list") (.type "tuple") = some false := by kernel_rfl
theorem kit_tl (K : PySem.W.Frag) : PySem.W.kitOne K (.type "tuple") (.type "list") = some false := by kernel_rfl
theorem kit_ib (K : PySem.W.Frag) : PySem.W.kitOne K (.type "int") (.type "bool") = some false := by kernel_rfl
theorem kit_il (K : PySem.W.Frag) : PySem.W.kitOne K (.type "int") (.type "list") = some false := by kernel_rfl
theorem kit_it (K : PySem.W.Frag) : PySem.W.kitOne K (.type "int") (.type "tuple") = some false := by kernel_rfl
theorem kit_is (K : PySem.W.Frag) : PySem.W.kitOne K (.type "int") (.type "str") = some false := by kernel_rfl
theorem kit_sl (K : PySem.W.Frag) : PySem.W.kitOne K (.type "str") (.type "list") = some false := by kernel_rfl
theorem kit_st (K : PySem.W.Frag) : PySem.W.kitOne K (.type "str") (.type "tuple") = some false := by kernel_rfl
theorem kit_bl (K : PySem.W.Frag) : PySem.W.kitOne K (.type "bool") (.type "list") = some false := by kernel_rfl
theorem kit_bt (K : PySem.W.Frag) : PySem.W.kitOne K (.type "bool") (.type "tuple") = some false := by kernel_rfl
theorem kit_bs (K : PySem.W.Frag) : PySem.W.kitOne K (.type "bool") (.type "str") = some false := by kernel_rfl
theorem kit_nl (K : PySem.W.Frag) : PySem.W.kitOne K (.type "NoneType") (.type "list") = some false := by kernel_rfl
theorem kit_nt (K : PySem.W.Frag) : PySem.W.kitOne K (.type "NoneType") (.type "tuple") = some false := by kernel_rfl
theorem kit_ns (K : PySem.W.Frag) : PySem.W.kitOne K (.type "NoneType") (.type "str") = some false := by kernel_rfl

/-- the type's name of a value, lists and tuples of the module among them -/
inductive Ty (K : PySem.W.Frag) (H : Hp) : V → String → Prop
  | non : Ty K H .non "NoneType"
  | bl (b : Bool) : Ty K H (.bl b) "bool"
  | int (i : Int) : Ty K H (.int i) "int"
  | str (x : Str) : Ty K H (.str x) "str"
  | lst {a xs} : SqL K H a xs → Ty K H (.ref a) "list"
  | tup {a xs} : SqT K H a xs → Ty K H (.ref a) "tuple"
theorem Ty.kitx {pins : List (Addr × Obj)} {σ : St} {H : Hp} {s : Shared} {x : V} {n : String} {u : Value} (I : Inv X pins σ H s) (ty : Ty X.K H x n) (rx : RelV x u) :
    ∃ Z : Heap → Prop, PySem.W.KitX X.K u (.type n) Z ∧ Z s.heap ∧ u ≠ .builtin "__main__.__loader__#opaque" := by
  cases ty with
  | non => cases rx; exact ⟨_, PySem.W.kitx_none, trivial, fun z => nomatch z⟩
  | bl b => cases rx; exact ⟨_, PySem.W.kitx_bool, trivial, fun z => nomatch z⟩
  | int i => obtain ⟨t, rfl⟩ := rx; exact ⟨_, PySem.W.kitx_int, trivial, fun z => nomatch z⟩
  | str x => obtain ⟨t, rfl⟩ := rx; exact ⟨_, PySem.W.kitx_str, trivial, fun z => nomatch z⟩
  | lst h =>
    cases rx
    obtain ⟨its, _, ⟨o, n, e, hc, _⟩, _⟩ := I.list h
    exact ⟨_, PySem.W.kitx_list, ⟨o, e, hc⟩, fun z => nomatch z⟩
  | tup h =>
    cases rx
    obtain ⟨its, _, ⟨o, e, hc, _⟩, _⟩ := I.tuple h
    exact ⟨_, PySem.W.kitx_tuple, ⟨o, e, hc⟩, fun z => nomatch z⟩
/-- isinstance(x, T) -/
theorem call_isi (T : String) : CallR X (.builtin "isinstance") (fun xs H Q => ∃ x n b, xs = [x, .ty T] ∧ Ty X.K H x n ∧ PySem.W.kitOne X.K (.type n) (.type T) = some b ∧ Q (.bl b) H) := by
  intro pins s σ H xs us Q I r h
  obtain ⟨x, n, b, rfl, ty, e, q⟩ := h
  obtain ⟨u, v, rfl, rx, ry⟩ := r.two
  cases ry
  obtain ⟨Z, kx, z, ne⟩ := ty.kitx I rx
  exact PySem.W.kia_one kx I.kIn z e ne fun tk => ⟨.bl b, H, I.tok _, rfl, q⟩
/-- isinstance(x, (S, T)) of a tuple just made -/
theorem call_isi2 (S T : String) : CallR X (.builtin "isinstance") (fun xs H Q => ∃ x n b p, xs = [x, .ref p] ∧ H p = some (.tup [.ty S, .ty T]) ∧ Ty X.K H x n ∧ PySem.W.kitAny X.K (.type n) [.type S, .type T] = some b ∧ Q (.bl b) H) := by
  intro pins s σ H xs us Q I r h
  obtain ⟨x, n, b, p, rfl, hp, ty, e, q⟩ := h
  obtain ⟨u, v, rfl, rx, ry⟩ := r.two
  cases ry
  obtain ⟨Z, kx, z, ne⟩ := ty.kitx I rx
  obtain ⟨_, its, rv, ⟨⟨c, dd, dt, sl⟩, eo, hc, nn, hd⟩⟩ := I.hok p _ hp
  obtain ⟨u1, u2, rfl, r1, r2⟩ := rv.two
  cases r1
  cases r2
  replace hc : c = .type "tuple" := hc
  replace hd : dt = .seq [Value.type S, Value.type T].toArray nn := hd
  subst hc hd
  exact PySem.W.kia_tup kx I.kIn z eo e ne fun tk => ⟨.bl b, H, I.tok _, rfl, q⟩
theorem kitAny_yes (K : PySem.W.Frag) {n S T : String} (h1 : PySem.W.kitOne K (.type n) (.type S) = some true ∨ (PySem.W.kitOne K (.type n) (.type S) = some false ∧ PySem.W.kitOne K (.type n) (.type T) = some true)) :
    PySem.W.kitAny K (.type n) [.type S, .type T] = some true := by
  rcases h1 with h | ⟨h, h'⟩
  · simp [PySem.W.kitAny, h]
  · simp [PySem.W.kitAny, h, h']
theorem kitAny_no (K : PySem.W.Frag) {n S T : String} (h : PySem.W.kitOne K (.type n) (.type S) = some false) (h' : PySem.W.kitOne K (.type n) (.type T) = some false) :
    PySem.W.kitAny K (.type n) [.type S, .type T] = some false := by
  simp [PySem.W.kitAny, h, h']
end
end L2
namespace L2
open PySem PySem.Spec PyProof.Rows

/-! ### readings, step by step -/
section
variable {D : Ends} {σ : St} {H : Hp} {Q : VK} {ta tb te tc : TE} {x y v : V} {i j : Int}
theorem rd_seq {t u : TS} (h : t { D with nx := u D } σ H) : tSeq t u D σ H := h
theorem rd_next (h : D.nx σ H) : tNext D σ H := h
theorem rd_asg {g : TG} (h : te σ H fun x H1 => g x σ H1 D.nx) : tAsg te g D σ H := h
theorem rd_name {k : Nat} {R : St → Hp → Prop} (h : R (σ.set k (some v)) H) : gName k v σ H R := h
theorem rd_ret (h : te σ H D.rt) : tRet te D σ H := h
theorem rd_ifS {c : TT} {t u : TS} (h : c σ H fun b H1 => if b = true then t D σ H1 else u D σ H1) : tIfS c t u D σ H := h
theorem rd_test {R : Bool → Hp → Prop} (h : te σ H fun x H' => ∃ k, x = .bl k ∧ R k H') : tTest te σ H R := h
theorem rd_tB {R : Bool → Hp → Prop} (h : te σ H fun x H' => ∃ k, x = .bl k ∧ R k H') : tB te σ H R := h
theorem rd_if {t : TT} (h : t σ H fun c H1 => if c = true then ta σ H1 Q else tb σ H1 Q) : tIf t ta tb σ H Q := h
theorem rd_op {r : R2} (h : ta σ H fun x H1 => tb σ H1 fun y H2 => r x y H2 Q) : tOp r ta tb σ H Q := h
theorem rd_var {k : Nat} (e : σ[k]? = some (some v)) (h : Q v H) : tVar k σ H Q := ⟨v, e, h⟩
theorem rd_c (h : Q v H) : tC v σ H Q := h
theorem rd_I0 {g : Int → Int → V} (h : Q (g i j) H) : rI0 g (.int i) (.int j) H Q := ⟨i, j, rfl, rfl, h⟩
theorem rd_I {C : Int → Int → Prop} {g : Int → Int → V} (c : C i j) (h : Q (g i j) H) : rI C g (.int i) (.int j) H Q := ⟨i, j, rfl, rfl, c, h⟩
theorem rd_eqI (h : Q (.bl (decide (i = j))) H) : rEq (.int i) (.int j) H Q := ⟨rfl, by rw [show decide (V.int i = V.int j) = decide (i = j) by rw [Bool.eq_iff_iff]; simp]; exact h⟩
theorem rd_neI (h : Q (.bl (!decide (i = j))) H) : rNe (.int i) (.int j) H Q := ⟨rfl, by rw [show decide (V.int i = V.int j) = decide (i = j) by rw [Bool.eq_iff_iff]; simp]; exact h⟩
theorem rd_eqS {a b : Str} (h : Q (.bl (decide (a = b))) H) : rEq (.str a) (.str b) H Q := ⟨rfl, by rw [show decide (V.str a = V.str b) = decide (a = b) by rw [Bool.eq_iff_iff]; simp]; exact h⟩
theorem rd_eqB {a b : Bool} (h : Q (.bl (decide (a = b))) H) : rEq (.bl a) (.bl b) H Q := ⟨rfl, by rw [show decide (V.bl a = V.bl b) = decide (a = b) by rw [Bool.eq_iff_iff]; simp]; exact h⟩
theorem rd_neB {a b : Bool} (h : Q (.bl (!decide (a = b))) H) : rNe (.bl a) (.bl b) H Q := ⟨rfl, by rw [show decide (V.bl a = V.bl b) = decide (a = b) by rw [Bool.eq_iff_iff]; simp]; exact h⟩
theorem rd_ixL {K : PySem.W.Frag} {p : Addr} {xs : List V} (h : SqL K H p xs) (e : atI xs i = some v) (q : Q v H) : rIxL K (.ref p) (.int i) H Q := ⟨p, xs, i, v, rfl, rfl, h, e, q⟩
theorem rd_cons {tr : TA} {R : List V → Hp → Prop} (h : ta σ H fun x H1 => tr σ H1 fun xs H2 => R (x :: xs) H2) : tCons ta tr σ H R := h
theorem rd_nil {R : List V → Hp → Prop} (h : R [] H) : tNil σ H R := h
theorem rd_call {sp : Sp} {dvs : List V} {E : XK} {t : TA} (h : t σ H fun vs H1 => sp (vs ++ dvs) H1 Q E) : tCall sp dvs E t σ H Q := h
theorem rd_cb {r : List V → Hp → VK → Prop} {t : TA} (h : t σ H fun vs H1 => r vs H1 Q) : tCB r t σ H Q := h
theorem rd_tup {t : TA} (h : t σ H fun xs H1 => xs.length ≤ sizeLine ∧ ∀ p, H1 p = none → Q (.ref p) (upd H1 p (.tup xs))) : tTup t σ H Q := h
theorem rd_lst {t : TA} (h : t σ H fun xs H1 => xs.length ≤ sizeLine ∧ ∀ p, H1 p = none → Q (.ref p) (upd H1 p (.lst xs))) : tLst t σ H Q := h
theorem rd_sub {to ti : TE} {t : TSet} {R : St → Hp → Prop} (h : to σ H fun o H1 => ti σ H1 fun i H2 => t o i v H2 fun H3 => R σ H3) : gSub to ti t v σ H R := h
theorem rd_setL {p : Addr} {xs : List V} {k : Int} {j : Nat} {R : Hp → Prop} (h : H p = some (.lst xs)) (e : ixN xs.length k = some j) (q : R (upd H p (.lst (xs.set j v)))) : rSetL (.ref p) (.int k) v H R := ⟨p, xs, k, j, rfl, rfl, h, e, q⟩
theorem rd_gtup {K : PySem.W.Frag} {n : Nat} {t : TGs} {R : St → Hp → Prop} {a : Addr} {xs : List V} (h : SqT K H a xs) (e : xs.length = n) (q : t xs σ H R) : gTup K n t (.ref a) σ H R := ⟨a, xs, rfl, h, e, q⟩
theorem rd_gcons {t : TG} {u : TGs} {r : List V} {R : St → Hp → Prop} (q : t v σ H fun σ' H' => u r σ' H' R) : gCons t u (v :: r) σ H R := ⟨v, r, rfl, q⟩
theorem rd_gnil {R : St → Hp → Prop} (q : R σ H) : gNil [] σ H R := ⟨rfl, q⟩
theorem rd_emit {Dd : Addr} {R : Hp → Prop} (h : te σ H fun y H1 => ∃ ys, H1 Dd = some (.lst ys) ∧ ys.length < sizeLine ∧ R (upd H1 Dd (.lst (ys ++ [y])))) : cEmit te Dd σ H R := h
end

/-! ### three names at once -/
section
variable {X : Cx} {pos : Pos}
def tPar3 (i j k : Nat) (ta : TA) : TS := fun D σ H => ta σ H fun vs H1 => ∃ v w u, vs = [v, w, u] ∧ D.nx (((σ.set i (some v)).set j (some w)).set k (some u)) H1
theorem ps_par3 {i j k : Nat} {x y z : Str} {a b c : Expr} {ta : TA} {px py pz pt : Pos} {kt k2 pt2} (hc : X.calm = true) (hN : X.N.Nodup) (hi : X.N[i]? = some x) (hj : X.N[j]? = some y) (hk : X.N[k]? = some z) (hij : i ≠ j) (hik : i ≠ k) (hjk : j ≠ k)
    (hx : X.env.scope.names.lookup x = some .local) (hy : X.env.scope.names.lookup y = some .local) (hz : X.env.scope.names.lookup z = some .local) (ha : PA X [a, b, c] ta)
    (hw : swappedStores [.Tuple [.Name x px, .Name y py, .Name z pz] kt pt] (.Tuple [a, b, c] k2 pt2) X.env = pure (some [x, y, z]))
    (hs : swapsWithSole [.Tuple [.Name x px, .Name y py, .Name z pz] kt pt] (.Tuple [a, b, c] k2 pt2) pos.line X.env = pure false := by rfl) :
    PS X (.Assign [.Tuple [.Name x px, .Name y py, .Name z pz] kt pt] (.Tuple [a, b, c] k2 pt2) pos) (tPar3 i j k ta) := by
  intro pins s σ H D I h
  rw [exec_Assign_arm]
  refine wpAny_bind (wpAny_standAt ?_)
  rw [hs]
  refine wpAny_bind (wpAny_pure ?_)
  rw [if_neg (by decide)]
  refine wpAny_bind (Tuple_ (thn (ha _ pins s σ H _ I h) fun us s1 ⟨vs, H1, I1, r1, q1⟩ => ?_))
  obtain ⟨v, w, u, e1, q1⟩ := q1
  subst e1
  obtain ⟨u1, u2, u3, rfl, rv, rw', ru⟩ : ∃ u1 u2 u3, us = [u1, u2, u3] ∧ RelV v u1 ∧ RelV w u2 ∧ RelV u u3 := by
    cases r1 with
    | cons p q =>
      cases q with
      | cons p' q' =>
        cases q' with
        | cons p'' q'' =>
          cases q''
          exact ⟨_, _, _, rfl, p, p', p''⟩
  refine wpAny_newObj_type ?_ (by show 3 ≤ sizeLine; decide)
  have I2 : Inv X pins σ H1 { s1 with heap := s1.heap.push { cls := .type "tuple", data := .seq [u1, u2, u3].toArray } } := I1.kept (t' := s1.toks) fun b o e => Heap.get?_push_of_some _ e
  rw [hw]
  refine wpAny_bind (wpAny_pure ?_)
  show wpAny (model X.prog X.w) X.A (do rule "assign.swapped-stores"; let items ← unpackItems (.ref s1.heap.objs.size) 3 none; assignInOrder [fun v => bindName X.env z v, fun v => bindName X.env y v, fun v => bindName X.env x v] items.reverse; pure Flow.next) _ _ _
  refine wpAny_bind (wpAny_rule (wpAny_bind (unpackItems_tuple (items := #[u1, u2, u3]) (I.ok.hd hc) (IsTup.new s1.heap _) fun h' hx' => ?_)))
  have I3 := I2.kept (h' := h') (t' := s1.toks) fun b o e => hx' b o (Nat.ne_of_lt (Heap.lt_size e)) e
  show wpAny _ _ (assignInOrder [fun v => bindName X.env z v, fun v => bindName X.env y v, fun v => bindName X.env x v] [u3, u2, u1] >>= fun _ => pure Flow.next) _ _ _
  refine wpAny_bind (assignInOrder_cons (wpAny_bindName (store_ok I3 hN hk (.inl hz) ru (fun s2 I4 => ?_) (.inr hz))))
  refine assignInOrder_cons (wpAny_bindName (store_ok I4 hN hj (.inl hy) rw' (fun s3 I5 => ?_) (.inr hy)))
  refine assignInOrder_cons (wpAny_bindName (store_ok I5 hN hi (.inl hx) rv (fun s4 I6 => assignInOrder_nil (wpAny_pure ?_)) (.inr hx)))
  have e : ((σ.set k (some u)).set j (some w)).set i (some v) = ((σ.set i (some v)).set j (some w)).set k (some u) := by
    rw [List.set_comm _ _ (Ne.symm hij), List.set_comm _ _ (Ne.symm hik), List.set_comm _ _ (Ne.symm hjk)]
  rw [e] at I6
  exact ⟨_, H1, I6, q1⟩
end

/-! ### heaps -/
/-- all but what stands at S is as it was -/
def Keep (S : List Addr) (H H' : Hp) : Prop := ∀ b o, H b = some o → b ∉ S → H' b = some o
theorem Keep.refl (S : List Addr) (H : Hp) : Keep S H H := fun _ _ h _ => h
theorem Keep.trans {S : List Addr} {H H1 H2 : Hp} (a : Keep S H H1) (b : Keep S H1 H2) : Keep S H H2 := fun c o h n => b c o (a c o h n) n
theorem Keep.new {S : List Addr} {H H1 : Hp} {p : Addr} {o : HO} (a : Keep S H H1) (n : H1 p = none) : Keep S H (upd H1 p o) := fun c u h m => by
  have q := a c u h m
  rw [upd_ne (ne_of_none q n)]; exact q
/-- something at p, which was not there ahead, is written -/
theorem Keep.put {S : List Addr} {H H1 : Hp} {p : Addr} {o : HO} (a : Keep S H H1) (n : p ∈ S ∨ H p = none) : Keep S H (upd H1 p o) := fun c u h m => by
  have ne : c ≠ p := fun e => by
    subst e
    rcases n with n | n
    · exact m n
    · rw [n] at h; cases h
  rw [upd_ne ne]; exact a c u h m
theorem Keep.same {H H' : Hp} (a : Keep [] H H') : Same H H' := fun b o h => a b o h (by simp)
end L2
namespace L2
open PySem PySem.Spec PyProof.Rows
theorem bt_len : bootBuiltins "len" = some (.builtin "len") := by decide +kernel
theorem bt_abs : bootBuiltins "abs" = some (.builtin "abs") := by decide +kernel
theorem bt_max : bootBuiltins "max" = some (.builtin "max") := by decide +kernel
theorem bt_min : bootBuiltins "min" = some (.builtin "min") := by decide +kernel
theorem bt_all : bootBuiltins "all" = some (.builtin "all") := by decide +kernel
theorem bt_isinstance : bootBuiltins "isinstance" = some (.builtin "isinstance") := by decide +kernel
theorem bt_int : bootBuiltins "int" = some (.type "int") := by decide +kernel
theorem bt_bool : bootBuiltins "bool" = some (.type "bool") := by decide +kernel
theorem bt_str : bootBuiltins "str" = some (.type "str") := by decide +kernel
theorem bt_list : bootBuiltins "list" = some (.type "list") := by decide +kernel
theorem bt_tuple : bootBuiltins "tuple" = some (.type "tuple") := by decide +kernel

/-! ### the comprehensions of a def, by their places -/
def noScope : Scope := { kind := .function, names := [], isGenerator := false, isCoroutine := false }
def compsE : Nat → Expr → List Scope
  | 0, _ => []
  | n + 1, e => match e with
    | .ListComp elt gs sc _ => sc :: (match gs with | g :: _ => compsE n g.iter | [] => []) ++ compsE n elt
    | .DictComp k v gs sc _ => sc :: (match gs with | g :: _ => compsE n g.iter | [] => []) ++ compsE n k ++ compsE n v
    | .SetComp elt gs sc _ => sc :: (match gs with | g :: _ => compsE n g.iter | [] => []) ++ compsE n elt
    | .Call f as _ _ => compsE n f ++ as.flatMap (compsE n)
    | .BoolOp _ as _ => as.flatMap (compsE n)
    | .BinOp a _ b _ => compsE n a ++ compsE n b
    | .UnaryOp _ a _ => compsE n a
    | .Compare a _ bs _ => compsE n a ++ bs.flatMap (compsE n)
    | .IfExp a b c _ => compsE n a ++ compsE n b ++ compsE n c
    | .Attribute a _ _ => compsE n a
    | .Subscript a b _ => compsE n a ++ compsE n b
    | .List as _ => as.flatMap (compsE n)
    | .Tuple as _ _ => as.flatMap (compsE n)
    | _ => []
def compsS : Nat → Stmt → List Scope
  | 0, _ => []
  | n + 1, s => match s with
    | .FunctionDef _ _ b _ _ _ _ _ _ _ => b.flatMap (compsS n)
    | .Return (some e) _ => compsE n e
    | .Expr e _ => compsE n e
    | .Assign _ e _ => compsE n e
    | .If c a b _ => compsE n c ++ a.flatMap (compsS n) ++ b.flatMap (compsS n)
    | .While c a _ _ => compsE n c ++ a.flatMap (compsS n)
    | .For _ i a _ _ => compsE n i ++ a.flatMap (compsS n)
    | _ => []
structure CompOk (N : List Str) (nt : Nat) (fr : List Nat) (ON : List Str) (sc osc : Scope) : Prop where
  sc : CompScope N nt fr ON sc osc
  nd : N.Nodup
def outOk (N : List Str) (nt : Nat) (fr : List Nat) (ON : List Str) (sc osc : Scope) : Bool := (List.range fr.length).all fun i => match N[nt + i]?, (fr[i]?).bind (ON[·]?) with
  | some x, some y => x == y && osc.names.lookup x == some .cell && sc.names.lookup x == some .free
  | _, _ => false
theorem compOut {N : List Str} {nt : Nat} {fr : List Nat} {ON : List Str} {sc osc : Scope} (h : outOk N nt fr ON sc osc = true) (i j : Nat) (e : fr[i]? = some j) :
    ∃ x, N[nt + i]? = some x ∧ ON[j]? = some x ∧ osc.names.lookup x = some .cell ∧ sc.names.lookup x = some .free := by
  have hi : i < fr.length := (List.getElem?_eq_some_iff.mp e).1
  have q := List.all_eq_true.mp h i (List.mem_range.mpr hi)
  rw [e] at q
  simp only [Option.bind_some] at q
  cases h1 : N[nt + i]? with
  | none => rw [h1] at q; simp at q
  | some x =>
    cases h2 : ON[j]? with
    | none => rw [h1, h2] at q; simp at q
    | some y =>
      rw [h1, h2] at q
      simp only [Bool.and_eq_true, beq_iff_eq] at q
      obtain ⟨⟨rfl, q2⟩, q3⟩ := q
      exact ⟨x, rfl, rfl, q2, q3⟩

section
variable {H : Hp} {Q : VK} {K : PySem.W.Frag} {x y v : V} {i j : Int} {p l : Addr} {xs : List V}
theorem rd_eqN (q : Q (.bl true) H) : rEq .non .non H Q := ⟨rfl, by simpa using q⟩
theorem rd_zip {ta : TA} {σ : St} {R : It → Hp → Prop} (h : ta σ H fun vs H1 => ∃ a b : ZS, vs = [a.val, b.val] ∧ a.ok K H1 ∧ b.ok K H1 ∧ R (Itz K a b) H1) : iZip K ta σ H R := h
theorem rd_comp {wi : TI} {nt : Nat} {fr : List Nat} {g : CC → TG} {tc : CC → TC} {σ : St} (h : wi σ H fun J H1 => ∀ (c : CC) D, H1 D = none → ∃ W : Nat → Nat → St → Hp → Prop, (∃ m, W 0 m (compSt nt fr σ) (upd H1 D (.lst []))) ∧
  ∀ i m σ' H', W i m σ' H' → (J.stop i H' ∧ Q (.ref D) H') ∨ (J.go i H' ∧ ∀ x H2, J.yld i H' x H2 → g c x σ' H2 fun σ3 H3 => tc c D σ3 H3 fun H4 => ∃ m', m' < m ∧ W (i + 1) m' σ3 H4)) : tComp wi nt fr g tc σ H Q := h
theorem small2 {n : Nat} (h : n ≤ 1000000) : n ≤ sizeLine := Nat.le_trans h (by decide)
theorem iteB {b : Bool} {A B : Prop} (h1 : b = true → A) (h2 : b = false → B) : if b = true then A else B := by
  cases b with
  | true => rw [if_pos rfl]; exact h1 rfl
  | false => rw [if_neg Bool.false_ne_true]; exact h2 rfl
theorem iteD {p : Prop} [Decidable p] {A B : Prop} (h1 : p → A) (h2 : ¬ p → B) : if decide p = true then A else B := by
  by_cases h : p
  · rw [decide_eq_true h, if_pos rfl]; exact h1 h
  · rw [decide_eq_false h, if_neg Bool.false_ne_true]; exact h2 h
theorem iteDN {p : Prop} [Decidable p] {A B : Prop} (h1 : ¬ p → A) (h2 : p → B) : if (!decide p) = true then A else B := by
  by_cases h : p
  · rw [decide_eq_true h]; exact iteF (h2 h)
  · rw [decide_eq_false h]; exact iteT (h1 h)
end
end L2
namespace L2
open PySem PySem.Spec PyProof.Rows
section
variable {X : Cx}
end
end L2
namespace L2
open PySem PySem.Spec PyProof.Rows

end L2

namespace L2
open PySem PySem.Spec PyProof.Rows

end L2

namespace L2
open PySem PySem.Spec PyProof.Rows

end L2

namespace L2
open PySem PySem.Spec PyProof.Rows

end L2

namespace L2
open PySem PySem.Spec PyProof.Rows

end L2

namespace L2
open PySem PySem.Spec PyProof.Rows

end L2

namespace L2
open PySem PySem.Spec PyProof.Rows

end L2

namespace L2
open PySem PySem.Spec PyProof.Rows

end L2

namespace L2
open PySem PySem.Spec PyProof.Rows

end L2

namespace L2
open PySem PySem.Spec PyProof.Rows

end L2

namespace L2
open PySem PySem.Spec PyProof.Rows

section
variable {κ : Type} [DecidableEq κ]
def valV (kvs : List (κ × V)) (k : κ) : Option V := (kvs.find? fun kv => decide (kv.1 = k)).map (·.2)
/-- in its place, or at the end -/
def putK (kvs : List (κ × V)) (k : κ) (v : V) : List (κ × V) :=
  if (kvs.any fun kv => decide (kv.1 = k)) = true then kvs.map (fun kv => if kv.1 = k then (kv.1, v) else kv) else kvs ++ [(k, v)]

theorem valV_pos {p : κ × V} {r : List (κ × V)} {k : κ} (e : p.1 = k) : valV (p :: r) k = some p.2 := by simp [valV, List.find?_cons, e]
theorem valV_neg {p : κ × V} {r : List (κ × V)} {k : κ} (e : ¬ p.1 = k) : valV (p :: r) k = valV r k := by simp [valV, List.find?_cons, e]
theorem length_putK (kvs : List (κ × V)) (k : κ) (v : V) : (putK kvs k v).length ≤ kvs.length + 1 := by
  unfold putK
  split
  · rw [List.length_map]; omega
  · rw [List.length_append, List.length_cons, List.length_nil]; omega

theorem RelO.isSome_eq {o : Option V} {u : Option Value} (r : RelO o u) : o.isSome = u.isSome := by
  cases o with
  | none => cases u with
    | none => rfl
    | some _ => exact (show False from r).elim
  | some _ => cases u with
    | none => exact (show False from r).elim
    | some _ => rfl

/-- raw tables of the same keys -/
theorem KV.val {kvs : List (κ × V)} {vs : List (κ × Value)} (r : KV kvs vs) (k : κ) : RelO (valV kvs k) (valueAt vs k) := by
  unfold KV at r
  induction r with
  | nil => exact True.intro
  | @cons p q ps qs h t ih =>
    obtain ⟨h1, h2⟩ := h
    by_cases e : p.1 = k
    · have e' : q.1 = k := h1.symm.trans e
      have b : valueAt (q :: qs) k = some q.2 := by simp [valueAt, List.find?_cons, e']
      rw [valV_pos e, b]; exact h2
    · have e' : ¬ q.1 = k := fun z => e (h1.trans z)
      have b : valueAt (q :: qs) k = valueAt qs k := by simp [valueAt, List.find?_cons, e']
      rw [valV_neg e, b]; exact ih
theorem KV.any {kvs : List (κ × V)} {vs : List (κ × Value)} (r : KV kvs vs) (k : κ) : (kvs.any fun kv => decide (kv.1 = k)) = vs.any fun kv => decide (kv.1 = k) := by
  unfold KV at r
  induction r with
  | nil => rfl
  | cons h t ih => rw [List.any_cons, List.any_cons, ih, h.1]
theorem KV.repl {kvs : List (κ × V)} {vs : List (κ × Value)} (r : KV kvs vs) (k : κ) {y : V} {u : Value} (ry : RelV y u) :
    KV (kvs.map fun kv => if kv.1 = k then (kv.1, y) else kv) (vs.map fun kv => if kv.1 = k then (kv.1, u) else kv) := by
  unfold KV at r ⊢
  induction r with
  | nil => exact .nil
  | @cons p q ps qs h t ih =>
    rw [List.map_cons, List.map_cons]
    refine .cons ?_ ih
    obtain ⟨h1, h2⟩ := h
    by_cases e : p.1 = k
    · rw [if_pos e, if_pos (h1.symm.trans e)]; exact ⟨h1, ry⟩
    · rw [if_neg e, if_neg (fun z => e (h1.trans z))]; exact ⟨h1, h2⟩
theorem KV.put {kvs : List (κ × V)} {vs : List (κ × Value)} (r : KV kvs vs) (k : κ) {y : V} {u : Value} (ry : RelV y u) : KV (putK kvs k y) (stored vs k u) := by
  unfold putK stored
  rw [r.any k]
  by_cases e : (vs.any fun kv => decide (kv.1 = k)) = true
  · rw [if_pos e, if_pos e]; exact r.repl k ry
  · rw [if_neg e, if_neg e]; exact Paired.snoc r ⟨rfl, ry⟩
theorem KV.length {kvs : List (κ × V)} {vs : List (κ × Value)} (r : KV kvs vs) : kvs.length = vs.length := Paired.length r
end

theorem kV_is {P : Program} {w : World} {k : Key} {u : Value} (r : RelV (kV k) u) : (mixKind P w).is k u = true := by
  cases k with
  | inl i => obtain ⟨t, e⟩ := (show ∃ t, u = Value.int i t from r); subst e; exact mixKind_int P w i t
  | inr x => obtain ⟨t, e⟩ := (show ∃ t, u = Value.str x t from r); subst e; exact mixKind_str P w x t
theorem items_are {P : Program} {w : World} : ∀ {ks : List Key} {us : List Value}, Vals (ks.map kV) us → ItemsAre (mixKind P w) ks us
  | [], _, r => by rw [List.map_nil] at r; cases r; exact .nil
  | k :: ks, _, r => by
    rw [List.map_cons] at r
    cases r with
    | cons h t => exact .cons (kV_is h) (items_are t)

/-- raw entries of a dict with tuple keys -/
abbrev KT (H : Hp) : List (List Key × V) → List (List Key × Addr × Value) → Prop := Paired fun p q => p.1 = q.1 ∧ H q.2.1 = some (.tup (p.1.map kV)) ∧ RelV p.2 q.2.2
theorem KT.val {H : Hp} {kvs : List (List Key × V)} {xs : List (List Key × Addr × Value)} (r : KT H kvs xs) (k : List Key) : RelO (valV kvs k) ((atKey xs k).map (·.2)) := by
  induction r with
  | nil => exact True.intro
  | @cons p q ps qs h t ih =>
    obtain ⟨h1, _, h2⟩ := h
    by_cases e : p.1 = k
    · have e' : q.1 = k := h1.symm.trans e
      have b : atKey (q :: qs) k = some q.2 := by simp [atKey, List.find?_cons, e']
      rw [valV_pos e, b]; exact h2
    · have e' : ¬ q.1 = k := fun z => e (h1.trans z)
      have b : atKey (q :: qs) k = atKey qs k := by simp [atKey, List.find?_cons, e']
      rw [valV_neg e, b]; exact ih

section
variable {P : Program} {w : World} {H : Hp} {h : Heap} {a : Addr}
theorem rd_of {u : HO} (ok : HOk P w H h) (e : Rd H a u) : ObjOk P w H h a u := e.ok ok
theorem dk_rd {kvs : List (Key × V)} (ok : HOk P w H h) (e : Rd H a (.dK kvs)) : kvs.length ≤ sizeLine ∧ (a == sysModules) = false ∧ ∃ vs, KV kvs vs ∧ h.DictOf (mixKind P w) a vs :=
  show ObjOk P w H h a (.dK kvs) from rd_of ok e
theorem dk_of {kvs : List (Key × V)} (ok : HOk P w H h) (e : H a = some (.dK kvs)) : kvs.length ≤ sizeLine ∧ (a == sysModules) = false ∧ ∃ vs, KV kvs vs ∧ h.DictOf (mixKind P w) a vs := dk_rd ok (.inl e)
/-- a tracked tuple of ints and texts is a key -/
theorem key_of {ks : List Key} (ok : HOk P w H h) (e : H a = some (.tup (ks.map kV))) : (tupleKind (mixKind P w)).is h ks a := by
  obtain ⟨_, its, r, o, h1, h2, n, h3⟩ := (show ObjOk P w H h a (.tup (ks.map kV)) from ok a _ e)
  exact ⟨o, its.toArray, n, h1, h2, h3, by simpa using items_are r⟩
theorem dt_rd {kvs : List (List Key × V)} (ok : HOk P w H h) (e : Rd H a (.dT kvs)) : kvs.length ≤ sizeLine ∧ (a == sysModules) = false ∧
    ∃ xs, KT H kvs xs ∧ h.DictOfH (tupleKind (mixKind P w)) a xs := by
  obtain ⟨z, y, xs, r, o, es, ep, h1, h2, h3, h4, h5⟩ := (show ObjOk P w H h a (.dT kvs) from rd_of ok e)
  refine ⟨z, y, xs, r, o, es, ep, h1, h2, h3, h4, fun x hx => ?_, h5⟩
  have all : ∀ {l : List (List Key × V)} {m : List (List Key × Addr × Value)}, KT H l m → ∀ x ∈ m, (tupleKind (mixKind P w)).is h x.1 x.2.1 := by
    intro l m q
    induction q with
    | nil => intro x hx; exact nomatch hx
    | @cons p q ps qs hq t ih =>
      intro x hx
      rcases List.mem_cons.mp hx with e | hx
      · subst e
        exact key_of ok (by rw [← hq.1]; exact hq.2.1)
      · exact ih x hx
  exact all r x hx
end

/-- what the dict at a holds at the key y -/
def DGet (H : Hp) (a : Addr) (y : V) (r : Option V) : Prop :=
  (∃ kvs k, Rd H a (.dK kvs) ∧ y = kV k ∧ r = valV kvs k) ∨ ∃ kvs k b, Rd H a (.dT kvs) ∧ y = .ref b ∧ H b = some (.tup (k.map kV)) ∧ r = valV kvs k
theorem DGet.k {H : Hp} {a : Addr} {kvs : List (Key × V)} {k : Key} (e : H a = some (.dK kvs)) : DGet H a (kV k) (valV kvs k) := .inl ⟨kvs, k, .inl e, rfl, rfl⟩

section
variable {X : Cx} {pins : List (Addr × Obj)} {σ : St} {H : Hp} {s : Shared} {a : Addr} {y v : V} {u r : Value} {o : Option V} {A : Around} {E : Value → Shared → Prop}

theorem Inv.big (I : Inv X pins σ H s) : sysModules < s.heap.objs.size := by
  have h : mainGlobals < s.heap.objs.size := (I.mod.glob.keeps I.bk).lt
  exact Nat.lt_trans (by decide) h

/-- d[y], there -/
theorem d_getItem {Q : Value → Shared → Prop} (hu : A.units + 1 < cLine) (I : Inv X pins σ H s) (g : DGet H a y (some v)) (ry : RelV y u) (h : ∀ w' s', Inv X pins σ H s' → RelV v w' → Q w' s') :
    wpAny (model X.prog X.w) A (getItem (.ref a) u) Q E s := by
  rcases g with ⟨kvs, k, e, ey, l⟩ | ⟨kvs, k, b, e, ey, eb, l⟩
  · subst ey
    obtain ⟨z, hd, vs, rel, dd⟩ := dk_rd I.hok e
    obtain ⟨w', hw, rw'⟩ := RelO.some_of (v := v) (o := valueAt vs k) (by rw [l]; exact rel.val k)
    exact wpAny_getItem_of (kV_is ry) dd.mapOf hw (h w' _ (I.tok _) rw')
  · subst ey
    cases (show u = Value.ref b from ry)
    obtain ⟨z, hd, xs, rel, dd⟩ := dt_rd I.hok e
    obtain ⟨w', hw, rw'⟩ := RelO.some_of (v := v) (o := (atKey xs k).map (·.2)) (by rw [l]; exact rel.val k)
    obtain ⟨p, hp, hp2⟩ := Option.map_eq_some_iff.mp hw
    refine wpAny_getItem_heap (tupleKind_room_in1 hu) (key_of I.hok eb) dd hp ?_
    rw [hp2]
    exact h w' _ (I.tok _) rw'
/-- y in d -/
theorem d_in {Q : Value → Shared → Prop} (hu : A.units + 1 < cLine) (I : Inv X pins σ H s) (g : DGet H a y o) (ry : RelV y u) (h : ∀ s', Inv X pins σ H s' → Q (.bool o.isSome) s') :
    wpAny (model X.prog X.w) A (compareOp .In u (.ref a)) Q E s := by
  rcases g with ⟨kvs, k, e, ey, l⟩ | ⟨kvs, k, b, e, ey, eb, l⟩
  · subst ey
    obtain ⟨z, hd, vs, rel, dd⟩ := dk_rd I.hok e
    refine wpAny_in_of (kV_is ry) hd dd.mapOf ?_
    rw [← (rel.val k).isSome_eq, ← l]
    exact h _ (I.tok _)
  · subst ey
    cases (show u = Value.ref b from ry)
    obtain ⟨z, hd, xs, rel, dd⟩ := dt_rd I.hok e
    refine wpAny_in_heap (tupleKind_room_in1 hu) (key_of I.hok eb) hd dd ?_
    have q := (rel.val k).isSome_eq
    rw [Option.isSome_map] at q
    rw [← q, ← l]
    exact h _ (I.tok _)
/-- a dict's object is replaced -/
theorem d_write {h' : Heap} {t' : Nat} {ob : HO} (I : Inv X pins σ H s) (mu : Mut (H a)) (hs : Heap.SameBut a s.heap h') (he : ∃ q, h'.get? a = some q) (new : ObjOk X.prog X.w (upd H a ob) h' a ob) :
    Inv X pins σ (upd H a ob) { s with heap := h', toks := t' } :=
  I.write (x := a) (e := a) mu (.inl rfl) (fun b q hb z => (hs.2 b hb).trans z) he new
theorem dk_new {P : Program} {w : World} {H' : Hp} {h' : Heap} {kvs : List (Key × V)} {vs : List (Key × Value)} (z : kvs.length ≤ sizeLine) (hd : (a == sysModules) = false) (rel : KV kvs vs) (dd : h'.DictOf (mixKind P w) a vs) :
    ObjOk P w H' h' a (.dK kvs) := ⟨z, hd, vs, rel, dd⟩
end

section
variable {X : Cx} {pins : List (Addr × Obj)} {σ : St} {H : Hp} {s : Shared} {a : Addr} {kvs : List (Key × V)} {k : Key} {u : Value} {A : Around} {E : Value → Shared → Prop}
end

/-- the element of a subscription, not a slice -/
def NoSl (i : Expr) : Prop := ∀ ov iv, subscripted i false ov iv = operate [ov, iv] (getItem ov iv)
theorem subD_of {prog : Program} {w : World} {A : Around} {E : Value → Shared → Prop} {s : Shared} {env : Env} {value slice : Expr} {pos : Pos} {T id : String} {Q : Value → Shared → Prop}
    (hl : typeLookup (.type T) "__getitem__" = pure (some (.builtin id))) (hs : NoSl slice)
    (h : wpAny (model prog w) A (eval value env) (fun o s₁ => wpAny (model prog w) A (eval slice env) (fun i s₂ => s₂.TypeIs o T ∧ wpAny (model prog w) A (getItem o i) Q E s₂) E s₁) E s) :
    wpAny (model prog w) A (eval (.Subscript value slice pos) env) Q E s := by
  refine Subscript_ (wpAny_mono h (fun o s₁ h₁ => wpAny_mono h₁ (fun i s₂ h₂ => ?_) fun _ _ x => x) fun _ _ x => x)
  obtain ⟨hT, h₂⟩ := h₂
  unfold subscriptTail
  refine wpAny_bind ?_
  rw [getitemInPython_of_ne hT.not_modules]
  refine wpAny_bind (wpAny_specialOf hT hl ?_)
  have fin : wpAny (model prog w) A (subscripted slice false o i) (fun r s₃ => wpAny (model prog w) A (letTemporaryGo value o r >>= fun _ => pure r) Q E s₃) E s₂ := by
    rw [hs o i]
    exact wpAny_operating (wpAny_mono h₂ (fun r s₃ h₃ => wpAny_bind (wpAny_letTemporaryGo (wpAny_pure h₃))) fun _ _ x => x)
  first
    | exact wpAny_pure (wpAny_bind fin)
    | exact wpAny_bind (wpAny_pure (wpAny_bind fin))
    | exact wpAny_bind fin

theorem dict_typeIs {X : Cx} {pins : List (Addr × Obj)} {σ : St} {H : Hp} {s : Shared} {a : Addr} {y : V} {o : Option V} (I : Inv X pins σ H s) (g : DGet H a y o) : s.TypeIs (.ref a) "dict" := by
  rcases g with ⟨kvs, k, e, _, _⟩ | ⟨kvs, k, b, e, _, _, _⟩
  · obtain ⟨_, _, vs, _, dd⟩ := dk_rd I.hok e
    exact dd.typeIs
  · obtain ⟨_, _, xs, _, dd⟩ := dt_rd I.hok e
    exact dd.typeIs

/-- d[y] -/
def tDGet (td ty : TE) : TE := fun σ H Q => td σ H fun x H1 => ty σ H1 fun y H2 => ∃ a v, x = .ref a ∧ DGet H2 a y (some v) ∧ Q v H2
/-- y in d, y not in d -/
def tDIn (ty td : TE) : TE := fun σ H Q => ty σ H fun y H1 => td σ H1 fun x H2 => ∃ a o, x = .ref a ∧ DGet H2 a y o ∧ Q (.bl o.isSome) H2
def tDNotIn (ty td : TE) : TE := fun σ H Q => ty σ H fun y H1 => td σ H1 fun x H2 => ∃ a o, x = .ref a ∧ DGet H2 a y o ∧ Q (.bl (!o.isSome)) H2

section
variable {X : Cx} {o i e value : Expr} {pos pos' tpos : Pos} {td ty tv : TE}
theorem pe_dget (hu : X.A.units + 1 < cLine) (ho : PE X o td) (hi : PE X i ty) (hs : NoSl i) : PE X (.Subscript o i pos) (tDGet td ty) := by
  intro pins s σ H Q I h
  refine subD_of PySem.F.slot_dict_getitem.lookup hs (thn (ho pins s σ H _ I h) fun u s1 ⟨x, H1, I1, rx, q1⟩ => thn (hi pins s1 σ H1 _ I1 q1) fun iv s2 ⟨y, H2, I2, ry, a, v, ex, g, q2⟩ => ?_)
  subst ex
  obtain rfl : u = Value.ref a := rx
  exact ⟨dict_typeIs I2 g, d_getItem hu I2 g ry fun w' s3 I3 rw' => ⟨v, H2, I3, rw', q2⟩⟩
theorem pc_din (hu : X.A.units + 1 < cLine) (hi : PE X i ty) (ho : PE X o td) : PC X .In i o (tDIn ty td) := by
  intro pins s σ H Q I h
  refine thn (hi pins s σ H _ I h) fun iv s1 ⟨y, H1, I1, ry, q1⟩ => thn (ho pins s1 σ H1 _ I1 q1) fun u s2 ⟨x, H2, I2, rx, a, ov, ex, g, q2⟩ => ?_
  subst ex
  obtain rfl : u = Value.ref a := rx
  exact d_in hu I2 g ry fun s3 I3 => ⟨.bl ov.isSome, H2, I3, rfl, q2⟩
end

theorem dk_empty {P : Program} {w : World} {H : Hp} (h : Heap) (hb : sysModules < h.objs.size) : ObjOk P w H (h.push { cls := .type "dict", data := .dict #[] }) h.objs.size (.dK []) :=
  ⟨Nat.zero_le _, beq_eq_false_iff_ne.mpr (Ne.symm (Nat.ne_of_lt hb)), [], .nil, Heap.DictOf.new h⟩
section
variable {X : Cx} {pos : Pos}
end





section
variable {X : Cx} {pins : List (Addr × Obj)} {σ : St} {H : Hp} {s : Shared} {a : Addr} {y d : V} {u r : Value} {o : Option V} {A : Around} {E : Value → Shared → Prop}
end

section
variable {X : Cx} {o e f : Expr} {apos cpos : Pos} {td ty tx : TE}
end

section
variable {X : Cx} {pins : List (Addr × Obj)} {σ : St} {H : Hp} {s : Shared} {a : Addr} {kvs : List (Key × V)} {A : Around} {E : Value → Shared → Prop}
end

section
variable {X : Cx} {pins : List (Addr × Obj)} {σ : St} {H : Hp} {s : Shared} {a : Addr} {y : V} {u : Value} {A : Around} {E : Value → Shared → Prop}
end
end L2

namespace Att
open PySem PySem.W PySem.Calls PyProof.Rows

end Att

namespace L2
open PySem PySem.Spec PyProof.Rows

end L2

namespace L2
open PySem PySem.Spec PyProof.Rows

end L2

namespace L2
open PySem PySem.Spec PyProof.Rows

section
variable {X : Cx}
end

section
variable {κ : Type} [DecidableEq κ]
end
end L2

namespace L2
open PySem PySem.Spec PyProof.Rows
section
variable {D : Ends} {σ : St} {H : Hp} {Q : VK} {td ty tx tv : TE}
end
end L2
namespace L2
open PySem PySem.Spec PyProof.Rows

/-! ### enumerate(list) -/
def Ite (K : PySem.W.Frag) (l : Addr) : It :=
  ⟨fun i H => ∃ xs x, SqL K H l xs ∧ xs[i]? = some x,
   fun i H v H' => ∃ T x, (∀ xs, SqL K H l xs → xs[i]? = some x) ∧ H T = none ∧ v = .ref T ∧ H' = upd H T (.tup [.int i, x]),
   fun i H => ∃ xs, SqL K H l xs ∧ xs.length ≤ i⟩
theorem turn_enum {P : Program} {w : World} {K : PySem.W.Frag} {es : List Expr} {x1} {pos : Pos} (l e it : Addr) (hne : e ≠ it) :
    Turn P w K (.Tuple es x1 pos) (Ite K l) [e, it] e (fun i h => (∃ old, IsEnum h e it (i : Int) old) ∧ h.IsListIter it l i) where
  mem := by simp
  obj := fun i h ⟨⟨old, h1⟩, h2⟩ c hc => by
    simp only [List.mem_cons, List.not_mem_nil, or_false] at hc
    rcases hc with rfl | rfl
    · exact ⟨_, h1, fun v z => by cases z⟩
    · obtain ⟨o, e, c, d⟩ := h2; exact ⟨o, e, fun v z => by rw [d] at z; cases z⟩
  keep := fun i h h' ⟨⟨old, h1⟩, h2⟩ k => ⟨⟨old, k e (by simp) _ h1⟩, h2.at fun o e => k it (by simp) o e⟩
  item := by
    intro X hP hw hK hc i pins s σ H E I hf ⟨⟨old, h1⟩, h2⟩ hg
    subst hP hw hK
    obtain ⟨xs, x, hq, hx⟩ := hg
    obtain ⟨its, rv, p, hz⟩ := I.list hq
    obtain ⟨u, hu, ru⟩ := rv.get hx
    have le : e < s.heap.objs.size := Heap.lt_size h1
    have li : it < s.heap.objs.size := by obtain ⟨o, e', _⟩ := id h2; exact Heap.lt_size e'
    refine wpAny_pyNext_enum_item h1 h2 p.isList (x := u) (by simpa using hu) hne fun h' he' hit' hT hsz hk => ?_
    refine ⟨.ref s.heap.objs.size, rfl, ?_⟩
    refine wpAny_letOwnedTupleGo_enum he' fun h'' he'' hs'' => ?_
    have hs'' : Heap.SameBut e h' h'' := hs''
    have k1 : ∀ c o, c ∉ ([e, it] : List Addr) → s.heap.get? c = some o → h''.get? c = some o := fun c o hc q => by
      simp only [List.mem_cons, List.not_mem_nil, or_false, not_or] at hc
      exact hs''.extBut _ _ hc.1 (hk c o hc.1 hc.2 q)
    have hn : H s.heap.objs.size = none := I.hok.fresh (Nat.le_refl _)
    have I1 : Inv X pins σ H { s with heap := h'', toks := s.toks + 1 } := I.turnedL k1 hf
    have hT'' : IsPair h'' s.heap.objs.size (.int i s.toks) u := hs''.extBut _ _ (Nat.ne_of_gt le) hT
    have I2 : Inv X pins σ (upd H s.heap.objs.size (.tup [.int i, x])) { s with heap := h'', toks := s.toks + 1 } := by
      refine I.step (g' := s.gens) (d' := s.drawn) (ch := [e, it]) (fun b hb => ?_) (fun b o _ _ hc e _ => k1 b o hc e) (fun b o _ _ hc e _ => ⟨o.slots, k1 b o hc e⟩) (fun b o hc e n => ?_)
        (fun b o hc e => ⟨o, k1 b o hc e⟩) (fun b ys e => ?_) (fun b o u e => ?_) (fun b ps e => ⟨#[], ?_⟩) (fun m hm => ?_) (fun b o e => ?_) I.bare
      · obtain ⟨f0, f1, f2, f3, f4, f5⟩ := hf b hb
        exact ⟨f3, f1, f4, f5⟩
      · rw [upd_ne (Nat.ne_of_lt (Heap.lt_size e))]; exact n
      · rw [upd_ne (ne_of_none e hn)]; exact e
      · rw [upd_ne (ne_of_none e hn)]; exact e
      · rw [upd_ne (ne_of_none e hn), e]; simp
      · obtain ⟨o, es', ep, ho, r⟩ := hm
        exact ⟨o, es', ep, k1 _ o (fun z => (hf _ z).2.1 rfl) ho, r⟩
      · by_cases hb : b = s.heap.objs.size
        · subst hb
          rw [upd_same] at e
          cases e
          exact ⟨(by show 2 ≤ sizeLine; decide), [.int i s.toks, u], .cons ⟨_, rfl⟩ (.cons ru .nil), ⟨_, hT'', rfl, _, rfl⟩⟩
        · rw [upd_ne hb] at e
          refine (I1.hok b o e).stay (fun c v hc q => q) (fun c q => by rw [upd_ne (ne_of_none q hn)]; exact q) fun c ys q => by rw [upd_ne (ne_of_none q hn)]; exact q
    refine ⟨.ref s.heap.objs.size, _, I2, rfl, ⟨_, x, fun ys hy => by rw [I.list_inj hy hq]; exact hx, hn, rfl, rfl⟩, ⟨⟨u, by simpa using he''⟩, hit'.at fun o q => hs''.extBut _ _ (Ne.symm hne) q⟩, fun c hc => ?_⟩
    simp only [List.mem_cons, List.not_mem_nil, or_false] at hc
    rcases hc with rfl | rfl
    · rw [upd_ne (Nat.ne_of_lt le)]; exact (hf _ (by simp)).1
    · rw [upd_ne (Nat.ne_of_lt li)]; exact (hf _ (by simp)).1
  done := by
    intro X hP hw hK hc i pins s σ H E I hf ⟨⟨old, h1⟩, h2⟩ hg
    subst hP hw hK
    obtain ⟨xs, hq, hx⟩ := hg
    obtain ⟨its, rv, p, hz⟩ := I.list hq
    have hl := rv.length
    refine wpAny_pyNext_enum_end (I.ok.hd hc) h1 h2 p.isList (by simp; omega) fun h' eb => ⟨rfl, I.turnedL (t' := s.toks) (fun c o hc q => ?_) hf⟩
    simp only [List.mem_cons, List.not_mem_nil, or_false, not_or] at hc
    exact eb c o hc.2 q
  self := fun _ _ _ _ _ ⟨⟨old, h1⟩, _⟩ h => wpAny_pyIter_enum h1 h
theorem boot_enum : bootBuiltins "enumerate" = some (.type "enumerate") := by decide +kernel
section
variable {X : Cx}
def iEnum (K : PySem.W.Frag) (ta : TA) : TI := fun σ H R => ta σ H fun vs H1 => ∃ l xs, vs = [.ref l] ∧ SqL K H1 l xs ∧ R (Ite K l) H1
theorem pi_enum {es : List Expr} {x1} {tpos : Pos} {a : Expr} {ta : TA} {p pos : Pos} (hg : Gl X "enumerate") (hm : X.mg "enumerate" = none) (ha : PA X [a] ta) (hs : starEach [a] X.env = [(false, eval a X.env)] := by rfl) :
    PI X (.Tuple es x1 tpos) (.Call (.Name "enumerate" p) [a] [] pos) (iEnum X.K ta) := by
  intro pins s σ H R I h
  refine Call_ (ld_blt I hg hm boot_enum (PyProof.Rows.callWith_type1 (thn (ha pos pins s σ H _ I h) fun us s1 ⟨vs, H1, I1, r1, q1⟩ => ?_) hs rfl))
  obtain ⟨l, xs, e, ok, q⟩ := q1
  subst e
  cases r1 with
  | cons r rr =>
    cases rr
    cases r
    obtain ⟨its, rv, pl, hz⟩ := I1.list ok
    refine call_enumerate_list pl.isList fun h' he hit hsz kp => ?_
    refine wpAny_pyIter_enum he ?_
    have I5 : Inv X pins σ H1 { s1 with heap := h' } := I1.kept (t' := s1.toks) kp
    refine ⟨s1.heap.objs.size + 1, [s1.heap.objs.size + 1, s1.heap.objs.size], _, _, H1, rfl, I5, turn_enum l _ _ (by show (_ : Nat) ≠ _; omega), ⟨⟨_, he⟩, hit⟩, fun b hb => ?_, q⟩
    have hb' : s1.heap.objs.size ≤ b := by
      simp only [List.mem_cons, List.not_mem_nil, or_false] at hb
      rcases hb with rfl | rfl
      · show s1.heap.objs.size ≤ s1.heap.objs.size + 1; omega
      · exact Nat.le_refl _
    exact I1.fpOk hb' (I1.hok.fresh hb')
end
end L2
namespace L2
open PySem PySem.Spec PyProof.Rows
section
variable {X : Cx}
end
/-! ### comprehensions by an invariant -/
section
variable {K : PySem.W.Frag} {g : TG} {tc : TC} {D : Addr} {σ0 : St} {H0 : Hp} {Q : Hp → Prop}
end
end L2
namespace L2
open PySem PySem.Spec PyProof.Rows
/-! ### range(i, j, c) with a step -/
section
variable {X : Cx} {tg : Expr}
end
section
variable {K : PySem.W.Frag} {g : TG} {tc : TC} {D : Addr} {σ0 : St} {H0 : Hp} {Q : Hp → Prop}
end
end L2
namespace L2
open PySem PySem.Spec PyProof.Rows

/-! ### a module's dict of texts by texts -/

section
variable {X : Cx} {o i e : Expr} {pos : Pos} {ti : TE} {c : Addr} {kvs : List (Str × Str)}

/-! ### is, is not of truths -/

/-! ### repr of data -/

/-! ### a, b, .. = a list -/
end
end L2
namespace L2
open PySem PySem.Spec PyProof.Rows
/-- the turn of a comprehension's loop -/
theorem dcomp_loop {prog : Program} {w : World} {A : Around} {R : Result → Shared → Prop} {s : Shared} {kx vx target iter : Expr} {ifs : List Expr} {scope : Scope} {pos : Pos} {it : Value} {D : Addr} {env : Env} (I : Nat → Shared → Prop)
    (turn : ∀ n s, I n s → wpAny (model prog w) A (pyNext it) (fun r s₁ => match r with
      | none => R (.ok .next) s₁
      | some v => wpAny (model prog w) A (letOwnedTupleGo target it v) (fun _ s₂ => wpAny (model prog w) A (assign target env v) (fun _ s₂ =>
          wpAny (model prog w) A (forIn ifs true fun c r => if r = true then do let ok ← isTrue c env (eval c env); pure (ForInStep.yield ok) else pure (ForInStep.yield r)) (fun ok s₃ =>
            if ok = true then wpAny (model prog w) A (eval kx env) (fun kv s₄ => wpAny (model prog w) A (eval vx env) (fun vv s₅ =>
              wpAny (model prog w) A (dictSet D kv vv) (fun _ s₆ => ∃ m, m < n ∧ I m s₆) (fun _ _ => False) s₅) (fun _ _ => False) s₄) (fun _ _ => False) s₃
            else ∃ m, m < n ∧ I m s₃) (fun _ _ => False) s₂) (fun _ _ => False) s₂) (fun _ _ => False) s₁) (fun _ _ => False) s)
    (n : Nat) (h : I n s) :
    codeAny (model prog w) A (.compLoop (.DictComp kx vx [⟨target, iter, ifs, 0⟩] scope pos) 0 it (.ref D) env) R s := by
  refine codeAny_loop rfl I (fun n s hI => ?_) n h
  show wpAny _ A ((compTurn (.DictComp kx vx [⟨target, iter, ifs, 0⟩] scope pos) 0 it (.ref D) env).onRaise (fun x => do noteFrame x env; theTreesLotGoes x)) _ _ s
  refine wpAny_noted ?_
  rw [compTurn_dict]
  refine wpAny_bind (wpAny_standAt (wpAny_bind (wpAny_mono (turn n s hI) (fun r s₁ h₁ => ?_) fun _ _ h' => h'.elim)))
  cases r with
  | none => exact wpAny_pure h₁
  | some v =>
    refine wpAny_bind (wpAny_mono h₁ (fun _ s₂ h₁ => ?_) fun _ _ h' => h'.elim)
    refine wpAny_bind (wpAny_mono h₁ (fun _ s₂ h₂ => wpAny_bind (wpAny_mono h₂ (fun ok s₃ h₃ => ?_) fun _ _ h' => h'.elim)) fun _ _ h' => h'.elim)
    cases ok with
    | false => exact wpAny_pure ⟨rfl, h₃⟩
    | true =>
      exact wpAny_bind (wpAny_bind (wpAny_mono h₃ (fun kv s₄ h₄ => wpAny_bind (wpAny_holding (wpAny_mono h₄ (fun vv s₅ h₅ => wpAny_bind (wpAny_standAt (wpAny_holding (wpAny_mono h₅ (fun _ s₆ h₆ => wpAny_pure ⟨rfl, h₆⟩) fun _ _ h' => h'.elim)))) fun _ _ h' => h'.elim))) fun _ _ h' => h'.elim))

section
variable {X : Cx} {tg kx vx iter : Expr} {ifs : List Expr} {scope : Scope} {pos : Pos} {N : List Str} {nt : Nat} {fr : List Nat}
/-- behind the block -/
theorem dcomp_end {pins pins' : List (Addr × Obj)} {σ σ' : St} {H H1 : Hp} {s s3 s5 : Shared} {D : Addr} {h' : Heap} {fp : List Addr} {cl : List (Str × Addr)} (I : Inv X pins σ H s) (hf : ∀ b ∈ fp, FpOk X pins H b)
    (hD : H D = none) (hDs : s.heap.objs.size ≤ D) (hDC : D < s3.heap.objs.size) (hk : ∀ b o, s.heap.get? b = some o → s3.heap.get? b = some o) (hos : s3.os = s.os)
    (J : Inv (cxComp X N scope cl s3 (upd H D (.dK [])) fp pins) pins' σ' H1 s5) (hs : Heap.SameBut s3.heap.objs.size s5.heap h') :
    Inv X pins σ H1 { s5 with heap := h' } := by
  have hsz : s.heap.objs.size ≤ s3.heap.objs.size := Nat.le_of_lt (Nat.lt_of_le_of_lt hDs hDC)
  have up3 : ∀ b, b < s.heap.objs.size → b ≠ D ∧ b ≠ s3.heap.objs.size := fun b hb => ⟨Nat.ne_of_lt (Nat.lt_of_lt_of_le hb hDs), Nat.ne_of_lt (Nat.lt_of_lt_of_le hb hsz)⟩
  have H3 : ∀ b, b ≠ D → (upd H D (.dK [])) b = H b := fun b hb => upd_ne hb
  refine I.call' (ch := fp) (s' := { s5 with heap := h' }) (J.os.trans hos) ⟨fun b o e n hb hx => ?_, fun b o e n hb hx => ?_, fun b o e n hx => ?_, fun b o e hx => ?_, fun b xs e => ?_, fun b o u e => ?_, fun b ps e => ?_⟩ ?_ J.bare fun b hb => ?_
  · obtain ⟨n1, n2⟩ := up3 b (Heap.lt_size e)
    exact (hs.2 b n2).trans (J.base.keep b o (hk b o e) ((H3 b n1).trans n) hb hx)
  · obtain ⟨n1, n2⟩ := up3 b (Heap.lt_size e)
    obtain ⟨sl, q⟩ := J.base.slot b o (hk b o e) ((H3 b n1).trans n) hb hx
    exact ⟨sl, (hs.2 b n2).trans q⟩
  · obtain ⟨n1, n2⟩ := up3 b (Heap.lt_size e)
    exact J.base.free b o (hk b o e) ((H3 b n1).trans n) hx
  · obtain ⟨n1, n2⟩ := up3 b (Heap.lt_size e)
    obtain ⟨o', q⟩ := J.base.there b o (hk b o e) hx
    exact ⟨o', (hs.2 b n2).trans q⟩
  · exact J.base.tups b xs ((H3 b (ne_of_none e hD)).trans e)
  · exact J.base.frzs b o u ((H3 b (ne_of_none e hD)).trans e)
  · exact J.base.tbls b ps ((H3 b (ne_of_none e hD)).trans e)
  · intro b u e
    refine (J.hok b u e).stay (fun c v hc q => (hs.2 c ?_).trans q) (fun _ q => q) fun _ _ q => q
    have hfree : H1 s3.heap.objs.size = none := J.free
    rintro rfl
    rcases hc with z | z
    · rw [z] at hfree; rw [hfree] at e; cases e
    · rw [hfree] at z; cases z
  · obtain ⟨f0, f1, f2, f3, f4, f5⟩ := hf b hb
    exact ⟨f3, f1, f4, f5⟩


def DPutK (H : Hp) (a : Addr) (y v : V) (H' : Hp) : Prop := ∃ kvs k, H a = some (.dK kvs) ∧ y = kV k ∧ kvs.length < sizeLine ∧ H' = upd H a (.dK (putK kvs k v))
def cPut (tk tv : TE) : TC := fun D σ H Q => tk σ H fun k H1 => tv σ H1 fun v H2 => ∃ H3, DPutK H2 D k v H3 ∧ Q H3
def tDComp (wi : TI) (nt : Nat) (fr : List Nat) (g : CC → TG) (tc : CC → TC) : TE := fun σ H Q => wi σ H fun J H1 => ∀ (c : CC) D, H1 D = none → ∃ W : Nat → Nat → St → Hp → Prop, (∃ m, W 0 m (compSt nt fr σ) (upd H1 D (.dK []))) ∧
  ∀ i m σ' H', W i m σ' H' → (J.stop i H' ∧ Q (.ref D) H') ∨ (J.go i H' ∧ ∀ x H2, J.yld i H' x H2 → g c x σ' H2 fun σ3 H3 => tc c D σ3 H3 fun H4 => ∃ m', m' < m ∧ W (i + 1) m' σ3 H4)
def PActD (Y : Cx) (D : Addr) (ifs : List Expr) (kx vx : Expr) (tc : TC) : Prop :=
  ∀ (pins : List (Addr × Obj)) (s : Shared) (σ : St) (H : Hp) (Q : Hp → Prop), Inv Y pins σ H s → tc D σ H Q →
    wpAny (model Y.prog Y.w) Y.A (forIn ifs true fun c r => if r = true then do let ok ← isTrue c Y.env (eval c Y.env); pure (ForInStep.yield ok) else pure (ForInStep.yield r)) (fun ok s₃ =>
      if ok = true then wpAny (model Y.prog Y.w) Y.A (eval kx Y.env) (fun kv s₄ => wpAny (model Y.prog Y.w) Y.A (eval vx Y.env) (fun vv s₅ =>
        wpAny (model Y.prog Y.w) Y.A (dictSet D kv vv) (fun _ s₆ => ∃ H', Inv Y pins σ H' s₆ ∧ Q H') Y.xe s₅) Y.xe s₄) Y.xe s₃
      else ∃ H', Inv Y pins σ H' s₃ ∧ Q H') Y.xe s
theorem d_dictSet {X : Cx} {pins : List (Addr × Obj)} {σ : St} {H H' : Hp} {s : Shared} {E : Value → Shared → Prop} {A : Around} {a : Addr} {y v : V} {u r : Value} {Q : Unit → Shared → Prop} (hu : A.units + 1 < cLine) (I : Inv X pins σ H s) (g : DPutK H a y v H') (ry : RelV y u) (rv : RelV v r) (h : ∀ s', Inv X pins σ H' s' → Q () s') :
    wpAny (model X.prog X.w) A (dictSet a u r) Q E s := by
  obtain ⟨kvs, k, e, ey, l, eH⟩ := g
  subst ey eH
  obtain ⟨z, hd, vs, rel, dd⟩ := dk_of I.hok e
  have hz : vs.length ≤ sizeLine := by rw [← rel.length]; exact z
  have hl : (putK kvs k v).length ≤ sizeLine := by have := length_putK kvs k v; omega
  refine wpAny_dictSet_pairs (hsz := hz) (kV_is ry) dd fun h' dd' hs => h _ ?_
  have he : ∃ q, h'.get? a = some q := let ⟨q, _, _, hq, _⟩ := dd'; ⟨q, hq⟩
  exact d_write I (by rw [e]; exact True.intro) hs he (dk_new hl hd (rel.put k rv) dd')
theorem put_ok {Y : Cx} {D : Addr} {tk tv : TE} (hu : Y.A.units + 1 < cLine) (hk : PE Y kx tk) (hv : PE Y vx tv) {pins : List (Addr × Obj)} {s : Shared} {σ : St} {H : Hp} {Q : Hp → Prop} (I : Inv Y pins σ H s) (h : cPut tk tv D σ H Q) :
    wpAny (model Y.prog Y.w) Y.A (eval kx Y.env) (fun kv s₄ => wpAny (model Y.prog Y.w) Y.A (eval vx Y.env) (fun vv s₅ =>
        wpAny (model Y.prog Y.w) Y.A (dictSet D kv vv) (fun _ s₆ => ∃ H', Inv Y pins σ H' s₆ ∧ Q H') Y.xe s₅) Y.xe s₄) Y.xe s := by
  refine thn (hk pins s σ H _ I h) fun u s1 ⟨y, H1, I1, r1, h1⟩ => thn (hv pins s1 σ H1 _ I1 h1) fun r s2 ⟨v, H2, I2, r2, H3, g, q⟩ => ?_
  exact d_dictSet hu I2 g r1 r2 fun s3 I3 => ⟨H3, I3, q⟩
theorem actD_plain {Y : Cx} {D : Addr} {tk tv : TE} (hu : Y.A.units + 1 < cLine) (hk : PE Y kx tk) (hv : PE Y vx tv) : PActD Y D [] kx vx (cPut tk tv) := by
  intro pins s σ H Q I h
  refine wpAny_tests_nil ?_
  rw [if_pos rfl]
  exact put_ok hu hk hv I h
/-- the whole block, whatever becomes of the list -/
theorem dcomp_core {wi : TI} {g : CC → TG} {tc : CC → TC} {use : Option (Value → Sem Unit)} {Q0 : Value → Shared → Prop} (hc : X.calm = true) (S : CompScope N nt fr X.N scope X.env.scope) (hi : PI X tg iter wi)
    (hg : ∀ c : CC, PG (cxC X N scope c) tg (g c)) (ha : ∀ (c : CC) D, PActD (cxC X N scope c) D ifs kx vx (tc c))
    {pins : List (Addr × Obj)} {s : Shared} {σ : St} {H : Hp} {Q : VK} (I : Inv X pins σ H s) (h : tDComp wi nt fr g tc σ H Q) (hfr : ∀ x ∈ scope.names, x.2 = .free → X.env.kindOf x.1 = some .cell)
    (fin : ∀ (D C : Addr) (s5 : Shared) (H1 : Hp), FpOk X pins H1 C → s5.heap.get? C ≠ none → C ≠ X.env.locals → (∃ m, s5.heap.Ns C m) → (∀ h', Heap.SameBut C s5.heap h' → Inv X pins σ H1 { s5 with heap := h' }) → Q (.ref D) H1 →
      compPost (model X.prog X.w) X.A X.xe use Q0 (.ref D) C (.ok .next) s5)
    (hs : ∀ x, foldedSetIterable iter X.env x = pure x := by intro _; rfl) :
    wpAny (model X.prog X.w) X.A (comprehension (.DictComp kx vx [⟨tg, iter, ifs, 0⟩] scope pos) scope X.env (firstIterPos [⟨tg, iter, ifs, 0⟩] pos) newDict false (eval iter X.env) use) Q0 X.xe s := by
  have hcells : ∀ x ∈ scope.names, x.2 = .free → ∃ c, X.env.cells.lookup x.1 = some c := fun x hx hf => I.ok.has x.1 (.inl (hfr x hx hf))
  obtain ⟨cl, hcl, h1, h2⟩ := closure_of hcells
  refine wpAny_comprehension_free (use := use) rfl hs hcl S.kind S.names (thn (hi pins s σ H _ I h) fun xv s1 hx => thn hx fun itv s2 hpe => ?_)
  obtain ⟨it, fp, tn, J, H2, rfl, I2, T, st2, f2, hW⟩ := hpe
  have hlt : ∀ b ∈ fp, b < s2.heap.objs.size := fun b hb => let ⟨o, e, _⟩ := T.obj 0 _ st2 b hb; Heap.lt_size e
  refine wpAny_newObj_type (wpAny_newFunctionEnv S.nocell (by intro y hy; simp at hy) (fun h₁ hns₁ hsb₁ => ?_) S.kind) (by first | trivial | exact Nat.zero_le _ | decide)
  have hD : H2 s2.heap.objs.size = none := I2.hok.fresh (Nat.le_refl _)
  have I3 : Inv X pins σ (upd H2 s2.heap.objs.size (.dK [])) { s2 with heap := s2.heap.push { cls := .type "dict", data := .dict #[] } } := I2.laid (a := s2.heap.objs.size) (o := .dK []) (t' := s2.toks) (fun _ _ q => Heap.get?_push_of_some _ q) (Nat.le_refl _) (dk_empty s2.heap I2.big)
  generalize hs3 : ({ s2 with heap := s2.heap.push { cls := .type "dict", data := .dict #[] } } : Shared) = s3 at hns₁ hsb₁ I3 ⊢
  obtain ⟨W, ⟨m0, w0⟩, turn⟩ := hW ⟨cl, s3, upd H2 s2.heap.objs.size (.dK []), fp, pins⟩ _ hD
  have k23 : ∀ b o, s2.heap.get? b = some o → s3.heap.get? b = some o := fun b o e => by rw [← hs3]; exact Heap.get?_push_of_some _ e
  have z3 : s3.heap.objs.size = s2.heap.objs.size + 1 := by rw [← hs3]; exact Heap.size_push ..
  have os3 : s3.os = s2.os := by rw [← hs3]
  have f3 : ∀ b ∈ fp, FpOk X pins (upd H2 s2.heap.objs.size (.dK [])) b := fun b hb => ⟨by rw [upd_ne (Nat.ne_of_lt (hlt b hb))]; exact (f2 b hb).1, (f2 b hb).2⟩
  have k34 : ∀ b o, s3.heap.get? b = some o → h₁.get? b = some o := fun b o e => hsb₁.extBut b o (Nat.ne_of_lt (Heap.lt_size e)) (Heap.get?_push_of_some _ e)
  generalize hs4 : ({ s3 with heap := h₁, toks := s3.toks + ([] : List (Str × Value)).length } : Shared) = s4
  have e4h : s4.heap = h₁ := by rw [← hs4]
  have I4 : Inv (cxComp X N scope cl s3 (upd H2 s2.heap.objs.size (.dK [])) fp pins) [] (compSt nt fr σ) (upd H2 s2.heap.objs.size (.dK [])) s4 :=
    comp_start S I3 f3 (fun b hb => by rw [z3]; exact Nat.lt_succ_of_lt (hlt b hb)) h1 h2 (fun b o e => by rw [e4h]; exact k34 b o e) ⟨_, by rw [e4h]; exact hns₁⟩ (by rw [← hs4]) (by rw [← hs4])
  have st4 : tn 0 s4.heap := T.keep 0 _ _ st2 fun b hb o e => by rw [e4h]; exact k34 b o (k23 b o e)
  have loop : codeAny (model X.prog X.w) X.A (.compLoop (.DictComp kx vx [⟨tg, iter, ifs, 0⟩] scope pos) 0 (.ref it) (.ref s2.heap.objs.size) (compEnvC scope cl s3.heap.objs.size X.env))
      (compPost (model X.prog X.w) X.A X.xe use Q0 (.ref s2.heap.objs.size) s3.heap.objs.size) s4 := by
    have stat : ∀ {H' : Hp}, (∀ b ∈ fp, H' b = none) → ∀ b ∈ fp, FpOk (cxComp X N scope cl s3 (upd H2 s2.heap.objs.size (.dK [])) fp pins) [] H' b := fun {H'} hn b hb =>
      ⟨hn b hb, Nat.ne_of_lt (show b < s3.heap.objs.size by rw [z3]; exact Nat.lt_succ_of_lt (hlt b hb)), fun z => I4.ok.exfs b hb z, .inl hb, fun x c e => (f2 b hb).2.2.2.2.1 x c (h1 x c e), fun p hp => (f2 b hb).2.2.2.2.2 p (by
        rcases List.mem_append.mp hp with z | z
        · exact z
        · exact absurd z (by simp))⟩
    refine dcomp_loop (env := compEnvC scope cl s3.heap.objs.size X.env) (fun n s' => ∃ i σ' H', Inv (cxComp X N scope cl s3 (upd H2 s2.heap.objs.size (.dK [])) fp pins) [] σ' H' s' ∧ tn i s'.heap ∧ (∀ b ∈ fp, H' b = none) ∧ W i n σ' H') ?_ m0
      ⟨0, _, _, I4, st4, fun b hb => (f3 b hb).1, w0⟩
    rintro n s5 ⟨i, σ5, H5, I5, st5, fr5, w5⟩
    rcases turn i n σ5 H5 w5 with ⟨stop, qn⟩ | ⟨go, step⟩
    · refine thn (T.done (cxComp X N scope cl s3 (upd H2 s2.heap.objs.size (.dK [])) fp pins) rfl rfl rfl hc i [] s5 σ5 H5 (fun _ _ => False) I5 (stat fr5) st5 stop) fun r s6 ⟨hr, I6⟩ => ?_
      subst hr
      obtain ⟨m, hm, _⟩ := id I6.loc
      refine fin _ _ s6 H5 (I2.fpOk (by rw [z3]; exact Nat.le_succ _) I6.free) ?_ ?_ ⟨m, hm⟩ (fun h' hs' => dcomp_end I2 f2 hD (Nat.le_refl _) (by rw [z3]; exact Nat.lt_succ_self _) k23 os3 I6 hs') qn
      · obtain ⟨o, _, _, ho, _⟩ := hm
        intro z
        have ho' : s6.heap.get? s3.heap.objs.size = some o := ho
        rw [z] at ho'; cases ho'
      · exact Nat.ne_of_gt (Nat.lt_trans I2.lt (by rw [z3]; exact Nat.lt_succ_self _))
    · refine thn (T.item (cxComp X N scope cl s3 (upd H2 s2.heap.objs.size (.dK [])) fp pins) rfl rfl rfl hc i [] s5 σ5 H5 (fun _ _ => False) I5 (stat fr5) st5 go) fun r s6 ⟨u, hr, h6⟩ => ?_
      subst hr
      refine thn h6 fun _ s7 ⟨x, H7, I7, r7, y7, st7, fr7⟩ => ?_
      have I7' := I7.pinned (stat fr7) (T.obj _ _ st7)
      refine thn (hg ⟨cl, s3, upd H2 s2.heap.objs.size (.dK []), fp, pins⟩ _ s7 σ5 H7 x u _ I7' r7 (step x H7 y7)) fun _ s8 ⟨σ8, H8, I8, q8⟩ => ?_
      refine thn (ha ⟨cl, s3, upd H2 s2.heap.objs.size (.dK []), fp, pins⟩ _ _ s8 σ8 H8 _ I8 q8) fun ok s9 h9 => ?_
      have again : ∀ {s7' : Shared}, (∃ H', Inv (cxComp X N scope cl s3 (upd H2 s2.heap.objs.size (.dK [])) fp pins) ([] ++ pinsAt fp s7.heap) σ8 H' s7' ∧ ∃ m', m' < n ∧ W (i + 1) m' σ8 H') →
          ∃ m, m < n ∧ ∃ i σ' H', Inv (cxComp X N scope cl s3 (upd H2 s2.heap.objs.size (.dK [])) fp pins) [] σ' H' s7' ∧ tn i s7'.heap ∧ (∀ b ∈ fp, H' b = none) ∧ W i m σ' H' := fun {s7'} ⟨H', I', m', hm, w'⟩ => by
        refine ⟨m', hm, i + 1, σ8, H', I'.unpinned, T.keep _ _ _ st7 fun b hb o e => (I'.pin (b, o) (List.mem_append_right _ (List.mem_append_right _ (mem_pinsAt hb e)))).1, fun b hb => ?_, w'⟩
        obtain ⟨o, e, d⟩ := T.obj _ _ st7 b hb
        exact (I'.pin (b, o) (List.mem_append_right _ (List.mem_append_right _ (mem_pinsAt hb e)))).2.1
      cases ok with
      | true =>
        rw [if_pos rfl] at h9 ⊢
        exact thn h9 fun y s10 h10 => thn h10 fun z s11 h11 => thn h11 fun _ s12 h12 => again h12
      | false =>
        rw [if_neg Bool.false_ne_true] at h9 ⊢
        exact again h9
  exact codeAny_compStart_dict loop (T.self X.A 0 s4 _ _ st4 loop)

/-- name = [elt for tg in iter if ..] -/
theorem ps_setDC {i : Nat} {y : Str} {py spos : Pos} {wi : TI} {g : CC → TG} {tc : CC → TC} (hN : X.N.Nodup) (hy : X.N[i]? = some y) (hl : X.env.scope.names.lookup y = some .local) (hc : X.calm = true) (S : CompScope N nt fr X.N scope X.env.scope) (hi : PI X tg iter wi)
    (hg : ∀ c : CC, PG (cxC X N scope c) tg (g c)) (ha : ∀ (c : CC) D, PActD (cxC X N scope c) D ifs kx vx (tc c))
    (hs : ∀ x, foldedSetIterable iter X.env x = pure x := by intro _; rfl)
    (hsw : swapsWith (.DictComp kx vx [⟨tg, iter, ifs, 0⟩] scope pos) (some (.Name y py)) spos.line X.env = pure true := by rfl) :
    PS X (.Assign [.Name y py] (.DictComp kx vx [⟨tg, iter, ifs, 0⟩] scope pos) spos) (tAsg (tDComp wi nt fr g tc) (gName i)) := by
  intro pins s σ H D I h
  rw [exec_Assign_Name_used _ _ _ _ hsw]
  refine wpAny_bind (wpAny_standAt (wpAny_bind ?_))
  show wpAny _ X.A (do let _ ← comprehension (.DictComp kx vx [⟨tg, iter, ifs, 0⟩] scope pos) scope X.env _ newDict false (eval iter X.env) (some (assign (.Name y py) X.env))) _ _ s
  refine wpAny_bind (wpAny_mono (dcomp_core (use := some (assign (.Name y py) X.env)) (Q := fun x H1 => D.nx (σ.set i (some x)) H1) (Q0 := fun _ s' => SP X pins D .next s') hc S hi hg ha I h (fun x hx hf => S.cells x hx hf) (fun Dd C s5 H1 fp hC _ hm hI q => ?_) hs) (fun _ s' hq => wpAny_pure (wpAny_pure hq)) fun _ _ e => e)
  obtain ⟨m, hm⟩ := hm
  have I5 : Inv X pins σ H1 s5 := hI s5.heap ⟨rfl, fun _ _ => rfl⟩
  show wpAny _ X.A (assign (.Name y py) X.env (.ref Dd)) _ _ _
  refine wpAny_assign_Name (store_ok2 I5 hN hy (.inl hl) (v := .ref Dd) rfl (fun s6 I6 hsb => ?_) (.inr hl))
  obtain ⟨a, hs6, ha6⟩ := hsb
  have hCa : C ≠ a := by
    rcases ha6 with e | e
    · rw [e]; exact fp.2.1
    · exact fun z => fp.2.2.2.2.1 _ _ e z.symm
  exact ⟨m, hm.sameBut hs6 hCa, fun h' hs' => ⟨_, H1, I6.turned (t' := s6.toks) (fun b o hb e => (hs'.2 b hb).trans e) fp.1 fp.2.1 fp.2.2.2.1 fp.2.2.2.2.1 fp.2.2.2.2.2, q⟩⟩
end


end L2
namespace L2
open PySem PySem.Spec PyProof.Rows

/-! ### data and who owns it -/
structure Kp (S : Addr → Prop) (H H' : Hp) : Prop where
  k : ∀ b o, H b = some o → ¬ S b → H' b = some o
  n : ∀ b, H' b = none → H b = none
section
variable {S T S' : Addr → Prop} {H H1 H' H2 : Hp} {p : Addr} {o : HO}
theorem Kp.refl (S : Addr → Prop) (H : Hp) : Kp S H H := ⟨fun _ _ h _ => h, fun _ h => h⟩
theorem Kp.trans (a : Kp S H H1) (b : Kp S H1 H2) : Kp S H H2 := ⟨fun c o h n => b.k c o (a.k c o h n) n, fun c h => a.n c (b.n c h)⟩
theorem Kp.weak (a : Kp S H H') (h : ∀ b, S b → T b ∨ H b = none) : Kp T H H' := ⟨fun b o e n => a.k b o e fun z => (h b z).elim n fun q => (by rw [q] at e; cases e), a.n⟩
theorem Kp.put (hp : S p ∨ H p = none) : Kp S H (upd H p o) := by
  refine ⟨fun b u h n => ?_, fun b h => ?_⟩
  · have ne : b ≠ p := fun e => by
      subst e
      rcases hp with hp | hp
      · exact n hp
      · rw [hp] at h; cases h
    rw [upd_ne ne]; exact h
  · by_cases e : b = p
    · subst e; rw [upd_same] at h; cases h
    · rw [upd_ne e] at h; exact h
theorem Kp.keep (a : Kp (fun _ => False) H H') : Keep [] H H' := fun b o h _ => a.k b o h (fun z => z)
/-- F from H on, whatever becomes of S -/
def Bx (S : Addr → Prop) (F : Hp → Prop) (H : Hp) : Prop := ∀ H', Kp S H H' → F H'
theorem Bx.now {F : Hp → Prop} (h : Bx S F H) : F H := h H (Kp.refl _ _)
theorem Bx.step {F : Hp → Prop} (h : Bx S F H) (k : Kp S H H') (n : ∀ b, S' b → S b ∨ H b = none) : Bx S' F H' := fun H2 k' =>
  h H2 ⟨fun b o e ns => k'.k b o (k.k b o e ns) fun z => (n b z).elim ns fun q => (by rw [q] at e; cases e), fun b e => k.n b (k'.n b e)⟩
end
mutual
inductive Fz (K : PySem.W.Frag) (S : Addr → Prop) (H : Hp) : V → PyData → Prop
  | non : Fz K S H .non .none
  | bl (b : Bool) : Fz K S H (.bl b) (.bool b)
  | int (i : Int) : Fz K S H (.int i) (.int i)
  | str (x : Str) : Fz K S H (.str x) (.str x)
  | lst {a xs ds} : Bx S (fun H => SqL K H a xs) H → FzA K S H xs ds → Fz K S H (.ref a) (.list ds)
  | tup {a xs ds} : Bx S (fun H => SqT K H a xs) H → FzA K S H xs ds → Fz K S H (.ref a) (.tuple ds)
inductive FzA (K : PySem.W.Frag) (S : Addr → Prop) (H : Hp) : List V → List PyData → Prop
  | nil : FzA K S H [] []
  | cons {x d xs ds} : Fz K S H x d → FzA K S H xs ds → FzA K S H (x :: xs) (d :: ds)
end
section
variable {K : PySem.W.Frag} {S T S' : Addr → Prop} {H H1 H' H2 : Hp}
mutual
theorem Fz.step (k : Kp S H H') (n : ∀ b, S' b → S b ∨ H b = none) : ∀ {v : V} {d : PyData}, Fz K S H v d → Fz K S' H' v d
  | _, _, .non => .non
  | _, _, .bl b => .bl b
  | _, _, .int i => .int i
  | _, _, .str x => .str x
  | _, _, .lst h t => .lst (h.step k n) (FzA.step k n t)
  | _, _, .tup h t => .tup (h.step k n) (FzA.step k n t)
theorem FzA.step (k : Kp S H H') (n : ∀ b, S' b → S b ∨ H b = none) : ∀ {vs : List V} {ds : List PyData}, FzA K S H vs ds → FzA K S' H' vs ds
  | _, _, .nil => .nil
  | _, _, .cons r t => .cons (Fz.step k n r) (FzA.step k n t)
end
mutual
theorem Fz.dt : ∀ {v : V} {d : PyData}, Fz K S H v d → Dt K H v d
  | _, _, .non => .non
  | _, _, .bl b => .bl b
  | _, _, .int i => .int i
  | _, _, .str x => .str x
  | _, _, .lst h t => .lst h.now (FzA.dt t)
  | _, _, .tup h t => .tup h.now (FzA.dt t)
theorem FzA.dt : ∀ {vs : List V} {ds : List PyData}, FzA K S H vs ds → DtAll K H vs ds
  | _, _, .nil => .nil
  | _, _, .cons r t => .cons (Fz.dt r) (FzA.dt t)
end
mutual
theorem Fz.of0 : ∀ {v : V} {d : PyData}, Dt K H v d → Fz K (fun _ => False) H v d
  | _, _, .non => .non
  | _, _, .bl b => .bl b
  | _, _, .int i => .int i
  | _, _, .str x => .str x
  | _, _, .lst h t => .lst (fun H' k => k.keep.same.seq h) (FzA.of0 t)
  | _, _, .tup h t => .tup (fun H' k => k.keep.same.tupS h) (FzA.of0 t)
theorem FzA.of0 : ∀ {vs : List V} {ds : List PyData}, DtAll K H vs ds → FzA K (fun _ => False) H vs ds
  | _, _, .nil => .nil
  | _, _, .cons r t => .cons (Fz.of0 r) (FzA.of0 t)
end
theorem Fz.sub (h : ∀ b, S' b → S b) {v : V} {d : PyData} (f : Fz K S H v d) : Fz K S' H v d := f.step (Kp.refl _ _) fun b z => .inl (h b z)
theorem FzA.sub (h : ∀ b, S' b → S b) {v : List V} {d : List PyData} (f : FzA K S H v d) : FzA K S' H v d := f.step (Kp.refl _ _) fun b z => .inl (h b z)
theorem FzA.length : ∀ {vs : List V} {ds : List PyData}, FzA K S H vs ds → vs.length = ds.length
  | _, _, .nil => rfl
  | _, _, .cons _ t => by rw [List.length_cons, List.length_cons, FzA.length t]
theorem FzA.append : ∀ {vs ws : List V} {ds es : List PyData}, FzA K S H vs ds → FzA K S H ws es → FzA K S H (vs ++ ws) (ds ++ es)
  | _, _, _, _, .nil, h => h
  | _, _, _, _, .cons r t, h => .cons r (FzA.append t h)
theorem FzA.set {u : V} {d : PyData} (h : Fz K S H u d) : ∀ (n : Nat) {vs : List V} {ds : List PyData}, FzA K S H vs ds → FzA K S H (vs.set n u) (ds.set n d)
  | _, _, _, .nil => .nil
  | 0, _, _, .cons _ t => .cons h t
  | n + 1, _, _, .cons r t => .cons r (FzA.set h n t)
theorem FzA.ints : ∀ (ns : List Int), FzA K S H (ns.map V.int) (ns.map PyData.int)
  | [] => .nil
  | n :: ns => .cons (.int n) (FzA.ints ns)
theorem FzA.ints_eq : ∀ {vs : List V} {ns : List Int}, FzA K S H vs (ns.map PyData.int) → vs = ns.map V.int
  | _, [], .nil => rfl
  | _, _ :: _, .cons (.int _) t => by rw [List.map_cons, FzA.ints_eq t]
theorem Fz.list_inv {v : V} {ds : List PyData} (h : Fz K S H v (.list ds)) : ∃ a xs, v = .ref a ∧ Bx S (fun H => SqL K H a xs) H ∧ FzA K S H xs ds := by
  cases h with | lst h t => exact ⟨_, _, rfl, h, t⟩
theorem Fz.tup_inv {v : V} {ds : List PyData} (h : Fz K S H v (.tuple ds)) : ∃ a xs, v = .ref a ∧ Bx S (fun H => SqT K H a xs) H ∧ FzA K S H xs ds := by
  cases h with | tup h t => exact ⟨_, _, rfl, h, t⟩
theorem bx_lst {a : Addr} {xs : List V} (h : H a = some (.lst xs)) (n : ¬ S a) : Bx S (fun H => SqL K H a xs) H := fun _ k => SqL.of (k.k _ _ h n)
theorem bx_tup {a : Addr} {xs : List V} (h : H a = some (.tup xs)) (n : ¬ S a) : Bx S (fun H => SqT K H a xs) H := fun _ k => SqT.of (k.k _ _ h n)
end

/-- a part of what is owned: data that is never changed again, or a list of such data -/
inductive CD where | fz (d : PyData) | lst (ds : List PyData)
inductive OD where | fz (d : PyData) | lst (ds : List PyData) | tup (xs : List CD) | lsc (xs : List CD) | tape (p : Addr) (n : Int) | dic (kvs : List (Key × PyData)) | pin (l : Bool) (xs : List V) (ds : List PyData)
def CD.dat : CD → PyData | .fz d => d | .lst ds => .list ds
def OD.dat : OD → Option PyData | .fz d => some d | .lst ds => some (.list ds) | .tup xs => some (.tuple (xs.map CD.dat)) | .lsc xs => some (.list (xs.map CD.dat)) | .tape _ _ => none | .dic _ => none | .pin l _ ds => some (if l then .list ds else .tuple ds)
def CD.od : CD → OD | .fz d => .fz d | .lst ds => .lst ds
def OD.cd : OD → Option CD | .lst ds => some (.lst ds) | x => x.dat.map CD.fz
structure Bs where
  K : PySem.W.Frag
  H0 : Hp
  S0 : Addr → Prop
  C : Addr → Prop
/-- the tape stands at p; n: how often it has been asked at most -/
def Tape (H : Hp) (p : Addr) (n : Int) : Prop := ∃ a b c : Int, H p = some (.lst [.int a, .int b, .int c]) ∧ 0 ≤ a ∧ 0 ≤ b ∧ b < 2147483647 ∧ 0 ≤ c ∧ c ≤ n
def OwC (b : Bs) (S : Addr → Prop) (H : Hp) (v : V) : CD → List Addr → Prop
  | .fz d, A => A = [] ∧ Fz b.K S H v d
  | .lst ds, A => ∃ a vs, v = .ref a ∧ A = [a] ∧ b.H0 a = none ∧ H a = some (.lst vs) ∧ FzA b.K S H vs ds
inductive OwCs (b : Bs) (S : Addr → Prop) (H : Hp) : List V → List CD → List Addr → Prop
  | nil : OwCs b S H [] [] []
  | cons {v x A vs xs B} : OwC b S H v x A → OwCs b S H vs xs B → OwCs b S H (v :: vs) (x :: xs) (A ++ B)
def Ow (b : Bs) (S : Addr → Prop) (H : Hp) (v : V) : OD → List Addr → Prop
  | .fz d, A => A = [] ∧ Fz b.K S H v d
  | .lst ds, A => ∃ a vs, v = .ref a ∧ A = [a] ∧ b.H0 a = none ∧ H a = some (.lst vs) ∧ FzA b.K S H vs ds
  | .tup xs, A => ∃ a vs, v = .ref a ∧ H a = some (.tup vs) ∧ OwCs b S H vs xs A
  | .lsc xs, A => ∃ a vs B, v = .ref a ∧ A = a :: B ∧ b.H0 a = none ∧ H a = some (.lst vs) ∧ OwCs b S H vs xs B
  | .tape p n, A => v = .ref p ∧ A = [p] ∧ Tape H p n
  | .dic kvs, A => ∃ a ws, v = .ref a ∧ A = [a] ∧ b.H0 a = none ∧ H a = some (.dK ws) ∧ Paired (fun (p : Key × V) (q : Key × PyData) => p.1 = q.1 ∧ Fz b.K S H p.2 q.2) ws kvs
  | .pin l xs ds, A => A = [] ∧ ∃ a, v = .ref a ∧ Bx S (fun H => if l then SqL b.K H a xs else SqT b.K H a xs) H ∧ FzA b.K S H xs ds
inductive OwL (b : Bs) (S : Addr → Prop) (H : Hp) : List (V × OD) → List Addr → Prop
  | nil : OwL b S H [] []
  | cons {v x A L B} : Ow b S H v x A → OwL b S H L B → OwL b S H ((v, x) :: L) (A ++ B)
section
variable {b : Bs} {S T S' : Addr → Prop} {H H1 H' H2 : Hp}
theorem OwC.od {v : V} {x : CD} {A : List Addr} (h : OwC b S H v x A) : Ow b S H v x.od A := by cases x <;> exact h
theorem OwC.of {v : V} {x : CD} {A : List Addr} (h : Ow b S H v x.od A) : OwC b S H v x A := by cases x <;> exact h
theorem OwC.ne {v : V} {x : CD} {A : List Addr} (h : OwC b S H v x A) : ∀ a ∈ A, H a ≠ none ∧ b.H0 a = none ∧ ∃ vs, H a = some (.lst vs) := by
  cases x with
  | fz d => obtain ⟨rfl, _⟩ := h; simp
  | lst ds =>
    obtain ⟨a, vs, rfl, rfl, h0, h1, _⟩ := h
    intro c hc
    rw [List.mem_singleton.mp hc]
    exact ⟨by rw [h1]; simp, h0, vs, h1⟩
theorem OwCs.ne {vs : List V} {xs : List CD} {A : List Addr} (h : OwCs b S H vs xs A) : ∀ a ∈ A, H a ≠ none ∧ b.H0 a = none ∧ ∃ vs, H a = some (.lst vs) := by
  induction h with
  | nil => simp
  | cons r t ih => intro a ha; exact (List.mem_append.mp ha).elim (r.ne a) (ih a)
theorem Ow.ne {v : V} {x : OD} {A : List Addr} (h : Ow b S H v x A) : ∀ a ∈ A, H a ≠ none := by
  cases x with
  | fz d => obtain ⟨rfl, _⟩ := h; simp
  | lst ds => obtain ⟨a, vs, rfl, rfl, h0, h1, _⟩ := h; intro c hc; rw [List.mem_singleton.mp hc, h1]; simp
  | tup xs => obtain ⟨a, vs, rfl, h1, h⟩ := h; intro c hc; exact (h.ne c hc).1
  | lsc xs =>
    obtain ⟨a, vs, B, rfl, rfl, h0, h1, h⟩ := h
    intro c hc
    rcases List.mem_cons.mp hc with rfl | hc
    · rw [h1]; simp
    · exact (h.ne c hc).1
  | tape p n => obtain ⟨rfl, rfl, a, b', c, h1, _⟩ := h; intro c hc; rw [List.mem_singleton.mp hc, h1]; simp
  | dic kvs => obtain ⟨a, vs, rfl, rfl, h0, h1, _⟩ := h; intro c hc; rw [List.mem_singleton.mp hc, h1]; simp
  | pin l xs ds => obtain ⟨rfl, _⟩ := h; simp
theorem OwC.step (k : Kp S H H') (n : ∀ b, S' b → S b ∨ H b = none) {v : V} {x : CD} {A : List Addr} (s : ∀ a ∈ A, H' a = H a) (h : OwC b S H v x A) : OwC b S' H' v x A := by
  cases x with
  | fz d => exact ⟨h.1, h.2.step k n⟩
  | lst ds => obtain ⟨a, vs, rfl, rfl, h0, h1, h2⟩ := h; exact ⟨a, vs, rfl, rfl, h0, by rw [s a (by simp)]; exact h1, h2.step k n⟩
theorem OwCs.step (k : Kp S H H') (n : ∀ b, S' b → S b ∨ H b = none) {vs : List V} {xs : List CD} {A : List Addr} (s : ∀ a ∈ A, H' a = H a) (h : OwCs b S H vs xs A) : OwCs b S' H' vs xs A := by
  induction h with
  | nil => exact .nil
  | cons r t ih => exact .cons (r.step k n fun a ha => s a (List.mem_append_left _ ha)) (ih fun a ha => s a (List.mem_append_right _ ha))
theorem Ow.step (k : Kp S H H') (n : ∀ b, S' b → S b ∨ H b = none) (hs : ∀ a xs, H a = some (.tup xs) → ¬ S a) {v : V} {x : OD} {A : List Addr} (s : ∀ a ∈ A, H' a = H a) (h : Ow b S H v x A) : Ow b S' H' v x A := by
  cases x with
  | fz d => exact ⟨h.1, h.2.step k n⟩
  | lst ds => obtain ⟨a, vs, rfl, rfl, h0, h1, h2⟩ := h; exact ⟨a, vs, rfl, rfl, h0, by rw [s a (by simp)]; exact h1, h2.step k n⟩
  | tup xs => obtain ⟨a, vs, rfl, h1, h⟩ := h; exact ⟨a, vs, rfl, k.k _ _ h1 (hs a _ h1), h.step k n s⟩
  | lsc xs => obtain ⟨a, vs, B, rfl, rfl, h0, h1, h⟩ := h; exact ⟨a, vs, B, rfl, rfl, h0, by rw [s a (by simp)]; exact h1, h.step k n fun c hc => s c (by simp [hc])⟩
  | tape p n => obtain ⟨rfl, rfl, a, b', c, h1, h2⟩ := h; exact ⟨rfl, rfl, a, b', c, by rw [s p (by simp)]; exact h1, h2⟩
  | dic kvs => obtain ⟨a, ws, rfl, rfl, h0, h1, h2⟩ := h; exact ⟨a, ws, rfl, rfl, h0, by rw [s a (by simp)]; exact h1, Paired.mapP h2 fun _ _ ⟨e, f⟩ => ⟨e, f.step k n⟩⟩
  | pin l xs ds => obtain ⟨rfl, a, rfl, h1, h2⟩ := h; exact ⟨rfl, a, rfl, h1.step k n, h2.step k n⟩
theorem OwL.ne {L : List (V × OD)} {A : List Addr} (h : OwL b S H L A) : ∀ a ∈ A, H a ≠ none := by
  induction h with
  | nil => simp
  | cons r t ih => intro a ha; exact (List.mem_append.mp ha).elim (r.ne a) (ih a)
theorem OwL.step (k : Kp S H H') (n : ∀ b, S' b → S b ∨ H b = none) (hs : ∀ a xs, H a = some (.tup xs) → ¬ S a) {L : List (V × OD)} {A : List Addr} (s : ∀ a ∈ A, H' a = H a) (h : OwL b S H L A) : OwL b S' H' L A := by
  induction h with
  | nil => exact .nil
  | cons r t ih => exact .cons (r.step k n hs fun a ha => s a (List.mem_append_left _ ha)) (ih fun a ha => s a (List.mem_append_right _ ha))
theorem OwL.perm {L L' : List (V × OD)} (p : L.Perm L') : ∀ {A : List Addr}, OwL b S H L A → ∃ A', OwL b S H L' A' ∧ A.Perm A' := by
  induction p with
  | nil => intro A h; exact ⟨A, h, .refl _⟩
  | cons x _ ih =>
    intro A h
    cases h with
    | cons r t => obtain ⟨B, h2, q⟩ := ih t; exact ⟨_, .cons r h2, q.append_left _⟩
  | swap x y l =>
    intro A h
    cases h with
    | cons r t =>
      cases t with
      | cons r' t' =>
        refine ⟨_, .cons r' (.cons r t'), ?_⟩
        rw [← List.append_assoc, ← List.append_assoc]
        exact List.perm_append_comm.append_right _
  | trans _ _ ih1 ih2 =>
    intro A h
    obtain ⟨B, h1, p1⟩ := ih1 h
    obtain ⟨C, h2, p2⟩ := ih2 h1
    exact ⟨C, h2, p1.trans p2⟩
theorem OwL.split {L1 L2 : List (V × OD)} {A : List Addr} (h : OwL b S H (L1 ++ L2) A) : ∃ A1 A2, A = A1 ++ A2 ∧ OwL b S H L1 A1 ∧ OwL b S H L2 A2 := by
  induction L1 generalizing A with
  | nil => exact ⟨[], A, rfl, .nil, h⟩
  | cons x L1 ih =>
    cases h with
    | cons r t => obtain ⟨A1, A2, rfl, h1, h2⟩ := ih t; exact ⟨_, A2, (List.append_assoc ..).symm, .cons r h1, h2⟩
theorem OwL.join {L1 L2 : List (V × OD)} {A1 A2 : List Addr} (h1 : OwL b S H L1 A1) (h2 : OwL b S H L2 A2) : OwL b S H (L1 ++ L2) (A1 ++ A2) := by
  induction h1 with
  | nil => exact h2
  | cons r t ih => rw [List.append_assoc]; exact .cons r ih
end
end L2
namespace L2
open PySem PySem.Spec PyProof.Rows
/-- what is owned, one of nothing else's -/
structure Wd (b : Bs) (H : Hp) (L : List (V × OD)) : Prop where
  out : ∃ A, OwL b (fun a => a ∈ A ∨ b.S0 a) H L A ∧ A.Nodup ∧ ∀ a ∈ A, b.H0 a = none ∨ b.C a
  fr : Kp b.C b.H0 H
  s0 : ∀ a, b.S0 a → b.H0 a ≠ none
  c0 : ∀ a, b.C a → b.S0 a
  nt : ∀ a xs, H a = some (.tup xs) → ¬ b.S0 a
section
variable {b : Bs} {H H1 H' : Hp} {L L' : List (V × OD)} {v u : V} {x y : OD} {d : PyData} {ds : List PyData} {p a : Addr}
theorem OwCs.tl {S : Addr → Prop} {vs : List V} {x : List CD} {A : List Addr} (h : OwCs b S H vs x A) : ∀ a ∈ A, ∀ xs, H a ≠ some (.tup xs) := fun a ha xs e => by
  obtain ⟨_, _, vs, q⟩ := h.ne a ha
  rw [q] at e; cases e
theorem Ow.tl {S : Addr → Prop} {A : List Addr} (h : Ow b S H v x A) : ∀ a ∈ A, ∀ xs, H a ≠ some (.tup xs) := by
  intro c hc ys e
  cases x with
  | fz d => obtain ⟨rfl, _⟩ := h; cases hc
  | lst ds => obtain ⟨a, vs, rfl, rfl, h0, h1, _⟩ := h; rw [List.mem_singleton.mp hc, h1] at e; cases e
  | tup xs => obtain ⟨a, vs, rfl, h1, h⟩ := h; exact h.tl c hc _ e
  | lsc xs =>
    obtain ⟨a, vs, B, rfl, rfl, h0, h1, h⟩ := h
    rcases List.mem_cons.mp hc with rfl | hc
    · rw [h1] at e; cases e
    · exact h.tl c hc _ e
  | tape p n => obtain ⟨rfl, rfl, a, b', c', h1, _⟩ := h; rw [List.mem_singleton.mp hc, h1] at e; cases e
  | dic kvs => obtain ⟨a, vs, rfl, rfl, h0, h1, _⟩ := h; rw [List.mem_singleton.mp hc, h1] at e; cases e
  | pin l xs ds => obtain ⟨rfl, _⟩ := h; cases hc
theorem OwL.tl {S : Addr → Prop} {A : List Addr} (h : OwL b S H L A) : ∀ a ∈ A, ∀ xs, H a ≠ some (.tup xs) := by
  induction h with
  | nil => intro a ha; cases ha
  | cons r t ih => intro a ha; exact (List.mem_append.mp ha).elim (r.tl a) (ih a)
theorem Wd.nt' (w : Wd b H L) {A : List Addr} (h : OwL b (fun a => a ∈ A ∨ b.S0 a) H L A) : ∀ a xs, H a = some (.tup xs) → ¬ (a ∈ A ∨ b.S0 a) := fun a xs e z => z.elim (fun z => h.tl a z xs e) (w.nt a xs e)
theorem Wd.al (w : Wd b H L) {A : List Addr} (h : OwL b (fun a => a ∈ A ∨ b.S0 a) H L A) {a : Addr} (e : H a = none) : ¬ (a ∈ A ∨ b.S0 a) := fun z => z.elim (fun z => h.ne a z e) fun z => w.s0 a z (w.fr.n a e)
theorem Wd.perm (w : Wd b H L) (q : L.Perm L') : Wd b H L' := by
  obtain ⟨A, h, nd, new⟩ := w.out
  obtain ⟨A', h', pA⟩ := h.perm q
  refine ⟨⟨A', h'.step (Kp.refl _ _) (fun c z => .inl (z.imp (pA.mem_iff.mpr) id)) (w.nt' h) (fun _ _ => rfl), pA.nodup_iff.mp nd, fun a ha => new a (pA.mem_iff.mpr ha)⟩, w.fr, w.s0, w.c0, w.nt⟩
theorem Wd.drop (w : Wd b H ((v, x) :: L)) : Wd b H L := by
  obtain ⟨A, h, nd, new⟩ := w.out
  have nt := w.nt' h
  cases h with
  | @cons _ _ A _ B r t =>
    exact ⟨⟨B, t.step (Kp.refl _ _) (fun c z => .inl (z.imp (List.mem_append_right _) id)) nt (fun _ _ => rfl), (List.nodup_append.mp nd).2.1, fun a ha => new a (List.mem_append_right _ ha)⟩, w.fr, w.s0, w.c0, w.nt⟩
/-- the first one's own -/
theorem Wd.head (w : Wd b H ((v, x) :: L)) : ∃ S A, Ow b S H v x A ∧ A.Nodup ∧ (∀ a, b.S0 a → S a) ∧ (∀ a ∈ A, S a) ∧ ∀ a ∈ A, b.H0 a = none ∨ b.C a := by
  obtain ⟨A, h, nd, new⟩ := w.out
  cases h with
  | @cons _ _ A _ B r t => exact ⟨_, A, r, (List.nodup_append.mp nd).1, fun a z => .inr z, fun a z => .inl (List.mem_append_left _ z), fun a z => new a (List.mem_append_left _ z)⟩
theorem Ow.h0 {S : Addr → Prop} {A : List Addr} (h : Ow b S H v x A) (hx : ∀ p n, x ≠ .tape p n) : ∀ a ∈ A, b.H0 a = none := by
  intro c hc
  cases x with
  | fz d => obtain ⟨rfl, _⟩ := h; cases hc
  | lst ds => obtain ⟨a, vs, rfl, rfl, h0, h1, _⟩ := h; rw [List.mem_singleton.mp hc]; exact h0
  | tup xs => obtain ⟨a, vs, rfl, h1, h⟩ := h; exact (h.ne c hc).2.1
  | lsc xs =>
    obtain ⟨a, vs, B, rfl, rfl, h0, h1, h⟩ := h
    rcases List.mem_cons.mp hc with rfl | hc
    · exact h0
    · exact (h.ne c hc).2.1
  | tape p n => exact absurd rfl (hx p n)
  | dic kvs => obtain ⟨a, vs, rfl, rfl, h0, h1, _⟩ := h; rw [List.mem_singleton.mp hc]; exact h0
  | pin l xs ds => obtain ⟨rfl, _⟩ := h; cases hc
/-- the first one is taken for something else, of which it owns no more -/
theorem Wd.put (w : Wd b H ((v, x) :: L)) (hx : ∀ p n, x ≠ .tape p n) (h : ∀ (S : Addr → Prop) (A : List Addr), Ow b S H v x A → A.Nodup → (∀ a ∈ A, S a) → (∀ a, H a = none → ¬ S a) → (∀ a xs, H a = some (.tup xs) → ¬ S a) →
    ∃ A', Ow b (fun a => (S a ∧ a ∉ A) ∨ a ∈ A') H u y A' ∧ A'.Nodup ∧ ∀ a ∈ A', a ∈ A) : Wd b H ((u, y) :: L) := by
  obtain ⟨A0, h0, nd, new⟩ := w.out
  have nt := w.nt' h0
  have al := fun {a} => w.al h0 (a := a)
  cases h0 with
  | @cons _ _ A _ B r t =>
    obtain ⟨nA, nB, dj⟩ := List.nodup_append.mp nd
    have rh := r.h0 hx
    obtain ⟨A', h1, n', s'⟩ := h _ A r nA (fun a z => .inl (List.mem_append_left _ z)) (fun a e => al e) nt
    have sub : ∀ c, (c ∈ A' ++ B ∨ b.S0 c) → (c ∈ A ++ B ∨ b.S0 c) := fun c z => z.imp (fun z => (List.mem_append.mp z).elim (fun z => List.mem_append_left _ (s' c z)) (List.mem_append_right _)) id
    refine ⟨⟨A' ++ B, .cons (h1.step (Kp.refl _ _) (fun c z => .inl ?_) (fun a xs e z => ?_) fun _ _ => rfl) (t.step (Kp.refl _ _) (fun c z => .inl (sub c z)) nt fun _ _ => rfl), List.nodup_append.mpr ⟨n', nB, fun a ha c hc => dj a (s' a ha) c hc⟩, fun a ha => ?_⟩, w.fr, w.s0, w.c0, w.nt⟩
    · by_cases hc : c ∈ A'
      · exact .inr hc
      · refine .inl ⟨sub c z, fun hA => ?_⟩
        rcases z with z | z
        · rcases List.mem_append.mp z with z | z
          · exact hc z
          · exact dj c hA c z rfl
        · exact w.s0 c z (rh c hA)
    · rcases z with z | z
      · exact nt a xs e z.1
      · exact nt a xs e (.inl (List.mem_append_left _ (s' a z)))
    · rcases List.mem_append.mp ha with z | z
      · exact new a (List.mem_append_left _ (s' a z))
      · exact new a (List.mem_append_right _ z)
theorem OwC.frz {S S' : Addr → Prop} {x : CD} {A : List Addr} (h : OwC b S H v x A) (hS : ∀ a, S' a → S a) (hA : ∀ a ∈ A, ¬ S' a) : Fz b.K S' H v x.dat := by
  cases x with
  | fz d => exact h.2.sub hS
  | lst ds => obtain ⟨a, vs, rfl, rfl, h0, h1, h2⟩ := h; exact .lst (bx_lst h1 (hA a (by simp))) (h2.sub hS)
theorem OwCs.frz {S S' : Addr → Prop} {vs : List V} {xs : List CD} {A : List Addr} (h : OwCs b S H vs xs A) (hS : ∀ a, S' a → S a) (hA : ∀ a ∈ A, ¬ S' a) : FzA b.K S' H vs (xs.map CD.dat) := by
  induction h with
  | nil => exact .nil
  | cons r t ih => exact .cons (r.frz hS fun a ha => hA a (List.mem_append_left _ ha)) (ih fun a ha => hA a (List.mem_append_right _ ha))
theorem Ow.frz {S S' : Addr → Prop} {A : List Addr} (h : Ow b S H v x A) (e : x.dat = some d) (hS : ∀ a, S' a → S a) (hA : ∀ a ∈ A, ¬ S' a) (nt : ∀ a xs, H a = some (.tup xs) → ¬ S a) : Fz b.K S' H v d := by
  cases x with
  | fz d => cases e; exact h.2.sub hS
  | lst ds => cases e; exact OwC.frz (x := .lst ds) h hS hA
  | tup xs => cases e; obtain ⟨a, vs, rfl, h1, h⟩ := h; exact .tup (bx_tup h1 fun z => nt a _ h1 (hS a z)) (h.frz hS hA)
  | lsc xs => cases e; obtain ⟨a, vs, B, rfl, rfl, h0, h1, h⟩ := h; exact .lst (bx_lst h1 (hA a (by simp))) (h.frz hS fun c hc => hA c (by simp [hc]))
  | tape p n => cases e
  | dic kvs => cases e
  | pin l xs ds =>
    obtain ⟨rfl, a, rfl, h1, h2⟩ := h
    cases l with
    | true => cases e; exact .lst (h1.step (Kp.refl _ _) fun c z => .inl (hS c z)) (h2.sub hS)
    | false => cases e; exact .tup (h1.step (Kp.refl _ _) fun c z => .inl (hS c z)) (h2.sub hS)
/-- it is never changed again -/
theorem Wd.frz (w : Wd b H ((v, x) :: L)) (e : x.dat = some d) : Wd b H ((v, .fz d) :: L) := by
  refine w.put (fun p n z => by subst z; cases e) fun S A h nd hA al nt => ⟨[], ⟨rfl, ?_⟩, List.nodup_nil, fun a z => by cases z⟩
  exact h.frz e (fun a z => z.elim (·.1) (fun z => by cases z)) (fun a ha z => z.elim (fun z => z.2 ha) (fun z => by cases z)) nt
theorem Wd.dt (w : Wd b H ((v, x) :: L)) (e : x.dat = some d) : Dt b.K H v d := by
  obtain ⟨S, A, h, _⟩ := (w.frz e).head
  exact h.2.dt
/-- what is true of all heaps to come may be said of one more -/
theorem Wd.add (w : Wd b H L) (h : ∀ S : Addr → Prop, (∀ (x : V × OD), x ∈ L → ∃ A, Ow b S H x.1 x.2 A) → (∀ a, H a = none → ¬ S a) → (∀ a xs, H a = some (.tup xs) → ¬ S a) → Fz b.K S H v d) : Wd b H ((v, .fz d) :: L) := by
  obtain ⟨A, h0, nd, new⟩ := w.out
  have mem : ∀ {S : Addr → Prop} {L : List (V × OD)} {A : List Addr}, OwL b S H L A → ∀ x ∈ L, ∃ A, Ow b S H x.1 x.2 A := fun {S L A} h => by
    induction h with
    | nil => intro x hx; cases hx
    | cons r t ih =>
      intro x hx
      rcases List.mem_cons.mp hx with rfl | hx
      · exact ⟨_, r⟩
      · exact ih x hx
  exact ⟨⟨A, .cons (A := []) ⟨rfl, h _ (mem h0) (fun a e => w.al h0 e) (w.nt' h0)⟩ h0, nd, new⟩, w.fr, w.s0, w.c0, w.nt⟩
theorem Wd.dup (w : Wd b H ((v, .fz d) :: L)) : Wd b H ((v, .fz d) :: (v, .fz d) :: L) := w.add fun S h _ _ => by
  obtain ⟨A, q⟩ := h (v, .fz d) (by simp)
  exact q.2
/-- scalars -/
inductive Sc : V → PyData → Prop
  | non : Sc .non .none
  | bl (b : Bool) : Sc (.bl b) (.bool b)
  | int (i : Int) : Sc (.int i) (.int i)
  | str (x : Str) : Sc (.str x) (.str x)
theorem Sc.fz {K : PySem.W.Frag} {S : Addr → Prop} (h : Sc v d) : Fz K S H v d := by cases h <;> constructor
theorem Wd.sc (w : Wd b H L) (h : Sc v d) : Wd b H ((v, .fz d) :: L) := w.add fun S _ _ _ => h.fz
/-- a new object -/
theorem Wd.new (w : Wd b H L) (hp : H p = none) {o : HO} : Wd b (upd H p o) L := by
  obtain ⟨A, h, nd, new⟩ := w.out
  have np := w.al h hp
  refine ⟨⟨A, h.step (Kp.put (.inr hp)) (fun c z => .inl z) (w.nt' h) (fun a ha => upd_ne fun e => np (.inl (e ▸ ha))), nd, new⟩, w.fr.trans (Kp.put (.inr hp)), w.s0, w.c0, fun a xs e z => ?_⟩
  by_cases q : a = p
  · subst q; exact np (.inr z)
  · rw [upd_ne q] at e; exact w.nt a xs e z
theorem Wd.newC (w : Wd b H L) (hp : H p = none) : b.H0 p = none := w.fr.n p hp
theorem OwL.mem {S : Addr → Prop} {A : List Addr} (h : OwL b S H L A) : ∀ {x : V × OD}, x ∈ L → ∃ B, Ow b S H x.1 x.2 B := by
  induction h with
  | nil => intro x hx; cases hx
  | cons r t ih =>
    intro x hx
    rcases List.mem_cons.mp hx with rfl | hx
    · exact ⟨_, r⟩
    · exact ih hx
/-- what is frozen in L, as S has it -/
def FrzIn (b : Bs) (S : Addr → Prop) (H : Hp) (L : List (V × OD)) : Prop := ∀ u e, (u, OD.fz e) ∈ L → Fz b.K S H u e
theorem OwL.frzIn {S : Addr → Prop} {A : List Addr} (h : OwL b S H L A) : FrzIn b S H L := fun u e m => by
  obtain ⟨B, q⟩ := h.mem m
  exact q.2
theorem Wd.newLst (w : Wd b H L) {vs : List V} (h : ∀ S, FrzIn b S H L → FzA b.K S H vs ds) (hp : H p = none) : Wd b (upd H p (.lst vs)) ((.ref p, .lst ds) :: L) := by
  obtain ⟨A, h0, nd, new⟩ := w.out
  have np := w.al h0 hp
  have hf := h _ h0.frzIn
  have w' := w.new hp (o := .lst vs)
  have n : ∀ c, (c ∈ p :: A ∨ b.S0 c) → (c ∈ A ∨ b.S0 c) ∨ H c = none := fun c z => by
    rcases z with z | z
    · rcases List.mem_cons.mp z with rfl | z
      · exact .inr hp
      · exact .inl (.inl z)
    · exact .inl (.inr z)
  refine ⟨⟨p :: A, .cons (A := [p]) ⟨p, vs, rfl, rfl, w.newC hp, upd_same, hf.step (Kp.put (.inr hp)) n⟩ (h0.step (Kp.put (.inr hp)) n (w.nt' h0) fun a ha => upd_ne fun e => np (.inl (e ▸ ha))), ?_, fun a ha => ?_⟩, w'.fr, w'.s0, w'.c0, w'.nt⟩
  · exact List.nodup_cons.mpr ⟨fun z => np (.inl z), nd⟩
  · rcases List.mem_cons.mp ha with rfl | ha
    · exact .inl (w.newC hp)
    · exact new a ha
theorem Wd.newTup (w : Wd b H L) {vs : List V} (h : ∀ S, FrzIn b S H L → FzA b.K S H vs ds) (hp : H p = none) : Wd b (upd H p (.tup vs)) ((.ref p, .fz (.tuple ds)) :: L) := by
  obtain ⟨A, h0, nd, new⟩ := w.out
  have np := w.al h0 hp
  have hf := h _ h0.frzIn
  have w' := w.new hp (o := .tup vs)
  refine ⟨⟨A, .cons (A := []) ⟨rfl, .tup (bx_tup upd_same np) (hf.step (Kp.put (.inr hp)) fun c z => .inl z)⟩ (h0.step (Kp.put (.inr hp)) (fun c z => .inl z) (w.nt' h0) fun a ha => upd_ne fun e => np (.inl (e ▸ ha))), nd, new⟩, w'.fr, w'.s0, w'.c0, w'.nt⟩
theorem OwL.cs {S : Addr → Prop} : ∀ {vs : List V} {xs : List CD} {A : List Addr}, vs.length = xs.length → OwL b S H (vs.zip (xs.map CD.od)) A → OwCs b S H vs xs A
  | [], [], _, _, .nil => .nil
  | _ :: _, _ :: _, _, e, .cons r t => .cons (OwC.of r) (OwL.cs (by simpa using e) t)
/-- a tuple of what is owned -/
theorem Wd.newTupC {vs : List V} {xs : List CD} (w : Wd b H (vs.zip (xs.map CD.od) ++ L)) (e : vs.length = xs.length) (hp : H p = none) : Wd b (upd H p (.tup vs)) ((.ref p, .tup xs) :: L) := by
  obtain ⟨A, h0, nd, new⟩ := w.out
  have np := w.al h0 hp
  have nt := w.nt' h0
  have w' := w.new hp (o := .tup vs)
  have up : ∀ a ∈ A, upd H p (.tup vs) a = H a := fun a ha => upd_ne fun e => np (.inl (e ▸ ha))
  obtain ⟨A1, A2, rfl, h1, h2⟩ := h0.split
  refine ⟨⟨A1 ++ A2, .cons ⟨p, vs, rfl, upd_same, (h1.cs e).step (Kp.put (.inr hp)) (fun c z => .inl z) fun a ha => up a (List.mem_append_left _ ha)⟩ (h2.step (Kp.put (.inr hp)) (fun c z => .inl z) nt fun a ha => up a (List.mem_append_right _ ha)), nd, new⟩, w'.fr, w'.s0, w'.c0, w'.nt⟩
theorem Wd.newLsc {vs : List V} {xs : List CD} (w : Wd b H (vs.zip (xs.map CD.od) ++ L)) (e : vs.length = xs.length) (hp : H p = none) : Wd b (upd H p (.lst vs)) ((.ref p, .lsc xs) :: L) := by
  obtain ⟨A, h0, nd, new⟩ := w.out
  have np := w.al h0 hp
  have nt := w.nt' h0
  have w' := w.new hp (o := .lst vs)
  have up : ∀ a ∈ A, upd H p (.lst vs) a = H a := fun a ha => upd_ne fun e => np (.inl (e ▸ ha))
  obtain ⟨A1, A2, rfl, h1, h2⟩ := h0.split
  have n : ∀ c, (c ∈ p :: (A1 ++ A2) ∨ b.S0 c) → (c ∈ A1 ++ A2 ∨ b.S0 c) ∨ H c = none := fun c z => by
    rcases z with z | z
    · rcases List.mem_cons.mp z with rfl | z
      · exact .inr hp
      · exact .inl (.inl z)
    · exact .inl (.inr z)
  refine ⟨⟨p :: (A1 ++ A2), .cons (A := p :: A1) ⟨p, vs, A1, rfl, rfl, w.newC hp, upd_same, (h1.cs e).step (Kp.put (.inr hp)) n fun a ha => up a (List.mem_append_left _ ha)⟩ (h2.step (Kp.put (.inr hp)) n nt fun a ha => up a (List.mem_append_right _ ha)), List.nodup_cons.mpr ⟨fun z => np (.inl z), nd⟩, fun a ha => ?_⟩, w'.fr, w'.s0, w'.c0, w'.nt⟩
  rcases List.mem_cons.mp ha with rfl | ha
  · exact .inl (w.newC hp)
  · exact new a ha
/-- an owned list is changed -/
theorem Wd.mut (w : Wd b H ((v, .lst ds) :: L)) : ∃ a vs, v = .ref a ∧ H a = some (.lst vs) ∧ vs.length = ds.length ∧ DtAll b.K H vs ds ∧
    ∀ vs' ds', (∀ S, FzA b.K S H vs ds → FrzIn b S H L → FzA b.K S H vs' ds') → Wd b (upd H a (.lst vs')) ((.ref a, .lst ds') :: L) := by
  obtain ⟨A0, h0, nd, new⟩ := w.out
  have nt := w.nt' h0
  cases h0 with
  | @cons _ _ A _ B r t =>
    obtain ⟨a, vs, rfl, rfl, hn, h1, h2⟩ := r
    refine ⟨a, vs, rfl, h1, h2.length, h2.dt, fun vs' ds' hf => ?_⟩
    obtain ⟨_, nB, dj⟩ := List.nodup_append.mp nd
    have kp : Kp (fun c => c ∈ [a] ++ B ∨ b.S0 c) H (upd H a (.lst vs')) := Kp.put (.inl (.inl (by simp)))
    refine ⟨⟨[a] ++ B, .cons ⟨a, vs', rfl, rfl, hn, upd_same, (hf _ h2 t.frzIn).step kp fun c z => .inl z⟩ (t.step kp (fun c z => .inl z) nt fun c hc => upd_ne fun e => dj a (by simp) c hc e.symm), nd, new⟩, ?_, w.s0, w.c0, fun c xs e z => ?_⟩
    · refine ⟨fun c o e n => ?_, fun c e => ?_⟩
      · have q := w.fr.k c o e n
        rw [upd_ne (fun z => by subst z; rw [hn] at e; cases e)]
        exact q
      · by_cases q : c = a
        · subst q; rw [upd_same] at e; cases e
        · rw [upd_ne q] at e; exact w.fr.n c e
    · by_cases q : c = a
      · subst q; rw [upd_same] at e; cases e
      · rw [upd_ne q] at e; exact w.nt c xs e z
/-- an owned list within a tuple or a list of such -/
theorem OwCs.pick {S : Addr → Prop} : ∀ {vs : List V} {xs : List CD} {A : List Addr} {i : Nat} {x : CD}, OwCs b S H vs xs A → xs[i]? = some x → ∃ v, vs[i]? = some v ∧ ∃ B, OwC b S H v x B ∧ ∀ a ∈ B, a ∈ A
  | _, _, _, 0, _, .cons (A := A) r _, e => by simp at e; subst e; exact ⟨_, rfl, A, r, fun a ha => List.mem_append_left _ ha⟩
  | _, _, _, i + 1, x, .cons _ t, e => by
    obtain ⟨v, e1, B, h, hB⟩ := OwCs.pick t (i := i) (x := x) (by simpa using e)
    exact ⟨v, by simpa using e1, B, h, fun a ha => List.mem_append_right _ (hB a ha)⟩
theorem OwCs.len {S : Addr → Prop} {vs : List V} {xs : List CD} {A : List Addr} (h : OwCs b S H vs xs A) : vs.length = xs.length := by
  induction h with
  | nil => rfl
  | cons r t ih => simp [ih]
theorem Wd.exp {S : Addr → Prop} {A : List Addr} {vs : List V} (w : Wd b H L) (h0 : OwL b (fun a => a ∈ A ∨ b.S0 a) H L A) (nd : A.Nodup) (new : ∀ a ∈ A, b.H0 a = none ∨ b.C a) (h : FzA b.K (fun a => a ∈ A ∨ b.S0 a) H vs ds) : Wd b H (vs.zip (ds.map OD.fz) ++ L) := by
  have q : ∀ {vs : List V} {ds : List PyData}, FzA b.K (fun a => a ∈ A ∨ b.S0 a) H vs ds → OwL b (fun a => a ∈ A ∨ b.S0 a) H (vs.zip (ds.map OD.fz)) [] := by
    intro vs
    induction vs with
    | nil => intro ds h; cases h; exact .nil
    | cons v vs ih => intro ds h; cases h with | cons r t => exact .cons (A := []) ⟨rfl, r⟩ (ih t)
  exact ⟨⟨A, (q h).join h0, nd, new⟩, w.fr, w.s0, w.c0, w.nt⟩
/-- items of what is at hand -/
theorem Wd.item (w : Wd b H L) (m : (v, x) ∈ L) (e : x.dat = some (.list ds) ∨ x.dat = some (.tuple ds)) : ∃ a vs, v = .ref a ∧ vs.length = ds.length ∧ DtAll b.K H vs ds ∧ (x.dat = some (.list ds) → SqL b.K H a vs ∧ ∀ (z : List PyData), x = .lst z → H a = some (.lst vs)) ∧ (x.dat = some (.tuple ds) → SqT b.K H a vs) ∧
    ((∀ xs, x ≠ .tup xs) → (∀ xs, x ≠ .lsc xs) → Wd b H (vs.zip (ds.map OD.fz) ++ L)) := by
  obtain ⟨A, h0, nd, new⟩ := w.out
  obtain ⟨B, h⟩ := h0.mem m
  cases x with
  | fz d =>
    rcases e with e | e
    · cases e
      obtain ⟨a, vs, rfl, h1, h2⟩ := h.2.list_inv
      exact ⟨a, vs, rfl, h2.length, h2.dt, fun _ => ⟨h1.now, fun z e => by cases e⟩, fun e => (by cases e), fun _ _ => w.exp (S := fun _ => False) h0 nd new h2⟩
    · cases e
      obtain ⟨a, vs, rfl, h1, h2⟩ := h.2.tup_inv
      exact ⟨a, vs, rfl, h2.length, h2.dt, fun e => (by cases e), fun _ => h1.now, fun _ _ => w.exp (S := fun _ => False) h0 nd new h2⟩
  | lst z =>
    rcases e with e | e
    · cases e
      obtain ⟨a, vs, rfl, rfl, hn, h1, h2⟩ := h
      exact ⟨a, vs, rfl, h2.length, h2.dt, fun _ => ⟨SqL.of h1, fun _ _ => h1⟩, fun e => (by cases e), fun _ _ => w.exp (S := fun _ => False) h0 nd new h2⟩
    · cases e
  | tup xs =>
    rcases e with e | e
    · cases e
    · cases e
      obtain ⟨a, vs, rfl, h1, h2⟩ := h
      exact ⟨a, vs, rfl, by rw [h2.len, List.length_map], (h2.frz (S' := fun _ => False) (fun a z => z.elim) (fun a _ z => z)).dt, fun e => (by cases e), fun _ => SqT.of h1, fun n => absurd rfl (n xs)⟩
  | lsc xs =>
    rcases e with e | e
    · cases e
      obtain ⟨a, vs, B, rfl, rfl, hn, h1, h2⟩ := h
      exact ⟨a, vs, rfl, by rw [h2.len, List.length_map], (h2.frz (S' := fun _ => False) (fun a z => z.elim) (fun a _ z => z)).dt, fun _ => ⟨SqL.of h1, fun z e => by cases e⟩, fun e => (by cases e), fun _ n => absurd rfl (n xs)⟩
    · cases e
  | tape p n => rcases e with e | e <;> cases e
  | dic kvs => rcases e with e | e <;> cases e
  | pin l xs es =>
    obtain ⟨rfl, a, rfl, h1, h2⟩ := h
    cases l with
    | true =>
      rcases e with e | e
      · cases e
        exact ⟨a, xs, rfl, h2.length, h2.dt, fun _ => ⟨h1.now, fun z e => by cases e⟩, fun e => (by cases e), fun _ _ => w.exp (S := fun _ => False) h0 nd new h2⟩
      · cases e
    | false =>
      rcases e with e | e
      · cases e
      · cases e
        exact ⟨a, xs, rfl, h2.length, h2.dt, fun e => (by cases e), fun _ => h1.now, fun _ _ => w.exp (S := fun _ => False) h0 nd new h2⟩
theorem Wd.memDt (w : Wd b H L) (m : (v, x) ∈ L) (e : x.dat = some d) : Dt b.K H v d := by
  obtain ⟨A, h0, nd, new⟩ := w.out
  obtain ⟨B, h⟩ := h0.mem m
  exact (h.frz (S' := fun _ => False) e (fun a z => z.elim) (fun a _ z => z) (w.nt' h0)).dt
theorem FrzIn.all {S : Addr → Prop} (h : FrzIn b S H L) : ∀ {vs : List V} {ds : List PyData}, vs.length = ds.length → (∀ z ∈ vs.zip (ds.map OD.fz), z ∈ L) → FzA b.K S H vs ds
  | [], [], _, _ => .nil
  | v :: vs, d :: ds, e, m => .cons (h v d (m _ (by simp))) (FrzIn.all h (by simpa using e) fun z hz => m z (by simp [hz]))
/-! ### calls -/
theorem Ow.base {b' : Bs} {S : Addr → Prop} {A : List Addr} (h : Ow b' S H v x A) (hK : b'.K = b.K) (h0 : ∀ a, b'.H0 a = none → b.H0 a = none) : Ow b S H v x A := by
  have cs : ∀ {vs : List V} {xs : List CD} {A : List Addr}, OwCs b' S H vs xs A → OwCs b S H vs xs A := fun {vs xs A} h => by
    induction h with
    | nil => exact .nil
    | @cons v x A vs xs B r t ih =>
      refine .cons ?_ ih
      cases x with
      | fz d => exact ⟨r.1, hK ▸ r.2⟩
      | lst ds => obtain ⟨a, vs, rfl, rfl, hn, h1, h2⟩ := r; exact ⟨a, vs, rfl, rfl, h0 a hn, h1, hK ▸ h2⟩
  cases x with
  | fz d => exact ⟨h.1, hK ▸ h.2⟩
  | lst ds => obtain ⟨a, vs, rfl, rfl, hn, h1, h2⟩ := h; exact ⟨a, vs, rfl, rfl, h0 a hn, h1, hK ▸ h2⟩
  | tup xs => obtain ⟨a, vs, rfl, h1, h⟩ := h; exact ⟨a, vs, rfl, h1, cs h⟩
  | lsc xs => obtain ⟨a, vs, B, rfl, rfl, hn, h1, h⟩ := h; exact ⟨a, vs, B, rfl, rfl, h0 a hn, h1, cs h⟩
  | tape p n => exact h
  | dic kvs => obtain ⟨a, ws, rfl, rfl, hn, h1, h2⟩ := h; exact ⟨a, ws, rfl, rfl, h0 a hn, h1, hK ▸ h2⟩
  | pin l xs ds => obtain ⟨rfl, a, rfl, h1, h2⟩ := h; exact ⟨rfl, a, rfl, hK ▸ h1, hK ▸ h2⟩
abbrev DSp := Option Int → List PyData → (OD → Int → Prop) → Prop
def tpV : Option (Addr × Int) → List V → List V
  | none, us => us
  | some (p, _), us => .ref p :: us
def Ans (K : PySem.W.Frag) (S : Addr → Prop) (tp : Option (Addr × Int)) (H : Hp) (Q : VK) (x : OD) (m : Int) : Prop := ∀ v H' B, Kp (fun a => ∃ n, tp = some (a, n)) H H' → (∀ p n, tp = some (p, n) → Tape H' p m) →
  Ow ⟨K, H, S, fun a => ∃ n, tp = some (a, n)⟩ (fun a => a ∈ B ∨ S a) H' v x B → B.Nodup → (∀ a ∈ B, H a = none) → Q v H'
/-- a promise in terms of data as one of the heap's -/
def toSp (K : PySem.W.Frag) (sp : DSp) : Sp := fun vs H Q _ => ∃ (S : Addr → Prop) (tp : Option (Addr × Int)) (us : List V) (ds : List PyData), vs = tpV tp us ∧ (∀ a, S a → H a ≠ none) ∧ (∀ a xs, H a = some (.tup xs) → ¬ S a) ∧ FzA K S H us ds ∧ (∀ p n, tp = some (p, n) → Tape H p n ∧ S p) ∧
  sp (tp.map (·.2)) ds (Ans K S tp H Q)
/-- a call without a tape -/
theorem Wd.call (w : Wd b H L) {sp : DSp} {us : List V} {Q : VK} {E : XK} (hu : ∀ S, FrzIn b S H L → FzA b.K S H us ds) (h : sp none ds fun x _ => ∀ v H', Wd b H' ((v, x) :: L) → Q v H')
    (mono : ∀ t ds (P R : OD → Int → Prop), (∀ x n, P x n → R x n) → sp t ds P → sp t ds R) : toSp b.K sp us H Q E := by
  obtain ⟨A, h0, nd, new⟩ := w.out
  refine ⟨fun a => a ∈ A ∨ b.S0 a, none, us, ds, rfl, fun a z e => w.al h0 e z, w.nt' h0, hu _ h0.frzIn, fun _ _ e => (by cases e), mono _ _ _ _ (fun x n hQ v H' B kp _ hO nB hB => ?_) h⟩
  have kp' : Kp (fun a => a ∈ A ∨ b.S0 a) H H' := kp.weak fun c ⟨n, e⟩ => by cases e
  have n' : ∀ c, (c ∈ B ++ A ∨ b.S0 c) → (c ∈ A ∨ b.S0 c) ∨ H c = none := fun c z => z.elim (fun z => (List.mem_append.mp z).elim (fun z => .inr (hB c z)) fun z => .inl (.inl z)) fun z => .inl (.inr z)
  have same : ∀ a, H a ≠ none → H' a = H a := fun a ha => by
    cases e : H a with
    | none => exact absurd e ha
    | some o => exact kp.k a o e fun ⟨n, e⟩ => by cases e
  refine hQ v H' ⟨⟨B ++ A, .cons (Ow.step (Kp.refl _ _) (fun c z => .inl (z.elim (fun z => (List.mem_append.mp z).imp id fun z => .inl z) fun z => .inr (.inr z))) (fun a xs e z => ?_) (fun _ _ => rfl) (hO.base rfl fun a e => w.newC e)) (h0.step kp' n' (w.nt' h0) fun a ha => same a (h0.ne a ha)), List.nodup_append.mpr ⟨nB, nd, fun a ha c hc e => h0.ne c hc (e ▸ hB a ha)⟩, fun a ha => ?_⟩, ?_, w.s0, w.c0, fun a xs e z => ?_⟩
  · rcases z with z | z
    · exact hO.tl a z xs e
    · have ha : H a ≠ none := fun e => w.al h0 e z
      rw [same a ha] at e
      exact w.nt' h0 a xs e z
  · rcases List.mem_append.mp ha with z | z
    · exact .inl (w.newC (hB a z))
    · exact new a z
  · exact w.fr.trans ⟨fun c o e n => kp.k c o e fun ⟨n, e⟩ => (by cases e), kp.n⟩
  · have ha : H a ≠ none := fun e => w.s0 a z (w.fr.n a e)
    rw [same a ha] at e
    exact w.nt a xs e z
/-- a call with the tape -/
theorem Wd.callT {p : Addr} {n : Int} (w : Wd b H ((v, .tape p n) :: L)) {sp : DSp} {us : List V} {Q : VK} {E : XK} (hu : ∀ S, FrzIn b S H L → FzA b.K S H us ds) (h : sp (some n) ds fun x m => ∀ u H', Wd b H' ((u, x) :: (v, .tape p m) :: L) → Q u H')
    (mono : ∀ t ds (P R : OD → Int → Prop), (∀ x n, P x n → R x n) → sp t ds P → sp t ds R) : toSp b.K sp (v :: us) H Q E := by
  obtain ⟨A0, h0, nd, new⟩ := w.out
  have nt := w.nt' h0
  have al := fun {a} => w.al h0 (a := a)
  cases h0 with
  | @cons _ _ A _ B0 r t =>
    obtain ⟨rfl, rfl, hT⟩ := r
    refine ⟨fun a => a ∈ [p] ++ B0 ∨ b.S0 a, some (p, n), us, ds, rfl, fun a z e => al e z, nt, hu _ t.frzIn, fun _ _ e => (by cases e; exact ⟨hT, .inl (by simp)⟩), mono _ _ _ _ (fun x m hQ v H' B kp tp hO nB hB => ?_) h⟩
    have hne : ∀ c ∈ [p] ++ B0, H c ≠ none := fun c z e => al e (.inl z)
    have kp' : Kp (fun a => a ∈ [p] ++ B0 ∨ b.S0 a) H H' := kp.weak fun c ⟨n, e⟩ => by cases e; exact .inl (.inl (by simp))
    have n' : ∀ c, (c ∈ B ++ ([p] ++ B0) ∨ b.S0 c) → (c ∈ [p] ++ B0 ∨ b.S0 c) ∨ H c = none := fun c z => z.elim (fun z => (List.mem_append.mp z).elim (fun z => .inr (hB c z)) fun z => .inl (.inl z)) fun z => .inl (.inr z)
    have same : ∀ a, a ≠ p → H a ≠ none → H' a = H a := fun a hp ha => by
      cases e : H a with
      | none => exact absurd e ha
      | some o => exact kp.k a o e fun ⟨n, e⟩ => by cases e; exact hp rfl
    have hT' := tp p n rfl
    obtain ⟨_, nB0, dj⟩ := List.nodup_append.mp nd
    refine hQ v H' ⟨⟨B ++ ([p] ++ B0), .cons (Ow.step (Kp.refl _ _) (fun c z => .inl (z.elim (fun z => (List.mem_append.mp z).imp id fun z => .inl z) fun z => .inr (.inr z))) (fun a xs e z => ?_) (fun _ _ => rfl) (hO.base rfl fun a e => w.newC e)) (.cons ⟨rfl, rfl, hT'⟩ (t.step kp' n' nt fun a ha => same a (fun e => dj p (by simp) a ha e.symm) (hne a (List.mem_append_right _ ha)))), List.nodup_append.mpr ⟨nB, nd, fun a ha c hc e => hne c hc (e ▸ hB a ha)⟩, fun a ha => ?_⟩, ?_, w.s0, w.c0, fun a xs e z => ?_⟩
    · rcases z with z | z
      · exact hO.tl a z xs e
      · have ha : H a ≠ none := fun e => al e z
        by_cases hp : a = p
        · subst hp
          obtain ⟨_, _, _, q, _⟩ := hT'
          rw [q] at e; cases e
        · rw [same a hp ha] at e
          exact nt a xs e z
    · rcases List.mem_append.mp ha with z | z
      · exact .inl (w.newC (hB a z))
      · exact new a z
    · refine ⟨fun c o e nc => ?_, fun c e => w.fr.n c (kp.n c e)⟩
      refine kp.k c o (w.fr.k c o e nc) fun ⟨n, q⟩ => ?_
      cases q
      rcases new p (by simp) with z | z
      · rw [z] at e; cases e
      · exact nc z
    · have ha : H a ≠ none := fun e => w.s0 a z (w.fr.n a e)
      by_cases hp : a = p
      · subst hp
        obtain ⟨_, _, _, q, _⟩ := hT'
        rw [q] at e; cases e
      · rw [same a hp ha] at e
        exact w.nt a xs e z
end
end L2

namespace L2
open PySem
end L2
namespace L2
open PySem PySem.Spec PyProof.Rows
abbrev DEnv := List (Option OD)
def flat : St → DEnv → List (V × OD)
  | some v :: σ, some x :: ρ => (v, x) :: flat σ ρ
  | _ :: σ, _ :: ρ => flat σ ρ
  | _, _ => []
def Wf : St → DEnv → Prop
  | [], [] => True
  | _ :: σ, none :: ρ => Wf σ ρ
  | some _ :: σ, some _ :: ρ => Wf σ ρ
  | _, _ => False
section
variable {σ : St} {ρ : DEnv} {i : Nat} {x y : OD} {v u : V}
theorem flat_none {o : Option V} : flat (o :: σ) (none :: ρ) = flat σ ρ := by cases o <;> rfl
theorem Wf.get : ∀ {σ : St} {ρ : DEnv} {i : Nat}, Wf σ ρ → ρ[i]? = some (some x) → ∃ v, σ[i]? = some (some v)
  | [], [], _, _, e => by simp at e
  | [], _ :: _, _, h, _ => by simp [Wf] at h
  | _ :: _, [], _, _, e => by simp at e
  | some v :: _, some _ :: _, 0, _, _ => ⟨v, rfl⟩
  | none :: _, some _ :: _, _, h, _ => by simp [Wf] at h
  | o :: _, none :: _, 0, _, e => by simp at e
  | o :: σ, none :: ρ, i + 1, h, e => by
    obtain ⟨v, q⟩ := Wf.get (σ := σ) (ρ := ρ) (i := i) h (by simpa using e)
    exact ⟨v, by simpa using q⟩
  | some _ :: σ, some _ :: ρ, i + 1, h, e => by
    obtain ⟨v, q⟩ := Wf.get (σ := σ) (ρ := ρ) (i := i) h (by simpa using e)
    exact ⟨v, by simpa using q⟩
theorem Wf.len : ∀ {σ : St} {ρ : DEnv}, Wf σ ρ → σ.length = ρ.length
  | [], [], _ => rfl
  | [], _ :: _, h => by simp [Wf] at h
  | _ :: _, [], h => by simp [Wf] at h
  | o :: σ, none :: ρ, h => by simp [Wf.len (σ := σ) (ρ := ρ) h]
  | some _ :: σ, some _ :: ρ, h => by simp [Wf.len (σ := σ) (ρ := ρ) h]
  | none :: _, some _ :: _, h => by simp [Wf] at h
theorem Wf.off : ∀ {σ : St} {ρ : DEnv} {i : Nat}, Wf σ ρ → Wf σ (ρ.set i none)
  | [], [], _, _ => trivial
  | [], _ :: _, _, h => by simp [Wf] at h
  | _ :: _, [], _, h => by simp [Wf] at h
  | o :: σ, none :: ρ, 0, h => h
  | some _ :: σ, some _ :: ρ, 0, h => h
  | none :: _, some _ :: _, _, h => by simp [Wf] at h
  | o :: σ, none :: ρ, i + 1, h => Wf.off (σ := σ) (ρ := ρ) (i := i) h
  | some _ :: σ, some _ :: ρ, i + 1, h => Wf.off (σ := σ) (ρ := ρ) (i := i) h
theorem Wf.put : ∀ {σ : St} {ρ : DEnv} {i : Nat}, Wf σ ρ → Wf (σ.set i (some v)) (ρ.set i (some x))
  | [], [], _, _ => trivial
  | [], _ :: _, _, h => by simp [Wf] at h
  | _ :: _, [], _, h => by simp [Wf] at h
  | o :: σ, none :: ρ, 0, h => h
  | some _ :: σ, some _ :: ρ, 0, h => h
  | none :: _, some _ :: _, _, h => by simp [Wf] at h
  | o :: σ, none :: ρ, i + 1, h => Wf.put (σ := σ) (ρ := ρ) (i := i) h
  | some _ :: σ, some _ :: ρ, i + 1, h => Wf.put (σ := σ) (ρ := ρ) (i := i) h
theorem flat_pick : ∀ {σ : St} {ρ : DEnv} {i : Nat}, ρ[i]? = some (some x) → σ[i]? = some (some v) → (flat σ ρ).Perm ((v, x) :: flat σ (ρ.set i none))
  | [], _, _, _, e => by simp at e
  | _ :: _, [], _, e, _ => by simp at e
  | some u :: σ, some y :: ρ, 0, e, e' => by
    simp at e e'
    subst e e'
    exact .refl _
  | none :: _, _ :: _, 0, _, e => by simp at e
  | some _ :: _, none :: _, 0, e, _ => by simp at e
  | o :: σ, none :: ρ, i + 1, e, e' => by
    rw [List.set_cons_succ, flat_none, flat_none]
    exact flat_pick (by simpa using e) (by simpa using e')
  | some u :: σ, some y :: ρ, i + 1, e, e' => by
    rw [List.set_cons_succ]
    exact ((flat_pick (σ := σ) (ρ := ρ) (i := i) (by simpa using e) (by simpa using e')).cons _).trans (List.Perm.swap _ _ _)
  | none :: σ, some y :: ρ, i + 1, e, e' => by
    rw [List.set_cons_succ]
    exact flat_pick (σ := σ) (ρ := ρ) (i := i) (by simpa using e) (by simpa using e')
theorem flat_put : ∀ {σ : St} {ρ : DEnv} {i : Nat}, i < ρ.length → σ.length = ρ.length → (flat (σ.set i (some v)) (ρ.set i (some x))).Perm ((v, x) :: flat σ (ρ.set i none))
  | _, [], _, h, _ => by simp at h
  | [], _ :: _, _, _, h => by simp at h
  | o :: σ, y :: ρ, 0, _, _ => by
    rw [List.set_cons_zero, List.set_cons_zero, List.set_cons_zero, flat_none]
    exact .refl _
  | o :: σ, none :: ρ, i + 1, h, h' => by
    rw [List.set_cons_succ, List.set_cons_succ, List.set_cons_succ, flat_none, flat_none]
    exact flat_put (by simpa using h) (by simpa using h')
  | none :: σ, some _ :: ρ, i + 1, h, h' => by
    rw [List.set_cons_succ, List.set_cons_succ, List.set_cons_succ]
    exact flat_put (σ := σ) (ρ := ρ) (i := i) (by simpa using h) (by simpa using h')
  | some u :: σ, some y :: ρ, i + 1, h, h' => by
    rw [List.set_cons_succ, List.set_cons_succ, List.set_cons_succ]
    exact ((flat_put (σ := σ) (ρ := ρ) (i := i) (by simpa using h) (by simpa using h')).cons _).trans (List.Perm.swap _ _ _)
theorem set_self {α : Type} : ∀ {l : List α} {i : Nat} {x : α}, l[i]? = some x → l.set i x = l
  | [], _, _, e => by simp at e
  | _ :: _, 0, _, e => by simp at e; subst e; rfl
  | y :: l, i + 1, x, e => by rw [List.set_cons_succ, set_self (by simpa using e)]
end
/-- a value at hand: its own, or the one of a name -/
inductive OR where | val (x : OD) | rf (i : Nat)
def stk : List V → List OR → List (V × OD)
  | v :: τ, .val x :: θ => (v, x) :: stk τ θ
  | _ :: τ, .rf _ :: θ => stk τ θ
  | _, _ => []
def Al (σ : St) : List V → List OR → Prop
  | [], [] => True
  | _ :: τ, .val _ :: θ => Al σ τ θ
  | v :: τ, .rf i :: θ => σ[i]? = some (some v) ∧ Al σ τ θ
  | _, _ => False
/-- what waits outside a comprehension -/
structure Fr where
  σ : St
  ρ : DEnv
  τ : List V
  θ : List OR
def ff (F : List Fr) : List (V × OD) := F.flatMap fun f => stk f.τ f.θ ++ flat f.σ f.ρ
structure Rel (b : Bs) (F : List Fr) (σ : St) (H : Hp) (ρ : DEnv) (τ : List V) (θ : List OR) : Prop where
  wf : Wf σ ρ
  al : Al σ τ θ
  wff : ∀ f ∈ F, Wf f.σ f.ρ ∧ Al f.σ f.τ f.θ
  wd : Wd b H (stk τ θ ++ (flat σ ρ ++ ff F))
def datR (ρ : DEnv) : OR → Option PyData
  | .val x => x.dat
  | .rf i => (ρ[i]?.join).bind OD.dat
section
variable {b : Bs} {F : List Fr} {σ : St} {H H' : Hp} {ρ ρ' : DEnv} {τ vs : List V} {θ rs : List OR} {v u : V} {r : OR} {x y : OD} {d : PyData} {i : Nat}
theorem join_some {α : Type} {o : Option (Option α)} {x : α} (h : o.join = some x) : o = some (some x) := by
  cases o with
  | none => cases h
  | some o => exact congrArg some h
theorem stk_app : ∀ {vs τ : List V} {rs θ : List OR}, vs.length = rs.length → stk (vs ++ τ) (rs ++ θ) = stk vs rs ++ stk τ θ
  | [], _, [], _, _ => rfl
  | _ :: vs, τ, .val _ :: rs, θ, e => by
    simp only [List.cons_append, stk]
    rw [stk_app (by simpa using e)]
  | _ :: vs, τ, .rf _ :: rs, θ, e => by
    simp only [List.cons_append, stk]
    exact stk_app (by simpa using e)
  | [], _, _ :: _, _, e => by simp at e
  | _ :: _, _, [], _, e => by simp at e
theorem al_app : ∀ {vs τ : List V} {rs θ : List OR}, vs.length = rs.length → (Al σ (vs ++ τ) (rs ++ θ) ↔ Al σ vs rs ∧ Al σ τ θ)
  | [], _, [], _, _ => by simp [Al]
  | _ :: vs, τ, .val _ :: rs, θ, e => by
    simp only [List.cons_append, Al]
    exact al_app (by simpa using e)
  | _ :: vs, τ, .rf _ :: rs, θ, e => by
    simp only [List.cons_append, Al]
    rw [al_app (by simpa using e), and_assoc]
  | [], _, _ :: _, _, e => by simp at e
  | _ :: _, _, [], _, e => by simp at e
theorem Rel.rot (R : Rel b F σ H ρ (vs ++ v :: τ) (rs ++ r :: θ)) (e : vs.length = rs.length) : Rel b F σ H ρ (v :: vs ++ τ) (r :: rs ++ θ) := by
  obtain ⟨a1, a2⟩ := (al_app e).mp R.al
  have a3 : Al σ [v] [r] ∧ Al σ τ θ := (al_app (vs := [v]) (rs := [r]) rfl).mp a2
  refine ⟨R.wf, (al_app (vs := [v]) (rs := [r]) rfl).mpr ⟨a3.1, (al_app e).mpr ⟨a1, a3.2⟩⟩, R.wff, R.wd.perm ?_⟩
  refine List.Perm.append_right _ ?_
  have e1 : stk (v :: vs ++ τ) (r :: rs ++ θ) = stk [v] [r] ++ (stk vs rs ++ stk τ θ) := by
    rw [← stk_app e, ← stk_app (vs := [v]) (rs := [r]) rfl]; rfl
  have e2 : stk (vs ++ v :: τ) (rs ++ r :: θ) = stk vs rs ++ (stk [v] [r] ++ stk τ θ) := by
    rw [stk_app e, ← stk_app (vs := [v]) (rs := [r]) rfl]; rfl
  rw [e1, e2, ← List.append_assoc, ← List.append_assoc]
  exact List.perm_append_comm.append_right _
theorem Rel.tor (R : Rel b F σ H ρ (v :: vs ++ τ) (r :: rs ++ θ)) (e : vs.length = rs.length) : Rel b F σ H ρ (vs ++ v :: τ) (rs ++ r :: θ) := by
  obtain ⟨a1, a2⟩ := (al_app (vs := [v]) (rs := [r]) (τ := vs ++ τ) (θ := rs ++ θ) rfl).mp R.al
  obtain ⟨a3, a4⟩ := (al_app e).mp a2
  refine ⟨R.wf, (al_app e).mpr ⟨a3, (al_app (vs := [v]) (rs := [r]) rfl).mpr ⟨a1, a4⟩⟩, R.wff, R.wd.perm ?_⟩
  refine List.Perm.append_right _ ?_
  have e1 : stk (v :: vs ++ τ) (r :: rs ++ θ) = stk [v] [r] ++ (stk vs rs ++ stk τ θ) := by
    rw [← stk_app e, ← stk_app (vs := [v]) (rs := [r]) rfl]; rfl
  have e2 : stk (vs ++ v :: τ) (rs ++ r :: θ) = stk vs rs ++ (stk [v] [r] ++ stk τ θ) := by
    rw [stk_app e, ← stk_app (vs := [v]) (rs := [r]) rfl]; rfl
  rw [e1, e2, ← List.append_assoc, ← List.append_assoc]
  exact List.perm_append_comm.append_right _
theorem Rel.drop (R : Rel b F σ H ρ (v :: τ) (r :: θ)) : Rel b F σ H ρ τ θ := by
  cases r with
  | val x => exact ⟨R.wf, R.al, R.wff, R.wd.drop⟩
  | rf i => exact ⟨R.wf, R.al.2, R.wff, R.wd⟩
theorem Rel.drops (R : Rel b F σ H ρ (vs ++ τ) (rs ++ θ)) (e : vs.length = rs.length) : Rel b F σ H ρ τ θ := by
  induction vs generalizing rs with
  | nil => cases rs with
    | nil => exact R
    | cons _ _ => simp at e
  | cons v vs ih => cases rs with
    | nil => simp at e
    | cons r rs => exact ih (Rel.drop R) (by simpa using e)
theorem Rel.sc (R : Rel b F σ H ρ τ θ) (h : Sc v d) : Rel b F σ H ρ (v :: τ) (.val (.fz d) :: θ) := ⟨R.wf, R.al, R.wff, R.wd.sc h⟩
/-- the slot i as the first one owned -/
theorem Rel.slot (R : Rel b F σ H ρ τ θ) (e : ρ[i]? = some (some x)) : ∃ v, σ[i]? = some (some v) ∧ Wd b H ((v, x) :: (stk τ θ ++ (flat σ (ρ.set i none) ++ ff F))) := by
  obtain ⟨v, ev⟩ := R.wf.get e
  refine ⟨v, ev, R.wd.perm ?_⟩
  refine ((flat_pick e ev).append_right _ |>.append_left _).trans ?_
  exact List.perm_middle
/-- and back -/
theorem Rel.unslot (wf : Wf σ ρ) (al : Al (σ.set i (some v)) τ θ) (wff : ∀ f ∈ F, Wf f.σ f.ρ ∧ Al f.σ f.τ f.θ) (hi : i < ρ.length) (w : Wd b H ((v, x) :: (stk τ θ ++ (flat σ (ρ.set i none) ++ ff F)))) : Rel b F (σ.set i (some v)) H (ρ.set i (some x)) τ θ := by
  refine ⟨wf.put, al, wff, w.perm ?_⟩
  refine (List.perm_middle.symm).trans ?_
  exact ((flat_put hi wf.len).symm.append_right _).append_left _
theorem Rel.back (wf : Wf σ ρ) (al : Al σ τ θ) (wff : ∀ f ∈ F, Wf f.σ f.ρ ∧ Al f.σ f.τ f.θ) (ev : σ[i]? = some (some v)) (w : Wd b H ((v, x) :: (stk τ θ ++ (flat σ (ρ.set i none) ++ ff F)))) : Rel b F σ H (ρ.set i (some x)) τ θ := by
  have hi : i < ρ.length := by rw [← wf.len]; exact (List.getElem?_eq_some_iff.mp ev).1
  have e : σ.set i (some v) = σ := set_self ev
  have := Rel.unslot (i := i) (v := v) (x := x) (b := b) (H := H) wf (by rw [e]; exact al) wff hi w
  rw [e] at this
  exact this
theorem Rel.dt (R : Rel b F σ H ρ (v :: τ) (r :: θ)) (e : datR ρ r = some d) : Dt b.K H v d := by
  cases r with
  | val x => exact R.wd.memDt (by simp [stk]) e
  | rf i =>
    simp only [datR, Option.bind_eq_some_iff] at e
    obtain ⟨x, e1, e2⟩ := e
    obtain ⟨u, eu, w⟩ := R.drop.slot (join_some e1)
    have : v = u := by have := R.al.1; rw [eu] at this; cases this; rfl
    subst this
    exact w.memDt (List.mem_cons_self) e2
theorem Rel.dt2 (R : Rel b F σ H ρ (u :: v :: τ) (r' :: r :: θ)) (e : datR ρ r = some d) : Dt b.K H v d := (R.drop).dt e
/-- a slot is never changed again -/
theorem Rel.frzS (R : Rel b F σ H ρ τ θ) (e : ρ[i]? = some (some x)) (ed : x.dat = some d) : Rel b F σ H (ρ.set i (some (.fz d))) τ θ := by
  obtain ⟨v, ev, w⟩ := R.slot e
  exact Rel.back R.wf R.al R.wff ev (w.frz ed)
theorem Rel.dupS (R : Rel b F σ H ρ τ θ) (e : ρ[i]? = some (some (.fz d))) (ev : σ[i]? = some (some v)) : Rel b F σ H ρ (v :: τ) (.val (.fz d) :: θ) := by
  obtain ⟨u, eu, w⟩ := R.slot e
  rw [ev] at eu
  cases eu
  have w2 := w.dup
  have e1 : ρ.set i (some (.fz d)) = ρ := set_self e
  have := Rel.back (i := i) (x := .fz d) (τ := v :: τ) (θ := .val (.fz d) :: θ) R.wf R.al R.wff ev (w2.perm (List.Perm.swap _ _ _))
  rw [e1] at this
  exact this
def frz1 (ρ : DEnv) : OR → Option (PyData × DEnv)
  | .val x => x.dat.map (·, ρ)
  | .rf i => (ρ[i]?.join).bind fun x => x.dat.map fun d => (d, ρ.set i (some (.fz d)))
theorem Rel.frz1 (R : Rel b F σ H ρ (v :: τ) (r :: θ)) (e : frz1 ρ r = some (d, ρ')) : Rel b F σ H ρ' (v :: τ) (.val (.fz d) :: θ) := by
  cases r with
  | val x =>
    simp only [L2.frz1, Option.map_eq_some_iff] at e
    obtain ⟨d', e1, e2⟩ := e
    cases e2
    exact ⟨R.wf, R.al, R.wff, R.wd.frz e1⟩
  | rf i =>
    simp only [L2.frz1, Option.bind_eq_some_iff, Option.map_eq_some_iff] at e
    obtain ⟨x, e1, d', e2, e3⟩ := e
    cases e3
    have hi : i < ρ.length := (List.getElem?_eq_some_iff.mp (join_some e1)).1
    exact (R.drop.frzS (join_some e1) e2).dupS (by rw [List.getElem?_set_self hi]) R.al.1
def frzL (ρ : DEnv) : List OR → Option (List PyData × DEnv)
  | [] => some ([], ρ)
  | r :: rs => (L2.frz1 ρ r).bind fun z => (frzL z.2 rs).map fun y => (z.1 :: y.1, y.2)
theorem frzA_ok : ∀ {vs : List V} {rs : List OR} {ρ ρ' : DEnv} {ds : List PyData} {τ : List V} {θ : List OR}, Rel b F σ H ρ (vs ++ τ) (rs ++ θ) → vs.length = rs.length → L2.frzL ρ rs = some (ds, ρ') → Rel b F σ H ρ' (vs ++ τ) (ds.map (fun d => OR.val (.fz d)) ++ θ) ∧ vs.length = ds.length
  | [], [], _, _, _, _, _, R, _, e => by simp only [L2.frzL] at e; cases e; exact ⟨R, rfl⟩
  | v :: vs, r :: rs, ρ, ρ', ds, τ, θ, R, e, h => by
    simp only [L2.frzL, Option.bind_eq_some_iff, Option.map_eq_some_iff] at h
    obtain ⟨⟨d, ρ1⟩, h1, ⟨ds', ρ2⟩, h2, h3⟩ := h
    cases h3
    have R1 : Rel b F σ H ρ1 (v :: (vs ++ τ)) (.val (.fz d) :: (rs ++ θ)) := Rel.frz1 R h1
    have e' : vs.length = rs.length := by simpa using e
    obtain ⟨R2, e2⟩ := frzA_ok (Rel.tor (vs := vs) (rs := rs) R1 e') e' h2
    exact ⟨Rel.rot R2 (by rw [e2, List.length_map]), by simp [e2]⟩
  | [], _ :: _, _, _, _, _, _, _, e, _ => by simp at e
  | _ :: _, [], _, _, _, _, _, _, e, _ => by simp at e
end
end L2
namespace L2
open PySem PySem.Spec PyProof.Rows
section
variable {X : Cx}
def rCatS (K : PySem.W.Frag) : R2 := fun x y H Q => ∃ l b xs zs, x = .ref l ∧ y = .ref b ∧ SqL K H l xs ∧ SqL K H b zs ∧ xs.length + zs.length ≤ sizeLine ∧ ∀ p, H p = none → Q (.ref p) (upd H p (.lst (xs ++ zs)))
theorem op_catS : OpR X (binaryOp .Add) (rCatS X.K) := by
  intro pins s σ H x y v u Q I rx ry h
  obtain ⟨l, b, xs, zs, rfl, rfl, hH, hB, hz, q⟩ := h
  cases rx
  cases ry
  obtain ⟨its, r, ⟨⟨c, dd, dt, sl⟩, n, e, hc, _, hd⟩, _⟩ := I.list hH
  obtain ⟨its2, r2, ⟨⟨c2, dd2, dt2, sl2⟩, n2, e2, hc2, _, hd2⟩, _⟩ := I.list hB
  have l1 := r.length
  have l2 := r2.length
  simp only at hc hd hc2 hd2
  subst hc hd hc2 hd2
  refine concat_meets ⟨_, e, rfl⟩ ⟨_, e2, rfl⟩ noFill_list_add seq_list_add PySem.F.slot_list_add PySem.F.entry_list_add (PySem.F.args_list_add_2 _ _) (list_addW l b its.toArray its2.toArray n n2 dd dd2 sl sl2 (by rw [List.size_toArray, List.size_toArray]; omega)) ⟨e, e2, ?_⟩
  have ea : its.toArray ++ its2.toArray = (its ++ its2).toArray := by simp
  rw [ea]
  exact ⟨.ref _, _, I.lnew (t' := s.toks) (r.append r2) (by rw [List.length_append]; omega), rfl, q _ I.fresh⟩
end

/-! ### expressions over data -/
abbrev DK := OR → DEnv → Prop
abbrev DE := DEnv → DK → Prop
abbrev DT := DEnv → (Bool → DEnv → Prop) → Prop
abbrev DA := DEnv → (List OR → DEnv → Prop) → Prop
abbrev DR2 := PyData → PyData → (PyData → Prop) → Prop
abbrev DR1 := PyData → (PyData → Prop) → Prop
abbrev DRn := List PyData → (PyData → Prop) → Prop
def SndE (K : PySem.W.Frag) (te : TE) (de : DE) : Prop := ∀ (b : Bs) (F : List Fr) (σ : St) (H : Hp) (ρ : DEnv) (τ : List V) (θ : List OR) (Qd : DK) (Q : VK), b.K = K → Rel b F σ H ρ τ θ → de ρ Qd → (∀ v H' r ρ', Rel b F σ H' ρ' (v :: τ) (r :: θ) → Qd r ρ' → Q v H') → te σ H Q
def SndT (K : PySem.W.Frag) (te : TT) (de : DT) : Prop := ∀ (b : Bs) (F : List Fr) (σ : St) (H : Hp) (ρ : DEnv) (τ : List V) (θ : List OR) (Qd : Bool → DEnv → Prop) (Q : Bool → Hp → Prop), b.K = K → Rel b F σ H ρ τ θ → de ρ Qd → (∀ k H' ρ', Rel b F σ H' ρ' τ θ → Qd k ρ' → Q k H') → te σ H Q
def SndA (K : PySem.W.Frag) (te : TA) (de : DA) : Prop := ∀ (b : Bs) (F : List Fr) (σ : St) (H : Hp) (ρ : DEnv) (τ : List V) (θ : List OR) (Qd : List OR → DEnv → Prop) (Q : List V → Hp → Prop), b.K = K → Rel b F σ H ρ τ θ → de ρ Qd → (∀ vs H' rs ρ', vs.length = rs.length → Rel b F σ H' ρ' (vs ++ τ) (rs ++ θ) → Qd rs ρ' → Q vs H') → te σ H Q
inductive PDe (X : Cx) (e : Expr) (de : DE) : Prop | mk (te : TE) (h : PE X e te) (s : SndE X.K te de)
inductive PDt (X : Cx) (e : Expr) (de : DT) : Prop | mk (te : TT) (h : PT X e te) (s : SndT X.K te de)
inductive PDw (X : Cx) (e : Expr) (de : DT) : Prop | mk (te : TT) (h : PW X e te) (s : SndT X.K te de)
inductive PDa (X : Cx) (es : List Expr) (de : DA) : Prop | mk (te : TA) (h : PA X es te) (s : SndA X.K te de)
section
variable {X : Cx} {K : PySem.W.Frag} {a b c e : Expr} {es : List Expr} {da db dc : DE} {pos : Pos} {x : Str} {i : Nat}
def dVar (i : Nat) : DE := fun ρ Q => match ρ[i]?.join with
  | some (.fz d) => Q (.val (.fz d)) ρ
  | some _ => Q (.rf i) ρ
  | none => False
theorem snd_var : SndE K (tVar i) (dVar i) := by
  intro b F σ H ρ τ θ Qd Q hK R h q
  unfold dVar at h
  cases e : ρ[i]?.join with
  | none => rw [e] at h; exact h.elim
  | some x =>
    rw [e] at h
    have e' := join_some e
    obtain ⟨v, ev⟩ := R.wf.get e'
    have base : Qd (.rf i) ρ → tVar i σ H Q := fun h => ⟨v, ev, q v H (.rf i) ρ ⟨R.wf, show Al σ (v :: τ) (.rf i :: θ) from ⟨ev, R.al⟩, R.wff, R.wd⟩ h⟩
    cases x with
    | fz d => exact ⟨v, ev, q v H _ ρ (R.dupS e' ev) h⟩
    | _ => exact base h
theorem pd_var (hN : X.N[i]? = some x) (hv : Vis X.env.scope x) (hd : (x == ("__debug__" : Str)) = false := by decide) (hcd : (x == ("__classdict__" : Str)) = false := by decide) : PDe X (.Name x pos) (dVar i) := ⟨_, pe_var hN hv hd hcd, snd_var⟩
def dC (d : PyData) : DE := fun ρ Q => Q (.val (.fz d)) ρ
theorem snd_c {v : V} {d : PyData} (h : Sc v d) : SndE K (tC v) (dC d) := fun b F σ H ρ τ θ Qd Q hK R hd q => q v H _ ρ (R.sc h) hd
theorem pd_int {i j pos} : PDe X (.Constant (.int i) j pos) (dC (.int i)) := ⟨_, pe_int, snd_c (.int i)⟩
theorem pd_bl {k j pos} : PDe X (.Constant (.bool k) j pos) (dC (.bool k)) := ⟨_, pe_bl, snd_c (.bl k)⟩
theorem pd_str {x j pos} : PDe X (.Constant (.str x) j pos) (dC (.str x)) := ⟨_, pe_str, snd_c (.str x)⟩
theorem pd_glob {v : V} {d : PyData} {u : Value} (hg : Gl X x) (hm : X.mg x = some u) (r : RelV v u) (s : Sc v d) (hd : (x == ("__debug__" : Str)) = false := by decide) : PDe X (.Name x pos) (dC d) := ⟨_, pe_glob hg hm r hd, snd_c s⟩
/-! two operands, a scalar -/
def SndR2 (K : PySem.W.Frag) (r2 : R2) (r : DR2) : Prop := ∀ (H : Hp) (v u : V) (dx dy : PyData) (Qd : PyData → Prop) (Q : VK), Dt K H v dx → Dt K H u dy → r dx dy Qd → (∀ w d, Sc w d → Qd d → Q w H) → r2 v u H Q
def dOp2 (r : DR2) (a b : DE) : DE := fun ρ Q => a ρ fun x ρ1 => b ρ1 fun y ρ2 => ∃ dx dy, datR ρ2 x = some dx ∧ datR ρ2 y = some dy ∧ r dx dy fun d => Q (.val (.fz d)) ρ2
theorem snd_op {r2 : R2} {r : DR2} {ta tb : TE} (hr : SndR2 K r2 r) (ha : SndE K ta da) (hb : SndE K tb db) : SndE K (tOp r2 ta tb) (dOp2 r da db) := by
  intro b F σ H ρ τ θ Qd Q hK R h q
  refine ha b F σ H ρ τ θ _ _ hK R h fun v H1 x ρ1 R1 h1 => hb b F σ H1 ρ1 _ _ _ _ hK R1 h1 fun u H2 y ρ2 R2 h2 => ?_
  obtain ⟨dx, dy, e1, e2, h3⟩ := h2
  exact hr H2 v u dx dy _ _ (hK ▸ R2.dt2 e1) (hK ▸ R2.dt e2) h3 fun w d sc hd => q w H2 _ _ (R2.drop.drop.sc sc) hd
theorem pd_op {op : Operator} {r2 : R2} {r : DR2} (ho : OpR X (binaryOp op) r2) (hr : SndR2 X.K r2 r) : PDe X a da → PDe X b db → PDe X (.BinOp a op b pos) (dOp2 r da db)
  | ⟨_, h1, s1⟩, ⟨_, h2, s2⟩ => ⟨_, pe_op ho h1 h2, snd_op hr s1 s2⟩
def dI (C : Int → Int → Prop) (g : Int → Int → PyData) : DR2 := fun x y Q => ∃ i j, x = .int i ∧ y = .int j ∧ C i j ∧ Q (g i j)
def dI0 (g : Int → Int → PyData) : DR2 := fun x y Q => ∃ i j, x = .int i ∧ y = .int j ∧ Q (g i j)
theorem sr_I {C : Int → Int → Prop} {g : Int → Int → V} {g' : Int → Int → PyData} (h : ∀ i j, Sc (g i j) (g' i j)) : SndR2 K (rI C g) (dI C g') := by
  rintro H v u dx dy Qd Q hv hu ⟨i, j, rfl, rfl, c, hq⟩ q
  cases hv
  cases hu
  exact ⟨i, j, rfl, rfl, c, q _ _ (h i j) hq⟩
theorem sr_I0 {g : Int → Int → V} {g' : Int → Int → PyData} (h : ∀ i j, Sc (g i j) (g' i j)) : SndR2 K (rI0 g) (dI0 g') := by
  rintro H v u dx dy Qd Q hv hu ⟨i, j, rfl, rfl, hq⟩ q
  cases hv
  cases hu
  exact ⟨i, j, rfl, rfl, q _ _ (h i j) hq⟩
abbrev dAdd : DE → DE → DE := dOp2 (dI0 fun i j => .int (i + j))
abbrev dSub : DE → DE → DE := dOp2 (dI0 fun i j => .int (i - j))
abbrev dMul : DE → DE → DE := dOp2 (dI CMul fun i j => .int (i * j))
abbrev dFdiv : DE → DE → DE := dOp2 (dI CDiv fun i j => .int (i / j))
abbrev dMod : DE → DE → DE := dOp2 (dI (fun _ j => 0 < j) fun i j => .int (i % j))
theorem pd_add (h1 : PDe X a da) (h2 : PDe X b db) : PDe X (.BinOp a .Add b pos) (dAdd da db) := pd_op op_add (sr_I0 fun i j => .int _) h1 h2
theorem pd_sub (h1 : PDe X a da) (h2 : PDe X b db) : PDe X (.BinOp a .Sub b pos) (dSub da db) := pd_op op_sub (sr_I0 fun i j => .int _) h1 h2
theorem pd_mul (h1 : PDe X a da) (h2 : PDe X b db) : PDe X (.BinOp a .Mult b pos) (dMul da db) := pd_op op_mul (sr_I fun i j => .int _) h1 h2
theorem pd_fdiv (h1 : PDe X a da) (h2 : PDe X b db) : PDe X (.BinOp a .FloorDiv b pos) (dFdiv da db) := pd_op op_fdiv (sr_I fun i j => .int _) h1 h2
theorem pd_mod (h1 : PDe X a da) (h2 : PDe X b db) : PDe X (.BinOp a .Mod b pos) (dMod da db) := pd_op op_mod (sr_I fun i j => .int _) h1 h2
/-! comparisons -/
theorem pd_cmp {op : CmpOp} {r2 : R2} {r : DR2} (ho : OpR X (compareOp op) r2) (hr : SndR2 X.K r2 r) (hm : behindInMarks op b = false) : PDe X a da → PDe X b db → PDe X (.Compare a [op] [b] pos) (dOp2 r da db)
  | ⟨_, h1, s1⟩, ⟨_, h2, s2⟩ => ⟨_, pe_cmpR ho h1 h2 hm, snd_op hr s1 s2⟩
theorem sr_B {g : Int → Int → Bool} : SndR2 K (rI0 fun i j => .bl (g i j)) (dI0 fun i j => .bool (g i j)) := sr_I0 fun _ _ => .bl _
/-- == of scalars -/
def eqSc : PyData → PyData → Option Bool
  | .int i, .int j => some (decide (i = j))
  | .bool i, .bool j => some (decide (i = j))
  | .str i, .str j => some (decide (i = j))
  | .none, .none => some true
  | .none, .int _ => some false | .int _, .none => some false | .none, .str _ => some false | .str _, .none => some false
  | .int _, .str _ => some false | .str _, .int _ => some false
  | _, _ => none
theorem eqSc_ok {H : Hp} {v u : V} {dx dy : PyData} {k : Bool} (hv : Dt K H v dx) (hu : Dt K H u dy) (e : eqSc dx dy = some k) : scal v u = true ∧ decide (v = u) = k := by
  cases hv <;> cases hu <;> simp only [eqSc] at e <;> cases e <;> refine ⟨rfl, ?_⟩ <;> simp
def dEqS : DR2 := fun x y Q => ∃ k, eqSc x y = some k ∧ Q (.bool k)
def dNeS : DR2 := fun x y Q => ∃ k, eqSc x y = some k ∧ Q (.bool (!k))
theorem sr_eq : SndR2 K rEq dEqS := by
  rintro H v u dx dy Qd Q hv hu ⟨k, e, hq⟩ q
  obtain ⟨h1, h2⟩ := eqSc_ok hv hu e
  exact ⟨h1, by rw [h2]; exact q _ _ (.bl k) hq⟩
theorem sr_ne : SndR2 K rNe dNeS := by
  rintro H v u dx dy Qd Q hv hu ⟨k, e, hq⟩ q
  obtain ⟨h1, h2⟩ := eqSc_ok hv hu e
  exact ⟨h1, by rw [h2]; exact q _ _ (.bl _) hq⟩
/-- == of data -/
def dEqD : DR2 := fun x y Q => SeqAt.shaped x = true ∧ SeqAt.shaped y = true ∧ Q (.bool (PyData.eqv x y))
def dNeD : DR2 := fun x y Q => SeqAt.shaped x = true ∧ SeqAt.shaped y = true ∧ Q (.bool (!PyData.eqv x y))
theorem sr_eqD : SndR2 K (rEqD K) dEqD := fun H v u dx dy Qd Q hv hu ⟨s1, s2, hq⟩ q => ⟨dx, dy, hv, hu, s1, s2, q _ _ (.bl _) hq⟩
theorem sr_neD : SndR2 K (rNeD K) dNeD := fun H v u dx dy Qd Q hv hu ⟨s1, s2, hq⟩ q => ⟨dx, dy, hv, hu, s1, s2, q _ _ (.bl _) hq⟩
/-- x in a list or tuple of numbers and texts -/
def eqFl : PyData → PyData → Option Bool
  | .int i, .int j => some (decide (i = j))
  | .str i, .str j => some (decide (i = j))
  | .none, .none => some true
  | .int _, .str _ => some false | .str _, .int _ => some false | .none, .int _ => some false | .int _, .none => some false | .none, .str _ => some false | .str _, .none => some false
  | _, _ => none
def memD (x : PyData) : List PyData → Option Bool
  | [] => some false
  | y :: ys => (eqFl y x).bind fun k => (memD x ys).map (k || ·)
def flD : PyData → Bool
  | .int _ => true
  | .str _ => true
  | .none => true
  | _ => false
def dIn (neg : Bool) : DR2 := fun x y Q => ∃ ds k, (y = .list ds ∨ y = .tuple ds) ∧ flD x = true ∧ memD x ds = some k ∧ Q (.bool (if neg then !k else k))
theorem memD_ok {H : Hp} {v : V} {x : PyData} (hv : Dt K H v x) (hx : flD x = true) : ∀ {vs : List V} {ds : List PyData} {k : Bool}, DtAll K H vs ds → memD x ds = some k → flatV v = true ∧ vs.all flatV = true ∧ inV v vs = k
  | _, _, _, .nil, e => by
    simp only [memD] at e
    cases e
    cases hv <;> simp_all [flatV, inV, flD]
  | _, _, k, .cons r t, e => by
    simp only [memD, Option.bind_eq_some_iff, Option.map_eq_some_iff] at e
    obtain ⟨k1, e1, k2, e2, rfl⟩ := e
    obtain ⟨h1, h2, h3⟩ := memD_ok hv hx t e2
    cases hv <;> cases r <;> simp only [eqFl] at e1 <;> cases e1 <;> simp_all [flatV, inV, eqV, BEq.beq]
theorem sr_in {neg : Bool} : SndR2 K (rIn K neg) (dIn neg) := by
  rintro H v u dx dy Qd Q hv hu ⟨ds, k, hy, hx, hm, hq⟩ q
  rcases hy with rfl | rfl
  · cases hu with
    | lst h t =>
      obtain ⟨h1, h2, h3⟩ := memD_ok hv hx t hm
      exact ⟨_, _, rfl, .inl h, h1, h2, by rw [h3]; exact q _ _ (.bl _) hq⟩
  · cases hu with
    | tup h t =>
      obtain ⟨h1, h2, h3⟩ := memD_ok hv hx t hm
      exact ⟨_, _, rfl, .inr h, h1, h2, by rw [h3]; exact q _ _ (.bl _) hq⟩
theorem memD_ints (i : Int) : ∀ ns : List Int, memD (.int i) (ns.map PyData.int) = some (decide (i ∈ ns))
  | [] => by simp [memD]
  | n :: ns => by
    rw [List.map_cons, memD, memD_ints i ns]
    simp only [eqFl, Option.bind_some, Option.map_some, List.mem_cons, Bool.decide_or, eq_comm]
theorem memD_strs (x : Str) : ∀ ns : List Str, memD (.str x) (ns.map PyData.str) = some (decide (x ∈ ns))
  | [] => by simp [memD]
  | n :: ns => by
    rw [List.map_cons, memD, memD_strs x ns]
    simp only [eqFl, Option.bind_some, Option.map_some, List.mem_cons, Bool.decide_or, eq_comm]
/-! is None -/
/-! one operand -/
def dUn (r : DR1) (a : DE) : DE := fun ρ Q => a ρ fun x ρ1 => ∃ d, datR ρ1 x = some d ∧ r d fun z => Q (.val (.fz z)) ρ1
def dNeg : DR1 := fun x Q => ∃ i, x = .int i ∧ Q (.int (-i))
theorem pd_neg : PDe X a da → PDe X (.UnaryOp .USub a pos) (dUn dNeg da)
  | ⟨_, h1, s1⟩ => ⟨_, pe_un un_neg h1, fun b F σ H ρ τ θ Qd Q hK R h q => s1 b F σ H ρ τ θ _ _ hK R h fun v H1 x ρ1 R1 ⟨d, e, i, e2, h1⟩ => by
    subst e2
    cases R1.dt e
    exact ⟨i, rfl, q _ H1 _ _ (R1.drop.sc (.int _)) h1⟩⟩
/-! and, or, not: values -/
def dAndV (a b : DE) : DE := fun ρ Q => a ρ fun x ρ1 => ∃ k, datR ρ1 x = some (.bool k) ∧ if k = true then b ρ1 Q else Q (.val (.fz (.bool false))) ρ1
def dOrV (a b : DE) : DE := fun ρ Q => a ρ fun x ρ1 => ∃ k, datR ρ1 x = some (.bool k) ∧ if k = true then Q (.val (.fz (.bool true))) ρ1 else b ρ1 Q
theorem pd_one {op} : PDe X a da → PDe X (.BoolOp op [a] pos) da
  | ⟨_, h1, s1⟩ => ⟨_, pe_one h1, s1⟩
theorem pd_and : PDe X a da → PDe X (.BoolOp .And (b :: es) pos) db → PDe X (.BoolOp .And (a :: b :: es) pos) (dAndV da db)
  | ⟨_, h1, s1⟩, ⟨_, h2, s2⟩ => ⟨_, pe_and h1 h2, fun b F σ H ρ τ θ Qd Q hK R h q => s1 b F σ H ρ τ θ _ _ hK R h fun v H1 x ρ1 R1 ⟨k, e, h1⟩ => by
    cases R1.dt e
    refine ⟨k, rfl, ?_⟩
    cases k with
    | false => rw [if_neg Bool.false_ne_true] at h1 ⊢; exact q _ H1 _ _ (R1.drop.sc (.bl _)) h1
    | true => rw [if_pos rfl] at h1 ⊢; exact s2 b F σ H1 ρ1 τ θ _ _ hK R1.drop h1 q⟩
theorem pd_or : PDe X a da → PDe X (.BoolOp .Or (b :: es) pos) db → PDe X (.BoolOp .Or (a :: b :: es) pos) (dOrV da db)
  | ⟨_, h1, s1⟩, ⟨_, h2, s2⟩ => ⟨_, pe_or h1 h2, fun b F σ H ρ τ θ Qd Q hK R h q => s1 b F σ H ρ τ θ _ _ hK R h fun v H1 x ρ1 R1 ⟨k, e, h1⟩ => by
    cases R1.dt e
    refine ⟨k, rfl, ?_⟩
    cases k with
    | true => rw [if_pos rfl] at h1 ⊢; exact q _ H1 _ _ (R1.drop.sc (.bl _)) h1
    | false => rw [if_neg Bool.false_ne_true] at h1 ⊢; exact s2 b F σ H1 ρ1 τ θ _ _ hK R1.drop h1 q⟩
/-! tests -/
def dTest (a : DE) : DT := fun ρ Q => a ρ fun x ρ1 => ∃ k, datR ρ1 x = some (.bool k) ∧ Q k ρ1
theorem snd_test {ta : TE} (s1 : SndE K ta da) : SndT K (tTest ta) (dTest da) := fun b F σ H ρ τ θ Qd Q hK R h q => s1 b F σ H ρ τ θ _ _ hK R h fun v H1 x ρ1 R1 ⟨k, e, h1⟩ => by
  cases R1.dt e
  exact ⟨k, rfl, q _ H1 _ R1.drop h1⟩
theorem snd_tB {ta : TE} (s1 : SndE K ta da) : SndT K (tB ta) (dTest da) := fun b F σ H ρ τ θ Qd Q hK R h q => s1 b F σ H ρ τ θ _ _ hK R h fun v H1 x ρ1 R1 ⟨k, e, h1⟩ => by
  cases R1.dt e
  exact ⟨k, rfl, q _ H1 _ R1.drop h1⟩
theorem pdt_cmp {op : CmpOp} {r2 : R2} {r : DR2} (ho : OpR X (compareOp op) r2) (hr : SndR2 X.K r2 r) (hm : behindInMarks op b = false) : PDe X a da → PDe X b db → PDt X (.Compare a [op] [b] pos) (dTest (dOp2 r da db))
  | ⟨_, h1, s1⟩, ⟨_, h2, s2⟩ => ⟨_, pt_cmpR ho h1 h2 hm, snd_test (snd_op hr s1 s2)⟩
theorem pdt_val (he : ∀ whole, isTrue e X.env whole = (do let v ← whole; standAt e.pos; holding [v] (truthy v)) := by intro _; rfl) : PDe X e da → PDt X e (dTest da)
  | ⟨_, h1, s1⟩ => ⟨_, pt_val h1 he, snd_tB s1⟩
def dAndT (t u : DT) : DT := fun ρ Q => t ρ fun c ρ1 => if c = true then u ρ1 Q else Q false ρ1
def dOrT (t u : DT) : DT := fun ρ Q => t ρ fun c ρ1 => if c = true then Q true ρ1 else u ρ1 Q
def dNotT (t : DT) : DT := fun ρ Q => t ρ fun c ρ1 => Q (!c) ρ1
variable {dt du : DT}
theorem PDw.pt : PDw X e dt → PDt X e dt
  | ⟨_, h, s⟩ => ⟨_, h.pt, s⟩
theorem pdw_and1 : PDt X a dt → PDw X (.BoolOp .And [a] pos) dt
  | ⟨_, h, s⟩ => ⟨_, pw_and1 h, s⟩
theorem pdw_or1 : PDt X a dt → PDw X (.BoolOp .Or [a] pos) dt
  | ⟨_, h, s⟩ => ⟨_, pw_or1 h, s⟩
theorem pdw_and : PDt X a dt → PDw X (.BoolOp .And (b :: es) pos) du → PDw X (.BoolOp .And (a :: b :: es) pos) (dAndT dt du)
  | ⟨_, h1, s1⟩, ⟨_, h2, s2⟩ => ⟨_, pw_and h1 h2, fun b F σ H ρ τ θ Qd Q hK R h q => s1 b F σ H ρ τ θ _ _ hK R h fun k H1 ρ1 R1 h1 => by
    cases k with
    | false => rw [if_neg Bool.false_ne_true] at h1 ⊢; exact q _ H1 _ R1 h1
    | true => rw [if_pos rfl] at h1 ⊢; exact s2 b F σ H1 ρ1 τ θ _ _ hK R1 h1 q⟩
theorem pdw_or : PDt X a dt → PDw X (.BoolOp .Or (b :: es) pos) du → PDw X (.BoolOp .Or (a :: b :: es) pos) (dOrT dt du)
  | ⟨_, h1, s1⟩, ⟨_, h2, s2⟩ => ⟨_, pw_or h1 h2, fun b F σ H ρ τ θ Qd Q hK R h q => s1 b F σ H ρ τ θ _ _ hK R h fun k H1 ρ1 R1 h1 => by
    cases k with
    | true => rw [if_pos rfl] at h1 ⊢; exact q _ H1 _ R1 h1
    | false => rw [if_neg Bool.false_ne_true] at h1 ⊢; exact s2 b F σ H1 ρ1 τ θ _ _ hK R1 h1 q⟩
theorem pdt_not : PDt X a dt → PDt X (.UnaryOp .Not a pos) (dNotT dt)
  | ⟨_, h, s⟩ => ⟨_, pt_not h, fun b F σ H ρ τ θ Qd Q hK R h q => s b F σ H ρ τ θ _ _ hK R h fun k H1 ρ1 R1 h1 => q _ H1 _ R1 h1⟩
def dIf (t : DT) (a b : DE) : DE := fun ρ Q => t ρ fun c ρ1 => if c = true then a ρ1 Q else b ρ1 Q
theorem pd_if : PDt X c dt → PDe X a da → PDe X b db → PDe X (.IfExp c a b pos) (dIf dt da db)
  | ⟨_, h, s⟩, ⟨_, h1, s1⟩, ⟨_, h2, s2⟩ => ⟨_, pe_ifExp h h1 h2, fun b F σ H ρ τ θ Qd Q hK R h q => s b F σ H ρ τ θ _ _ hK R h fun k H1 ρ1 R1 h1 => by
    cases k with
    | true => rw [if_pos rfl] at h1 ⊢; exact s1 b F σ H1 ρ1 τ θ _ _ hK R1 h1 q
    | false => rw [if_neg Bool.false_ne_true] at h1 ⊢; exact s2 b F σ H1 ρ1 τ θ _ _ hK R1 h1 q⟩
/-! truth of a list -/
def truD : PyData → Option Bool
  | .list ds => some (!ds.isEmpty)
  | .tuple ds => some (!ds.isEmpty)
  | .bool k => some k
  | _ => none
def dTru (a : DE) : DT := fun ρ Q => a ρ fun x ρ1 => ∃ d k, datR ρ1 x = some d ∧ truD d = some k ∧ Q k ρ1
theorem DtAll.emp {H : Hp} {xs : List V} {ds : List PyData} (h : DtAll K H xs ds) : xs.isEmpty = ds.isEmpty := by cases h <;> rfl
theorem pdt_tru (he : ∀ whole, isTrue a X.env whole = (do let v ← whole; standAt a.pos; holding [v] (truthy v)) := by intro _; rfl) : PDe X a da → PDt X a (dTru da)
  | ⟨_, h1, s1⟩ => ⟨_, pt_truth h1 he, fun b F σ H ρ τ θ Qd Q hK R h q => s1 b F σ H ρ τ θ _ _ hK R h fun v H1 x ρ1 R1 ⟨d, k, e, ek, h1⟩ => by
    have hd := R1.dt e
    rw [hK] at hd
    refine ⟨k, ?_, q _ H1 _ R1.drop h1⟩
    cases hd with
    | bl k' => simp only [truD] at ek; cases ek; rfl
    | lst s t => simp only [truD] at ek; cases ek; exact .inl ⟨_, s, by rw [DtAll.emp t]⟩
    | tup s t => simp only [truD] at ek; cases ek; exact .inr (.inl ⟨_, s, by rw [DtAll.emp t]⟩)
    | _ => simp [truD] at ek⟩
end
end L2
namespace L2
open PySem PySem.Spec PyProof.Rows
section
variable {X : Cx} {K : PySem.W.Frag} {a b c e : Expr} {es : List Expr} {da db dc : DE} {dt : DA} {pos : Pos} {x : Str}
def dNil : DA := fun ρ Q => Q [] ρ
def dCons (a : DE) (t : DA) : DA := fun ρ Q => a ρ fun x ρ1 => t ρ1 fun xs ρ2 => Q (x :: xs) ρ2
theorem pda_nil : PDa X [] dNil := ⟨_, pa_nil, fun b F σ H ρ τ θ Qd Q hK R h q => q [] H [] ρ rfl R h⟩
theorem pda_cons (hs : starEach (e :: es) X.env = (false, eval e X.env) :: starEach es X.env := by rfl) : PDe X e da → PDa X es dt → PDa X (e :: es) (dCons da dt)
  | ⟨_, h1, s1⟩, ⟨_, h2, s2⟩ => ⟨_, pa_cons h1 h2 hs, fun b F σ H ρ τ θ Qd Q hK R h q => s1 b F σ H ρ τ θ _ _ hK R h fun v H1 r ρ1 R1 h1 => s2 b F σ H1 ρ1 _ _ _ _ hK R1 h1 fun vs H2 rs ρ2 el R2 h2 =>
    q (v :: vs) H2 (r :: rs) ρ2 (by simp [el]) (Rel.rot R2 el) h2⟩
end
/-! ### what stands in the arguments -/
def own1 (ρ : DEnv) : OR → Option (OD × DEnv)
  | .val x => some (x, ρ)
  | .rf i => (frz1 ρ (.rf i)).map fun z => (.fz z.1, z.2)
def mv1 (ρ : DEnv) : OR → Option (OD × DEnv)
  | .val x => some (x, ρ)
  | .rf i => (ρ[i]?.join).map fun x => (x, ρ.set i none)
def mapR (f : DEnv → OR → Option (OD × DEnv)) (ρ : DEnv) : List OR → Option (List OD × DEnv)
  | [] => some ([], ρ)
  | r :: rs => (f ρ r).bind fun z => (mapR f z.2 rs).map fun y => (z.1 :: y.1, y.2)
def fzL : List OD → Option (List PyData)
  | [] => some []
  | .fz d :: xs => (fzL xs).map (d :: ·)
  | _ :: _ => none
def cdL : List OD → Option (List CD)
  | [] => some []
  | x :: xs => x.cd.bind fun c => (cdL xs).map (c :: ·)
def mkTup (xs : List OD) : Option OD := match fzL xs with
  | some ds => some (.fz (.tuple ds))
  | none => (cdL xs).map OD.tup
def mkLst (xs : List OD) : Option OD := match fzL xs with
  | some ds => some (.lst ds)
  | none => (cdL xs).map OD.lsc
section
variable {b : Bs} {F : List Fr} {σ : St} {H H' : Hp} {ρ ρ' : DEnv} {τ vs : List V} {θ rs : List OR} {v u : V} {r : OR} {x y : OD} {d : PyData} {ds : List PyData} {i : Nat} {L : List (V × OD)} {p : Addr}
theorem Rel.own1 (R : Rel b F σ H ρ (v :: τ) (r :: θ)) (e : own1 ρ r = some (x, ρ')) : Rel b F σ H ρ' (v :: τ) (.val x :: θ) := by
  cases r with
  | val x => simp only [L2.own1] at e; cases e; exact R
  | rf i =>
    simp only [L2.own1, Option.map_eq_some_iff] at e
    obtain ⟨⟨d, ρ1⟩, e1, e2⟩ := e
    cases e2
    exact R.frz1 e1
theorem Rel.mv1 (R : Rel b F σ H ρ (v :: τ) (r :: θ)) (e : mv1 ρ r = some (x, ρ')) : Rel b F σ H ρ' (v :: τ) (.val x :: θ) := by
  cases r with
  | val x => simp only [L2.mv1] at e; cases e; exact R
  | rf i =>
    simp only [L2.mv1, Option.map_eq_some_iff] at e
    obtain ⟨x, e1, e2⟩ := e
    cases e2
    obtain ⟨u, eu, w⟩ := R.drop.slot (join_some e1)
    have : v = u := by have := R.al.1; rw [eu] at this; cases this; rfl
    subst this
    exact ⟨R.wf.off, R.drop.al, R.wff, w⟩
theorem mapR_ok {f : DEnv → OR → Option (OD × DEnv)} (hf : ∀ {ρ ρ' : DEnv} {τ : List V} {θ : List OR} {v : V} {r : OR} {x : OD}, Rel b F σ H ρ (v :: τ) (r :: θ) → f ρ r = some (x, ρ') → Rel b F σ H ρ' (v :: τ) (.val x :: θ)) :
    ∀ {vs : List V} {rs : List OR} {ρ ρ' : DEnv} {xs : List OD} {τ : List V} {θ : List OR}, Rel b F σ H ρ (vs ++ τ) (rs ++ θ) → vs.length = rs.length → mapR f ρ rs = some (xs, ρ') → Rel b F σ H ρ' (vs ++ τ) (xs.map OR.val ++ θ) ∧ vs.length = xs.length
  | [], [], _, _, _, _, _, R, _, e => by simp only [mapR] at e; cases e; exact ⟨R, rfl⟩
  | v :: vs, r :: rs, ρ, ρ', ds, τ, θ, R, e, h => by
    simp only [mapR, Option.bind_eq_some_iff, Option.map_eq_some_iff] at h
    obtain ⟨⟨d, ρ1⟩, h1, ⟨ds', ρ2⟩, h2, h3⟩ := h
    cases h3
    have R1 : Rel b F σ H ρ1 (v :: (vs ++ τ)) (.val d :: (rs ++ θ)) := hf R h1
    have e' : vs.length = rs.length := by simpa using e
    obtain ⟨R2, e2⟩ := mapR_ok hf (Rel.tor (vs := vs) (rs := rs) R1 e') e' h2
    exact ⟨Rel.rot R2 (by rw [e2, List.length_map]), by simp [e2]⟩
  | [], _ :: _, _, _, _, _, _, _, e, _ => by simp at e
  | _ :: _, [], _, _, _, _, _, _, e, _ => by simp at e
theorem stk_vals : ∀ {vs : List V} {xs : List OD}, vs.length = xs.length → stk vs (xs.map OR.val) = vs.zip xs
  | [], [], _ => rfl
  | _ :: _, _ :: _, e => by simp only [List.map_cons, stk, List.zip_cons_cons]; rw [stk_vals (by simpa using e)]
  | [], _ :: _, e => by simp at e
  | _ :: _, [], e => by simp at e
theorem Rel.vals {xs : List OD} (R : Rel b F σ H ρ (vs ++ τ) (xs.map OR.val ++ θ)) (e : vs.length = xs.length) : Wd b H (vs.zip xs ++ (stk τ θ ++ (flat σ ρ ++ ff F))) := by
  have w := R.wd
  rw [stk_app (by rw [List.length_map]; exact e), stk_vals e, List.append_assoc] at w
  exact w
theorem Rel.push (R : Rel b F σ H ρ τ θ) (w : Wd b H' ((v, x) :: (stk τ θ ++ (flat σ ρ ++ ff F)))) : Rel b F σ H' ρ (v :: τ) (.val x :: θ) := ⟨R.wf, R.al, R.wff, w⟩
theorem Wd.drops {L1 L2 : List (V × OD)} (w : Wd b H (L1 ++ L2)) : Wd b H L2 := by
  induction L1 with
  | nil => exact w
  | cons x L1 ih => exact ih (Wd.drop (v := x.1) (x := x.2) w)
theorem Wd.below {z : V × OD} {L1 L2 : List (V × OD)} (w : Wd b H (z :: (L1 ++ L2))) : Wd b H (z :: L2) := Wd.drops (L1 := L1) (w.perm (List.perm_middle.symm))
theorem fzL_map : ∀ {xs : List OD} {ds : List PyData}, fzL xs = some ds → xs = ds.map OD.fz
  | [], _, e => by simp only [fzL] at e; cases e; rfl
  | .fz d :: xs, _, e => by
    simp only [fzL, Option.map_eq_some_iff] at e
    obtain ⟨ds, e1, rfl⟩ := e
    rw [fzL_map e1]; rfl
  | .lst _ :: _, _, e => by simp [fzL] at e
  | .tup _ :: _, _, e => by simp [fzL] at e
  | .lsc _ :: _, _, e => by simp [fzL] at e
  | .tape _ _ :: _, _, e => by simp [fzL] at e
  | .dic _ :: _, _, e => by simp [fzL] at e
  | .pin _ _ _ :: _, _, e => by simp [fzL] at e
theorem Wd.cds : ∀ {vs : List V} {xs : List OD} {cs : List CD} {L : List (V × OD)}, vs.length = xs.length → Wd b H (vs.zip xs ++ L) → cdL xs = some cs → Wd b H (vs.zip (cs.map CD.od) ++ L) ∧ vs.length = cs.length
  | [], [], cs, L, _, w, e => by simp only [cdL] at e; cases e; exact ⟨w, rfl⟩
  | v :: vs, x :: xs, cs, L, el, w, e => by
    simp only [cdL, Option.bind_eq_some_iff, Option.map_eq_some_iff] at e
    obtain ⟨c, e1, cs', e2, rfl⟩ := e
    have w1 : Wd b H ((v, c.od) :: (vs.zip xs ++ L)) := by
      cases x with
      | lst ds => simp only [OD.cd] at e1; cases e1; exact w
      | _ =>
        simp only [OD.cd, Option.map_eq_some_iff] at e1
        obtain ⟨d, e1, rfl⟩ := e1
        exact Wd.frz w e1
    obtain ⟨w2, e3⟩ := Wd.cds (L := (v, c.od) :: L) (by simpa using el) (w1.perm List.perm_middle.symm) e2
    exact ⟨w2.perm List.perm_middle, by simp [e3]⟩
  | [], _ :: _, _, _, e, _, _ => by simp at e
  | _ :: _, [], _, _, e, _, _ => by simp at e
theorem mkTup_ok {xs : List OD} (w : Wd b H (vs.zip xs ++ L)) (el : vs.length = xs.length) (e : mkTup xs = some y) (hp : H p = none) : Wd b (upd H p (.tup vs)) ((.ref p, y) :: L) := by
  unfold mkTup at e
  cases h : fzL xs with
  | some ds =>
    rw [h] at e
    cases e
    have hx := fzL_map h
    subst hx
    refine Wd.below (L1 := vs.zip (ds.map OD.fz)) (w.newTup (fun S hS => hS.all (by simpa using el) fun z hz => List.mem_append_left _ hz) hp)
  | none =>
    rw [h] at e
    simp only [Option.map_eq_some_iff] at e
    obtain ⟨cs, e1, rfl⟩ := e
    obtain ⟨w2, e2⟩ := w.cds el e1
    exact w2.newTupC e2 hp
theorem mkLst_ok {xs : List OD} (w : Wd b H (vs.zip xs ++ L)) (el : vs.length = xs.length) (e : mkLst xs = some y) (hp : H p = none) : Wd b (upd H p (.lst vs)) ((.ref p, y) :: L) := by
  unfold mkLst at e
  cases h : fzL xs with
  | some ds =>
    rw [h] at e
    cases e
    have hx := fzL_map h
    subst hx
    refine Wd.below (L1 := vs.zip (ds.map OD.fz)) (w.newLst (fun S hS => hS.all (by simpa using el) fun z hz => List.mem_append_left _ hz) hp)
  | none =>
    rw [h] at e
    simp only [Option.map_eq_some_iff] at e
    obtain ⟨cs, e1, rfl⟩ := e
    obtain ⟨w2, e2⟩ := w.cds el e1
    exact w2.newLsc e2 hp
end
section
variable {X : Cx} {K : PySem.W.Frag} {a b c e : Expr} {es : List Expr} {da db dc : DE} {dt : DA} {pos : Pos} {x : Str}
def dTup (f : DEnv → OR → Option (OD × DEnv)) (t : DA) : DE := fun ρ Q => t ρ fun rs ρ1 => ∃ xs ρ2 y, mapR f ρ1 rs = some (xs, ρ2) ∧ mkTup xs = some y ∧ rs.length ≤ 1000000 ∧ Q (.val y) ρ2
def dLst (f : DEnv → OR → Option (OD × DEnv)) (t : DA) : DE := fun ρ Q => t ρ fun rs ρ1 => ∃ xs ρ2 y, mapR f ρ1 rs = some (xs, ρ2) ∧ mkLst xs = some y ∧ rs.length ≤ 1000000 ∧ Q (.val y) ρ2
/-- a way to hand on what stands in a display -/
structure Hand (f : DEnv → OR → Option (OD × DEnv)) : Prop where
  ok : ∀ {b : Bs} {F : List Fr} {σ : St} {H : Hp} {ρ ρ' : DEnv} {τ : List V} {θ : List OR} {v : V} {r : OR} {x : OD}, Rel b F σ H ρ (v :: τ) (r :: θ) → f ρ r = some (x, ρ') → Rel b F σ H ρ' (v :: τ) (.val x :: θ)
theorem hOwn : Hand own1 := ⟨Rel.own1⟩
theorem hMv : Hand mv1 := ⟨Rel.mv1⟩
variable {f : DEnv → OR → Option (OD × DEnv)}
theorem pd_tup {x1} (hf : Hand f) : PDa X es dt → PDe X (.Tuple es x1 pos) (dTup f dt)
  | ⟨_, h1, s1⟩ => ⟨_, pe_tup h1, fun b F σ H ρ τ θ Qd Q hK R h q => s1 b F σ H ρ τ θ _ _ hK R h fun vs H1 rs ρ1 el R1 ⟨xs, ρ2, y, e1, e2, e3, h1⟩ => ⟨small2 (by rw [el]; exact e3), fun p hp => by
    obtain ⟨R2, e4⟩ := mapR_ok hf.ok R1 el e1
    exact q _ _ _ _ ((R2.drops (by rw [List.length_map]; exact e4)).push (mkTup_ok (R2.vals e4) e4 e2 hp)) h1⟩⟩
theorem pd_lst (hf : Hand f) : PDa X es dt → PDe X (.List es pos) (dLst f dt)
  | ⟨_, h1, s1⟩ => ⟨_, pe_lst h1, fun b F σ H ρ τ θ Qd Q hK R h q => s1 b F σ H ρ τ θ _ _ hK R h fun vs H1 rs ρ1 el R1 ⟨xs, ρ2, y, e1, e2, e3, h1⟩ => ⟨small2 (by rw [el]; exact e3), fun p hp => by
    obtain ⟨R2, e4⟩ := mapR_ok hf.ok R1 el e1
    exact q _ _ _ _ ((R2.drops (by rw [List.length_map]; exact e4)).push (mkLst_ok (R2.vals e4) e4 e2 hp)) h1⟩⟩
end
/-! ### items -/
def contR (ρ : DEnv) : OR → Option OD
  | .val x => some x
  | .rf i => ρ[i]?.join
def listOf : OD → Option (List PyData)
  | .fz (.list ds) => some ds
  | .lst ds => some ds
  | _ => none
def tupOf : OD → Option (List PyData)
  | .fz (.tuple ds) => some ds
  | _ => none
def lsR (ρ : DEnv) (r : OR) : Option (List PyData) := (contR ρ r).bind listOf
/-- an item, and what becomes of a name's thing for it -/
def itemO : OD → Int → Option OD
  | .fz (.list ds), i => (atI ds i).map OD.fz
  | .fz (.tuple ds), i => (atI ds i).map OD.fz
  | .lst ds, i => (atI ds i).map OD.fz
  | .tup xs, i => (atI xs i).map CD.od
  | .lsc xs, i => (atI xs i).map CD.od
  | _, _ => none
def itemS : OD → Int → Option (PyData × OD)
  | .fz (.list ds), i => (atI ds i).map fun d => (d, .fz (.list ds))
  | .fz (.tuple ds), i => (atI ds i).map fun d => (d, .fz (.tuple ds))
  | .lst ds, i => (atI ds i).map fun d => (d, .lst ds)
  | .tup xs, i => (ixN xs.length i).bind fun k => (xs[k]?).map fun c => (c.dat, .tup (xs.set k (.fz c.dat)))
  | .lsc xs, i => (ixN xs.length i).bind fun k => (xs[k]?).map fun c => (c.dat, .lsc (xs.set k (.fz c.dat)))
  | _, _ => none
def itemR (ρ : DEnv) (r : OR) (i : Int) : Option (OD × DEnv) := match r with
  | .val x => (itemO x i).map (·, ρ)
  | .rf j => (ρ[j]?.join).bind fun x => (itemS x i).map fun z => (.fz z.1, ρ.set j (some z.2))
section
variable {b : Bs} {F : List Fr} {σ : St} {H H' : Hp} {ρ ρ' : DEnv} {τ vs : List V} {θ rs : List OR} {v u : V} {r r' : OR} {x y : OD} {d : PyData} {ds : List PyData} {i : Nat} {L : List (V × OD)} {p : Addr}
theorem atI_pair {α β : Type} {xs : List α} {ys : List β} {i : Int} {y : β} (el : xs.length = ys.length) (h : atI ys i = some y) : ∃ k x, ixN xs.length i = some k ∧ ys[k]? = some y ∧ xs[k]? = some x ∧ atI xs i = some x := by
  unfold atI at h ⊢
  rw [← el] at h
  simp only [Option.bind_eq_some_iff] at h
  obtain ⟨k, e1, e2⟩ := h
  have hk : k < ys.length := (List.getElem?_eq_some_iff.mp e2).1
  refine ⟨k, xs[k]'(by omega), e1, e2, List.getElem?_eq_getElem _, ?_⟩
  rw [e1]
  exact List.getElem?_eq_getElem _
theorem zip_mem {α β : Type} {xs : List α} {ys : List β} {k : Nat} {x : α} {y : β} (e1 : xs[k]? = some x) (e2 : ys[k]? = some y) : (x, y) ∈ xs.zip ys := by
  rw [List.mem_iff_getElem?]
  exact ⟨k, by rw [List.getElem?_zip_eq_some]; exact ⟨e1, e2⟩⟩
theorem Wd.pick {z : V × OD} {Z : List (V × OD)} (w : Wd b H (Z ++ L)) (m : z ∈ Z) : Wd b H (z :: L) := by
  obtain ⟨Z1, Z2, rfl⟩ := List.append_of_mem m
  refine Wd.below (L1 := Z1 ++ Z2) (w.perm ?_)
  rw [List.append_assoc, List.append_assoc]
  exact List.perm_middle
theorem ixN_lt {n k : Nat} {i : Int} (h : ixN n i = some k) : k < n := by
  unfold ixN at h
  split at h
  · split at h
    · cases h; omega
    · cases h
  · split at h
    · cases h; omega
    · cases h
/-- an item of the first one -/
theorem Wd.itemO {i : Int} (w : Wd b H ((v, x) :: L)) (e : itemO x i = some y) : ∃ p vs u, v = .ref p ∧ (SqL b.K H p vs ∨ SqT b.K H p vs) ∧ atI vs i = some u ∧ Wd b H ((u, y) :: L) := by
  have fl : ∀ {ds : List PyData}, (x.dat = some (.list ds) ∨ x.dat = some (.tuple ds)) → (∀ xs, x ≠ .tup xs) → (∀ xs, x ≠ .lsc xs) → (atI ds i).map OD.fz = some y → ∃ p vs u, v = .ref p ∧ (SqL b.K H p vs ∨ SqT b.K H p vs) ∧ atI vs i = some u ∧ Wd b H ((u, y) :: L) := fun {ds} h1 n1 n2 h2 => by
    obtain ⟨d, e1, rfl⟩ := Option.map_eq_some_iff.mp h2
    obtain ⟨a, vs, rfl, el, _, s1, s2, w2⟩ := w.item List.mem_cons_self h1
    obtain ⟨k, u, _, e2, e3, e4⟩ := atI_pair el e1
    refine ⟨a, vs, u, rfl, h1.imp (fun h => (s1 h).1) s2, e4, Wd.below (L1 := [(V.ref a, x)]) ((w2 n1 n2).pick (zip_mem e3 ?_))⟩
    rw [List.getElem?_map, e2]; rfl
  cases x with
  | fz d =>
    cases d with
    | list ds => exact fl (.inl rfl) (fun _ z => by cases z) (fun _ z => by cases z) e
    | tuple ds => exact fl (.inr rfl) (fun _ z => by cases z) (fun _ z => by cases z) e
    | _ => simp [L2.itemO] at e
  | lst ds => exact fl (.inl rfl) (fun _ z => by cases z) (fun _ z => by cases z) e
  | tup xs =>
    obtain ⟨c, e1, rfl⟩ := Option.map_eq_some_iff.mp e
    obtain ⟨S, A, ⟨a, vs, rfl, h1, h2⟩, _⟩ := w.head
    obtain ⟨k, u, _, e2, e3, e4⟩ := atI_pair h2.len e1
    refine ⟨a, vs, u, rfl, .inr (SqT.of h1), e4, w.put (fun _ _ z => by cases z) fun S A ⟨a', vs', ea, h1', h2'⟩ nd hA al nt => ?_⟩
    cases ea
    rw [h1] at h1'
    cases h1'
    obtain ⟨u', e5, B, h3, hB⟩ := h2'.pick e2
    rw [e3] at e5
    cases e5
    refine ⟨B, (OwC.od h3).step (Kp.refl _ _) (fun c z => .inl (z.elim (·.1) fun z => hA c (hB c z))) nt fun _ _ => rfl, ?_, hB⟩
    cases c with
    | fz d => rw [h3.1]; exact List.nodup_nil
    | lst ds => obtain ⟨a, _, _, rfl, _⟩ := h3; simp
  | lsc xs =>
    obtain ⟨c, e1, rfl⟩ := Option.map_eq_some_iff.mp e
    obtain ⟨S, A, ⟨a, vs, B0, rfl, _, hn, h1, h2⟩, _⟩ := w.head
    obtain ⟨k, u, _, e2, e3, e4⟩ := atI_pair h2.len e1
    refine ⟨a, vs, u, rfl, .inl (SqL.of h1), e4, w.put (fun _ _ z => by cases z) fun S A ⟨a', vs', B1, ea, eA, _, h1', h2'⟩ nd hA al nt => ?_⟩
    cases ea
    rw [h1] at h1'
    cases h1'
    obtain ⟨u', e5, B, h3, hB⟩ := h2'.pick e2
    rw [e3] at e5
    cases e5
    refine ⟨B, (OwC.od h3).step (Kp.refl _ _) (fun c z => .inl (z.elim (·.1) fun z => hA c (by rw [eA]; exact List.mem_cons_of_mem _ (hB c z)))) nt fun _ _ => rfl, ?_, fun c hc => by rw [eA]; exact List.mem_cons_of_mem _ (hB c hc)⟩
    cases c with
    | fz d => rw [h3.1]; exact List.nodup_nil
    | lst ds => obtain ⟨a, _, _, rfl, _⟩ := h3; simp
  | tape p n => simp [L2.itemO] at e
  | dic kvs => simp [L2.itemO] at e
  | pin l xs ds => simp [L2.itemO] at e
/-- one of the parts is never changed again -/
theorem OwCs.frz1 {S : Addr → Prop} : ∀ {vs : List V} {xs : List CD} {A : List Addr} {k : Nat} {c : CD}, OwCs b S H vs xs A → xs[k]? = some c → A.Nodup →
    ∃ A' : List Addr, (∀ a ∈ A', a ∈ A) ∧ A'.Nodup ∧ ∀ S' : Addr → Prop, (∀ a, S' a → S a) → (∀ a ∈ A, a ∉ A' → ¬ S' a) → OwCs b S' H vs (xs.set k (.fz c.dat)) A'
  | _, _, _, 0, c, .cons (v := v) (x := x) (A := A) (B := B) r t, e, nd => by
    simp at e
    subst e
    obtain ⟨n1, n2, dj⟩ := List.nodup_append.mp nd
    refine ⟨B, fun a ha => List.mem_append_right _ ha, n2, fun S' hS h => ?_⟩
    exact .cons (A := []) ⟨rfl, r.frz hS fun a ha => h a (List.mem_append_left _ ha) fun z => dj a ha a z rfl⟩ (t.step (Kp.refl _ _) (fun c z => .inl (hS c z)) fun _ _ => rfl)
  | _, _, _, k + 1, c, .cons (v := v) (x := x) (A := A) (B := B) r t, e, nd => by
    obtain ⟨n1, n2, dj⟩ := List.nodup_append.mp nd
    obtain ⟨A', s', n', h'⟩ := OwCs.frz1 t (k := k) (c := c) (by simpa using e) n2
    refine ⟨A ++ A', fun a ha => (List.mem_append.mp ha).elim (List.mem_append_left _) fun z => List.mem_append_right _ (s' a z), List.nodup_append.mpr ⟨n1, n', fun a ha c hc => dj a ha c (s' c hc)⟩, fun S' hS h => ?_⟩
    exact .cons (r.step (Kp.refl _ _) (fun c z => .inl (hS c z)) fun _ _ => rfl) (h' S' hS fun a ha hn => h a (List.mem_append_right _ ha) fun z => (List.mem_append.mp z).elim (fun z => dj a z a ha rfl) hn)
theorem set_at {α : Type} {l : List α} {k : Nat} {x y : α} (h : l[k]? = some x) : (l.set k y)[k]? = some y := List.getElem?_set_self (List.getElem?_eq_some_iff.mp h).1
theorem Wd.itemS {i : Int} (w : Wd b H ((v, x) :: L)) (e : itemS x i = some (d, y)) : ∃ p vs u, v = .ref p ∧ (SqL b.K H p vs ∨ SqT b.K H p vs) ∧ atI vs i = some u ∧ Wd b H ((u, .fz d) :: (v, y) :: L) := by
  have fl : ∀ {ds : List PyData}, (x.dat = some (.list ds) ∨ x.dat = some (.tuple ds)) → (∀ xs, x ≠ .tup xs) → (∀ xs, x ≠ .lsc xs) → (atI ds i).map (fun d => (d, x)) = some (d, y) → ∃ p vs u, v = .ref p ∧ (SqL b.K H p vs ∨ SqT b.K H p vs) ∧ atI vs i = some u ∧ Wd b H ((u, .fz d) :: (v, y) :: L) := fun {ds} h1 n1 n2 h2 => by
    obtain ⟨d, e1, e0⟩ := Option.map_eq_some_iff.mp h2
    cases e0
    obtain ⟨a, vs, rfl, el, _, s1, s2, w2⟩ := w.item List.mem_cons_self h1
    obtain ⟨k, u, _, e2, e3, e4⟩ := atI_pair el e1
    refine ⟨a, vs, u, rfl, h1.imp (fun h => (s1 h).1) s2, e4, (w2 n1 n2).pick (zip_mem e3 ?_)⟩
    rw [List.getElem?_map, e2]; rfl
  cases x with
  | fz d =>
    cases d with
    | list ds => exact fl (.inl rfl) (fun _ z => by cases z) (fun _ z => by cases z) e
    | tuple ds => exact fl (.inr rfl) (fun _ z => by cases z) (fun _ z => by cases z) e
    | _ => simp [L2.itemS] at e
  | lst ds => exact fl (.inl rfl) (fun _ z => by cases z) (fun _ z => by cases z) e
  | tup xs =>
    simp only [L2.itemS, Option.bind_eq_some_iff, Option.map_eq_some_iff] at e
    obtain ⟨k, e1, c, e2, e3⟩ := e
    cases e3
    obtain ⟨S, A, ⟨a, vs, rfl, h1, h2⟩, _⟩ := w.head
    have hk : k < vs.length := by rw [h2.len]; exact ixN_lt e1
    have w2 : Wd b H ((V.ref a, OD.tup (xs.set k (.fz c.dat))) :: L) := w.put (fun _ _ z => by cases z) fun S A ⟨a', vs', ea, h1', h2'⟩ nd hA al nt => by
      obtain ⟨A', s', n', h'⟩ := h2'.frz1 e2 nd
      exact ⟨A', ⟨a', vs', ea, h1', h' _ (fun c z => z.elim (·.1) fun z => hA c (s' c z)) fun c hc hn z => z.elim (fun z => z.2 hc) hn⟩, n', s'⟩
    refine ⟨a, vs, vs[k], rfl, .inr (SqT.of h1), by unfold atI; rw [h2.len, e1]; exact List.getElem?_eq_getElem hk, w2.add fun S h _ _ => ?_⟩
    obtain ⟨A, a', vs', ea, h1', h2'⟩ := h (V.ref a, _) List.mem_cons_self
    cases ea
    rw [h1] at h1'
    cases h1'
    obtain ⟨u, eu, B, h3, _⟩ := h2'.pick (set_at e2)
    rw [List.getElem?_eq_getElem hk] at eu
    cases eu
    exact h3.2
  | lsc xs =>
    simp only [L2.itemS, Option.bind_eq_some_iff, Option.map_eq_some_iff] at e
    obtain ⟨k, e1, c, e2, e3⟩ := e
    cases e3
    obtain ⟨S, A, ⟨a, vs, B0, rfl, _, hn, h1, h2⟩, _⟩ := w.head
    have hk : k < vs.length := by rw [h2.len]; exact ixN_lt e1
    have w2 : Wd b H ((V.ref a, OD.lsc (xs.set k (.fz c.dat))) :: L) := w.put (fun _ _ z => by cases z) fun S A ⟨a', vs', B1, ea, eA, hn', h1', h2'⟩ nd hA al nt => by
      subst eA
      obtain ⟨na, nB⟩ := List.nodup_cons.mp nd
      obtain ⟨A', s', n', h'⟩ := h2'.frz1 e2 nB
      refine ⟨a' :: A', ⟨a', vs', A', ea, rfl, hn', h1', h' _ (fun c z => z.elim (·.1) fun z => hA c ?_) fun c hc hm z => z.elim (fun z => z.2 (by simp [hc])) fun z => ?_⟩, List.nodup_cons.mpr ⟨fun z => na (s' _ z), n'⟩, fun c hc => ?_⟩
      · exact (List.mem_cons.mp z).elim (fun e => by simp [e]) fun z => by simp [s' c z]
      · exact (List.mem_cons.mp z).elim (fun e => na (e ▸ hc)) hm
      · exact (List.mem_cons.mp hc).elim (fun e => by simp [e]) fun z => by simp [s' c z]
    refine ⟨a, vs, vs[k], rfl, .inl (SqL.of h1), by unfold atI; rw [h2.len, e1]; exact List.getElem?_eq_getElem hk, w2.add fun S h _ _ => ?_⟩
    obtain ⟨A, a', vs', B1, ea, eA, hn', h1', h2'⟩ := h (V.ref a, _) List.mem_cons_self
    cases ea
    rw [h1] at h1'
    cases h1'
    obtain ⟨u, eu, B, h3, _⟩ := h2'.pick (set_at e2)
    rw [List.getElem?_eq_getElem hk] at eu
    cases eu
    exact h3.2
  | tape p n => simp [L2.itemS] at e
  | dic kvs => simp [L2.itemS] at e
  | pin l xs ds => simp [L2.itemS] at e
end
section
variable {X : Cx} {K : PySem.W.Frag} {a b c e : Expr} {es : List Expr} {da db dc : DE} {dt : DA} {pos : Pos} {x : Str}
def dIx (a b : DE) : DE := fun ρ Q => a ρ fun x ρ1 => b ρ1 fun y ρ2 => ∃ i z ρ3, datR ρ2 y = some (.int i) ∧ itemR ρ2 x i = some (z, ρ3) ∧ Q (.val z) ρ3
theorem pd_ix (hs : PlainIx b) : PDe X a da → PDe X b db → PDe X (.Subscript a b pos) (dIx da db)
  | ⟨_, h1, s1⟩, ⟨_, h2, s2⟩ => ⟨_, pe_ix ix_seq h1 h2 hs, fun b F σ H ρ τ θ Qd Q hK R h q => s1 b F σ H ρ τ θ _ _ hK R h fun v H1 x ρ1 R1 h1 => s2 b F σ H1 ρ1 _ _ _ _ hK R1 h1 fun u H2 y ρ2 R2 ⟨i, z, ρ3, e1, e2, h2⟩ => by
    have hu := R2.dt e1
    cases hu
    have R3 := R2.drop
    cases x with
    | val x =>
      simp only [itemR, Option.map_eq_some_iff] at e2
      obtain ⟨z', e3, e4⟩ := e2
      cases e4
      obtain ⟨p, vs, u, rfl, hs, hi, w⟩ := Wd.itemO R3.wd e3
      have q' := q u H2 _ _ (R3.drop.push w) h2
      rw [hK] at hs
      exact hs.elim (fun hs => .inl ⟨p, vs, i, u, rfl, rfl, hs, hi, q'⟩) fun hs => .inr (.inl ⟨p, vs, i, u, rfl, rfl, hs, hi, q'⟩)
    | rf j =>
      simp only [itemR, Option.bind_eq_some_iff, Option.map_eq_some_iff] at e2
      obtain ⟨x, e3, ⟨d, x'⟩, e4, e5⟩ := e2
      cases e5
      obtain ⟨v', ev, w⟩ := R3.drop.slot (join_some e3)
      have : v = v' := by have := R3.al.1; rw [ev] at this; cases this; rfl
      subst this
      obtain ⟨p, vs, u, rfl, hs, hi, w2⟩ := Wd.itemS w e4
      have R4 : Rel b F σ H2 (ρ2.set j (some x')) (u :: τ) (.val (.fz d) :: θ) := Rel.back (τ := u :: τ) (θ := .val (.fz d) :: θ) R3.wf R3.drop.al R3.wff ev (w2.perm (List.Perm.swap _ _ _))
      have q' := q u H2 _ _ R4 h2
      rw [hK] at hs
      exact hs.elim (fun hs => .inl ⟨p, vs, i, u, rfl, rfl, hs, hi, q'⟩) fun hs => .inr (.inl ⟨p, vs, i, u, rfl, rfl, hs, hi, q'⟩)⟩
/-! ### calls -/
def Mono (sp : DSp) : Prop := ∀ t ds (P R : OD → Int → Prop), (∀ x n, P x n → R x n) → sp t ds P → sp t ds R
structure FnD (P : Program) (w : World) (K : PySem.W.Frag) (mg : Str → Option Value) (base : Heap) (k : Nat) (f : Addr) (fd : FuncData) (ps : List Str) (sp : DSp) : Prop where
  ok : FnOk P w K mg base CX0 k f fd ps (toSp K sp)
  mono : Mono sp
def dCall (sp : DSp) (t : DA) : DE := fun ρ Q => t ρ fun rs ρ1 => ∃ ds ρ2, frzL ρ1 rs = some (ds, ρ2) ∧ sp none ds fun x _ => Q (.val x) ρ2
variable {k : Nat} {f : Addr} {fd : FuncData} {ps : List Str} {sp : DSp} {p : Pos}
theorem pd_call (G : FnD X.prog X.w X.K X.mg X.base k f fd ps sp) (hr : Room k X.A) (hg : Gl X x) (hm : X.mg x = some (.ref f)) (hk : PySem.W.keepIn X.K (.ref f) = true) (hb : Binds X.K fd ps []) (hdb : (x == ("__debug__" : Str)) = false := by decide)
    (he : starEach (e :: es) X.env = (false, eval e X.env) :: starEach es X.env := by rfl) (hpl : (backTo pos (starEach es X.env)).any (·.1) = false := by rfl) : PDa X (e :: es) dt → PDe X (.Call (.Name x p) (e :: es) [] pos) (dCall sp dt)
  | ⟨_, h1, s1⟩ => ⟨_, pe_call (E := E0) G.ok hr hg hm hk hb .nil pass0 h1 hdb he hpl, fun b F σ H ρ τ θ Qd Q hK R h q => s1 b F σ H ρ τ θ _ _ hK R h fun vs H1 rs ρ1 el R1 ⟨ds, ρ2, e1, h1⟩ => by
    obtain ⟨R2, e2⟩ := frzA_ok R1 el e1
    have e3 : ds.map (fun d => OR.val (.fz d)) = (ds.map OD.fz).map OR.val := by simp
    rw [e3] at R2
    have w := R2.vals (by simpa using e2)
    have R3 := R2.drops (by simpa using e2)
    rw [List.append_nil, ← hK]
    refine w.call (fun S hS => hS.all e2 fun z hz => List.mem_append_left _ hz) (G.mono _ _ _ _ (fun x n hx v H' w' => q v H' _ _ (R3.push (Wd.below w')) hx) h1) G.mono⟩
/-- with the tape that stands in slot j -/
def dCallT (sp : DSp) (j : Nat) (t : DA) : DE := fun ρ Q => (ρ[j]?.join).isSome = true ∧ t ρ fun rs ρ1 => ∃ ds ρ2 p n, frzL ρ1 rs = some (ds, ρ2) ∧ ρ2[j]?.join = some (.tape p n) ∧ sp (some n) ds fun x m => Q (.val x) (ρ2.set j (some (.tape p m)))
theorem pd_callT {j : Nat} {y : Str} {py : Pos} (hN : X.N[j]? = some y) (hv : Vis X.env.scope y) (G : FnD X.prog X.w X.K X.mg X.base k f fd ps sp) (hr : Room k X.A) (hg : Gl X x) (hm : X.mg x = some (.ref f)) (hk : PySem.W.keepIn X.K (.ref f) = true) (hb : Binds X.K fd ps []) (hdb : (x == ("__debug__" : Str)) = false := by decide)
    (hd : (y == ("__debug__" : Str)) = false := by decide) (hcd : (y == ("__classdict__" : Str)) = false := by decide)
    (he : starEach (.Name y py :: es) X.env = (false, eval (.Name y py) X.env) :: starEach es X.env := by rfl) (hpl : (backTo pos (starEach es X.env)).any (·.1) = false := by rfl) : PDa X es dt → PDe X (.Call (.Name x p) (.Name y py :: es) [] pos) (dCallT sp j dt)
  | ⟨_, h1, s1⟩ => ⟨_, pe_call (E := E0) G.ok hr hg hm hk hb .nil pass0 (pa_cons (pe_var hN hv hd hcd) h1 he) hdb he hpl, fun b F σ H ρ τ θ Qd Q hK R ⟨h0, h⟩ q => by
    obtain ⟨x0, hx0⟩ := Option.isSome_iff_exists.mp h0
    obtain ⟨v, ev⟩ := R.wf.get (join_some hx0)
    refine ⟨v, ev, s1 b F σ H ρ τ θ _ _ hK R h fun vs H1 rs ρ1 el R1 ⟨ds, ρ2, p, n, e1, et, h1⟩ => ?_⟩
    obtain ⟨R2, e2⟩ := frzA_ok R1 el e1
    have e3 : ds.map (fun d => OR.val (.fz d)) = (ds.map OD.fz).map OR.val := by simp
    rw [e3] at R2
    obtain ⟨v', ev', w⟩ := R2.slot (join_some et)
    rw [ev] at ev'
    cases ev'
    have R3 := R2.drops (by simpa using e2)
    have es : stk (vs ++ τ) ((ds.map OD.fz).map OR.val ++ θ) = vs.zip (ds.map OD.fz) ++ stk τ θ := by rw [stk_app (by simpa using e2), stk_vals (by simpa using e2)]
    rw [es, List.append_assoc] at w
    rw [List.append_nil, ← hK]
    refine w.callT (fun S hS => hS.all e2 fun z hz => List.mem_append_left _ hz) (G.mono _ _ _ _ (fun x m hx u H' w' => q u H' _ _ ?_ hx) h1) G.mono
    have w2 : Wd b H' ((v, OD.tape p m) :: ((u, x) :: stk τ θ ++ (flat σ (ρ2.set j none) ++ ff F))) := by
      refine Wd.drops (L1 := vs.zip (ds.map OD.fz)) (w'.perm ?_)
      refine (List.Perm.swap _ _ _).trans ?_
      have p1 : (((u, x) :: (vs.zip (ds.map OD.fz) ++ (stk τ θ ++ (flat σ (ρ2.set j none) ++ ff F)))) : List (V × OD)).Perm (vs.zip (ds.map OD.fz) ++ ((u, x) :: (stk τ θ ++ (flat σ (ρ2.set j none) ++ ff F)))) := List.perm_middle.symm
      exact (p1.cons _).trans List.perm_middle.symm
    exact Rel.back (τ := u :: τ) (θ := .val x :: θ) R3.wf R3.al R3.wff ev w2⟩
/-- what is borrowed; a scalar comes -/
def scD : PyData → Bool
  | .none => true | .bool _ => true | .int _ => true | .str _ => true
  | _ => false
def datL (ρ : DEnv) : List OR → Option (List PyData)
  | [] => some []
  | r :: rs => (datR ρ r).bind fun d => (datL ρ rs).map (d :: ·)
theorem Rel.dtL {b : Bs} {F : List Fr} {σ : St} {H : Hp} {ρ : DEnv} : ∀ {vs : List V} {rs : List OR} {τ : List V} {θ : List OR} {ds : List PyData}, Rel b F σ H ρ (vs ++ τ) (rs ++ θ) → vs.length = rs.length → datL ρ rs = some ds → DtAll b.K H vs ds
  | [], [], _, _, _, _, _, e => by simp only [datL] at e; cases e; exact .nil
  | v :: vs, r :: rs, τ, θ, ds, R, el, e => by
    simp only [datL, Option.bind_eq_some_iff, Option.map_eq_some_iff] at e
    obtain ⟨d, e1, ds', e2, rfl⟩ := e
    exact .cons (Rel.dt R e1) (Rel.dtL (Rel.drop R) (by simpa using el) e2)
  | [], _ :: _, _, _, _, _, e, _ => by simp at e
  | _ :: _, [], _, _, _, _, e, _ => by simp at e
def dCallB (sp : DSp) (t : DA) : DE := fun ρ Q => t ρ fun rs ρ1 => ∃ ds, datL ρ1 rs = some ds ∧ sp none ds fun x _ => ∃ d, x = .fz d ∧ scD d = true ∧ Q (.val (.fz d)) ρ1
theorem Fz.sc {S : Addr → Prop} {H : Hp} {v : V} {d : PyData} (h : Fz K S H v d) (hs : scD d = true) : Sc v d := by cases h <;> first | constructor | simp [scD] at hs
theorem Wd.callB {b : Bs} {H : Hp} {L : List (V × OD)} {ds : List PyData} (w : Wd b H L) {sp : DSp} {us : List V} {Q : VK} {E : XK} (hu : DtAll b.K H us ds) (h : sp none ds fun x _ => ∃ d, x = .fz d ∧ scD d = true ∧ ∀ v H', Sc v d → Wd b H' L → Q v H') (mono : Mono sp) : toSp b.K sp us H Q E := by
  refine ⟨fun _ => False, none, us, ds, rfl, fun a z => z.elim, fun _ _ _ z => z, FzA.of0 hu, fun _ _ e => (by cases e), mono _ _ _ _ (fun x n hQ v H' B kp _ hO nB hB => ?_) h⟩
  obtain ⟨d, rfl, hs, hQ⟩ := hQ
  have same : ∀ a, H a ≠ none → H' a = H a := fun a ha => by
    cases e : H a with
    | none => exact absurd e ha
    | some o => exact kp.k a o e fun ⟨n, e⟩ => by cases e
  refine hQ v H' (hO.2.sc hs) ?_
  obtain ⟨A, h0, nd, new⟩ := w.out
  refine ⟨⟨A, h0.step (kp.weak fun c ⟨n, e⟩ => by cases e) (fun c z => .inl z) (w.nt' h0) fun a ha => same a (h0.ne a ha), nd, new⟩, w.fr.trans (kp.weak fun c ⟨n, e⟩ => by cases e), w.s0, w.c0, fun a xs e z => ?_⟩
  rw [same a fun e => w.s0 a z (w.fr.n a e)] at e
  exact w.nt a xs e z
theorem pd_callB (G : FnD X.prog X.w X.K X.mg X.base k f fd ps sp) (hr : Room k X.A) (hg : Gl X x) (hm : X.mg x = some (.ref f)) (hk : PySem.W.keepIn X.K (.ref f) = true) (hb : Binds X.K fd ps []) (hdb : (x == ("__debug__" : Str)) = false := by decide)
    (he : starEach (e :: es) X.env = (false, eval e X.env) :: starEach es X.env := by rfl) (hpl : (backTo pos (starEach es X.env)).any (·.1) = false := by rfl) : PDa X (e :: es) dt → PDe X (.Call (.Name x p) (e :: es) [] pos) (dCallB sp dt)
  | ⟨_, h1, s1⟩ => ⟨_, pe_call (E := E0) G.ok hr hg hm hk hb .nil pass0 h1 hdb he hpl, fun b F σ H ρ τ θ Qd Q hK R h q => s1 b F σ H ρ τ θ _ _ hK R h fun vs H1 rs ρ1 el R1 ⟨ds, e1, h1⟩ => by
    have R3 := R1.drops el
    rw [List.append_nil, ← hK]
    exact R3.wd.callB (R1.dtL el e1) (G.mono _ _ _ _ (fun x n ⟨d, e, hs, hx⟩ => ⟨d, e, hs, fun v H' sc w' => q v H' _ _ ((R3.push (v := v) (x := .fz d) (w'.sc sc))) hx⟩) h1) G.mono⟩
/-! ### builtins -/
def SndCB (K : PySem.W.Frag) (r2 : List V → Hp → VK → Prop) (r : DRn) : Prop := ∀ (H : Hp) (vs : List V) (ds : List PyData) (Qd : PyData → Prop) (Q : VK), DtAll K H vs ds → r ds Qd → (∀ w d, Sc w d → Qd d → Q w H) → r2 vs H Q
def dCB (r : DRn) (t : DA) : DE := fun ρ Q => t ρ fun rs ρ1 => ∃ ds, datL ρ1 rs = some ds ∧ r ds fun d => Q (.val (.fz d)) ρ1
theorem snd_cb {r2 : List V → Hp → VK → Prop} {r : DRn} {ta : TA} (hr : SndCB K r2 r) (s1 : SndA K ta dt) : SndE K (tCB r2 ta) (dCB r dt) := fun b F σ H ρ τ θ Qd Q hK R h q => s1 b F σ H ρ τ θ _ _ hK R h fun vs H1 rs ρ1 el R1 ⟨ds, e1, h1⟩ =>
  hr H1 vs ds _ _ (hK ▸ R1.dtL el e1) h1 fun w d sc hd => q w H1 _ _ ((R1.drops el).sc sc) hd
theorem pd_callb {r2 : List V → Hp → VK → Prop} {r : DRn} {id : String} (hc : CallR X (.builtin id) r2) (hr : SndCB X.K r2 r) (hg : Gl X x) (hm : X.mg x = none) (hv : bootBuiltins x = some (.builtin id)) (hn : x ≠ "__name__" := by decide) (hdb : (x == ("__debug__" : Str)) = false := by decide)
    (he : starEach (e :: es) X.env = (false, eval e X.env) :: starEach es X.env := by rfl) (hpl : (backTo pos (starEach es X.env)).any (·.1) = false := by rfl) : PDa X (e :: es) dt → PDe X (.Call (.Name x p) (e :: es) [] pos) (dCB r dt)
  | ⟨_, h1, s1⟩ => ⟨_, pe_callB hc hg hm hv h1 hn hdb he hpl, snd_cb hr s1⟩
theorem pd_callt {r2 : List V → Hp → VK → Prop} {r : DRn} {id : String} (hc : CallR X (.type id) r2) (hr : SndCB X.K r2 r) (hg : Gl X x) (hm : X.mg x = none) (hv : bootBuiltins x = some (.type id)) (hn : x ≠ "__name__" := by decide) (hdb : (x == ("__debug__" : Str)) = false := by decide)
    (he : starEach (e :: es) X.env = (false, eval e X.env) :: starEach es X.env := by rfl) (hpl : (backTo pos (starEach es X.env)).any (·.1) = false := by rfl) : PDa X (e :: es) dt → PDe X (.Call (.Name x p) (e :: es) [] pos) (dCB r dt)
  | ⟨_, h1, s1⟩ => ⟨_, pe_callTy hc hg hm hv h1 hn hdb he hpl, snd_cb hr s1⟩
def lenD : PyData → Option Nat
  | .list ds => some ds.length
  | .tuple ds => some ds.length
  | _ => none
def dLen : DRn := fun ds Q => ∃ d n, ds = [d] ∧ lenD d = some n ∧ Q (.int n)
theorem sc_len : SndCB K (fun xs H Q => ∃ x n, xs = [x] ∧ LenV K x H n ∧ Q (.int n) H) dLen := by
  rintro H vs ds Qd Q hv ⟨d, n, rfl, e, hq⟩ q
  cases hv with
  | cons h t =>
    cases t
    refine ⟨_, n, rfl, ?_, q _ _ (.int _) hq⟩
    cases h with
    | lst s t => simp only [lenD] at e; cases e; exact .inl ⟨_, s, t.length.symm⟩
    | tup s t => simp only [lenD] at e; cases e; exact .inr ⟨_, s, t.length.symm⟩
    | _ => simp [lenD] at e
def dAbs : DRn := fun ds Q => ∃ i, ds = [.int i] ∧ Q (.int (if i < 0 then -i else i))
theorem sc_abs : SndCB K (fun xs H Q => ∃ i, xs = [.int i] ∧ Q (.int (if i < 0 then -i else i)) H) dAbs := by
  rintro H vs ds Qd Q hv ⟨i, rfl, hq⟩ q
  cases hv with | cons h t => cases t; cases h; exact ⟨i, rfl, q _ _ (.int _) hq⟩
def dMax : DRn := fun ds Q => ∃ i j, ds = [.int i, .int j] ∧ Q (.int (if j > i then j else i))
theorem sc_max : SndCB K (fun xs H Q => ∃ i j, xs = [.int i, .int j] ∧ Q (.int (if j > i then j else i)) H) dMax := by
  rintro H vs ds Qd Q hv ⟨i, j, rfl, hq⟩ q
  cases hv with | cons h t => cases t with | cons h' t => cases t; cases h; cases h'; exact ⟨i, j, rfl, q _ _ (.int _) hq⟩
def dMin : DRn := fun ds Q => ∃ i j, ds = [.int i, .int j] ∧ Q (.int (if j < i then j else i))
theorem sc_min : SndCB K (fun xs H Q => ∃ i j, xs = [.int i, .int j] ∧ Q (.int (if j < i then j else i)) H) dMin := by
  rintro H vs ds Qd Q hv ⟨i, j, rfl, hq⟩ q
  cases hv with | cons h t => cases t with | cons h' t => cases t; cases h; cases h'; exact ⟨i, j, rfl, q _ _ (.int _) hq⟩
def toInt : PyData → Option Int
  | .int i => some i
  | .bool k => some (if k then 1 else 0)
  | _ => none
def dInt : DRn := fun ds Q => ∃ d i, ds = [d] ∧ toInt d = some i ∧ Q (.int i)
theorem sc_int : SndCB K (fun xs H Q => (∃ i, xs = [.int i] ∧ Q (.int i) H) ∨ ∃ k, xs = [.bl k] ∧ Q (.int (if k then 1 else 0)) H) dInt := by
  rintro H vs ds Qd Q hv ⟨d, i, rfl, e, hq⟩ q
  cases hv with
  | cons h t =>
    cases t
    cases h with
    | int j => simp only [toInt] at e; cases e; exact .inl ⟨_, rfl, q _ _ (.int _) hq⟩
    | bl k => simp only [toInt] at e; cases e; exact .inr ⟨_, rfl, q _ _ (.int _) hq⟩
    | _ => simp [toInt] at e
def allB : List PyData → Option (List Bool)
  | [] => some []
  | .bool k :: ds => (allB ds).map (k :: ·)
  | _ :: _ => none
theorem allB_map : ∀ {ds : List PyData} {bs : List Bool}, allB ds = some bs → ds = bs.map PyData.bool
  | [], _, e => by simp only [allB] at e; cases e; rfl
  | .bool k :: ds, _, e => by
    simp only [allB, Option.map_eq_some_iff] at e
    obtain ⟨bs, e1, rfl⟩ := e
    rw [allB_map e1]; rfl
  | .none :: _, _, e => by simp [allB] at e
  | .int _ :: _, _, e => by simp [allB] at e
  | .str _ :: _, _, e => by simp [allB] at e
  | .list _ :: _, _, e => by simp [allB] at e
  | .tuple _ :: _, _, e => by simp [allB] at e
  | .dict _ :: _, _, e => by simp [allB] at e
theorem DtAll.bls {H : Hp} : ∀ {vs : List V} {bs : List Bool}, DtAll K H vs (bs.map PyData.bool) → vs = bs.map V.bl
  | _, [], .nil => rfl
  | _, _ :: _, .cons (.bl _) t => by rw [List.map_cons, DtAll.bls t]
end
end L2
namespace L2
open PySem PySem.Spec PyProof.Rows
def seqOf (x : OD) : Option (List PyData) := match listOf x with
  | some ds => some ds
  | none => tupOf x
section
variable {b : Bs} {F : List Fr} {σ : St} {H H' : Hp} {ρ ρ' : DEnv} {τ vs : List V} {θ rs : List OR} {v u : V} {r r' : OR} {x y : OD} {d : PyData} {ds : List PyData} {i : Nat} {L : List (V × OD)} {p : Addr}
theorem Rel.mem (R : Rel b F σ H ρ (v :: τ) (r :: θ)) (e : contR ρ r = some x) : (v, x) ∈ stk (v :: τ) (r :: θ) ++ (flat σ ρ ++ ff F) := by
  cases r with
  | val y => simp only [contR] at e; cases e; simp [stk]
  | rf i =>
    simp only [contR] at e
    refine List.mem_append_right _ (List.mem_append_left _ ?_)
    exact (flat_pick (join_some e) R.al.1).mem_iff.mpr List.mem_cons_self
theorem Rel.mem1 (R : Rel b F σ H ρ (u :: v :: τ) (r' :: r :: θ)) (e : contR ρ r = some x) : (v, x) ∈ stk (u :: v :: τ) (r' :: r :: θ) ++ (flat σ ρ ++ ff F) := by
  have h := R.drop.mem e
  cases r' with
  | val y => simp only [stk]; exact List.mem_cons_of_mem _ h
  | rf i => exact h
theorem Rel.drop2 (R : Rel b F σ H ρ (u :: v :: τ) (r' :: r :: θ)) : Rel b F σ H ρ (u :: τ) (r' :: θ) := (Rel.rot (vs := [u]) (rs := [r']) R rfl).drop
theorem listOf_dat (h : listOf x = some ds) : x.dat = some (.list ds) ∧ (∀ xs, x ≠ .tup xs) ∧ ∀ xs, x ≠ .lsc xs := by
  cases x with
  | fz d => cases d <;> simp only [listOf] at h <;> cases h; exact ⟨rfl, fun _ z => (by cases z), fun _ z => by cases z⟩
  | lst z => cases h; exact ⟨rfl, fun _ z => (by cases z), fun _ z => by cases z⟩
  | _ => simp [listOf] at h
theorem tupOf_dat (h : tupOf x = some ds) : x.dat = some (.tuple ds) ∧ (∀ xs, x ≠ .tup xs) ∧ ∀ xs, x ≠ .lsc xs := by
  cases x with
  | fz d => cases d <;> simp only [tupOf] at h <;> cases h; exact ⟨rfl, fun _ z => (by cases z), fun _ z => by cases z⟩
  | _ => simp [tupOf] at h
theorem Wd.lsItems (w : Wd b H L) (m : (v, x) ∈ L) (e : listOf x = some ds) : ∃ a vs, v = .ref a ∧ vs.length = ds.length ∧ SqL b.K H a vs ∧ Wd b H (vs.zip (ds.map OD.fz) ++ L) := by
  obtain ⟨e1, n1, n2⟩ := listOf_dat e
  obtain ⟨a, vs, rfl, el, _, s1, _, w2⟩ := w.item m (.inl e1)
  exact ⟨a, vs, rfl, el, (s1 e1).1, w2 n1 n2⟩
theorem Wd.tpItems (w : Wd b H L) (m : (v, x) ∈ L) (e : tupOf x = some ds) : ∃ a vs, v = .ref a ∧ vs.length = ds.length ∧ SqT b.K H a vs ∧ Wd b H (vs.zip (ds.map OD.fz) ++ L) := by
  obtain ⟨e1, n1, n2⟩ := tupOf_dat e
  obtain ⟨a, vs, rfl, el, _, _, s2, w2⟩ := w.item m (.inr e1)
  exact ⟨a, vs, rfl, el, s2 e1, w2 n1 n2⟩
theorem Wd.sqItems (w : Wd b H L) (m : (v, x) ∈ L) (e : seqOf x = some ds) : ∃ a vs, v = .ref a ∧ vs.length = ds.length ∧ (SqL b.K H a vs ∨ SqT b.K H a vs) ∧ Wd b H (vs.zip (ds.map OD.fz) ++ L) := by
  unfold seqOf at e
  cases h : listOf x with
  | some z => rw [h] at e; cases e; obtain ⟨a, vs, h1, h2, h3, h4⟩ := w.lsItems m h; exact ⟨a, vs, h1, h2, .inl h3, h4⟩
  | none => rw [h] at e; obtain ⟨a, vs, h1, h2, h3, h4⟩ := w.tpItems m e; exact ⟨a, vs, h1, h2, .inr h3, h4⟩
/-- a new list of items at hand -/
theorem Rel.newLst (R : Rel b F σ H ρ τ θ) {Z : List (V × OD)} (w : Wd b H (Z ++ (stk τ θ ++ (flat σ ρ ++ ff F)))) (el : vs.length = ds.length) (m : ∀ z ∈ vs.zip (ds.map OD.fz), z ∈ Z ++ (stk τ θ ++ (flat σ ρ ++ ff F))) (hp : H p = none) :
    Rel b F σ (upd H p (.lst vs)) ρ (.ref p :: τ) (.val (.lst ds) :: θ) := R.push (Wd.below (w.newLst (fun S hS => hS.all el m) hp))
theorem Rel.newTup (R : Rel b F σ H ρ τ θ) {Z : List (V × OD)} (w : Wd b H (Z ++ (stk τ θ ++ (flat σ ρ ++ ff F)))) (el : vs.length = ds.length) (m : ∀ z ∈ vs.zip (ds.map OD.fz), z ∈ Z ++ (stk τ θ ++ (flat σ ρ ++ ff F))) (hp : H p = none) :
    Rel b F σ (upd H p (.tup vs)) ρ (.ref p :: τ) (.val (.fz (.tuple ds)) :: θ) := R.push (Wd.below (w.newTup (fun S hS => hS.all el m) hp))
end
section
variable {X : Cx} {K : PySem.W.Frag} {a b c e : Expr} {es : List Expr} {da db dc : DE} {dt : DA} {pos p : Pos} {x : Str}
def dListOf (t : DA) : DE := fun ρ Q => t ρ fun rs ρ1 => ∃ r ds, rs = [r] ∧ (contR ρ1 r).bind seqOf = some ds ∧ Q (.val (.lst ds)) ρ1
theorem pd_listOf (hg : Gl X x) (hm : X.mg x = none) (hv : bootBuiltins x = some (.type "list")) (hn : x ≠ "__name__" := by decide) (hdb : (x == ("__debug__" : Str)) = false := by decide)
    (he : starEach (e :: es) X.env = (false, eval e X.env) :: starEach es X.env := by rfl) (hpl : (backTo pos (starEach es X.env)).any (·.1) = false := by rfl) : PDa X (e :: es) dt → PDe X (.Call (.Name x p) (e :: es) [] pos) (dListOf dt)
  | ⟨_, h1, s1⟩ => ⟨_, pe_callTy call_list_of hg hm hv h1 hn hdb he hpl, fun b F σ H ρ τ θ Qd Q hK R h q => s1 b F σ H ρ τ θ _ _ hK R h fun vs H1 rs ρ1 el R1 ⟨r, ds, e1, e2, h1⟩ => by
    subst e1
    obtain ⟨z, e3, e4⟩ := Option.bind_eq_some_iff.mp e2
    match vs, el with
    | [v], _ =>
      obtain ⟨a, us, rfl, el, hs, w⟩ := R1.wd.sqItems (R1.mem e3) e4
      rw [hK] at hs
      exact ⟨a, us, rfl, hs, fun l hl => q _ _ _ _ (Rel.drop2 (R1.newLst w el (fun z hz => List.mem_append_left _ hz) hl)) h1⟩⟩
def dCat (a b : DE) : DE := fun ρ Q => a ρ fun x ρ1 => b ρ1 fun y ρ2 => ∃ ds es, lsR ρ2 x = some ds ∧ lsR ρ2 y = some es ∧ ds.length + es.length ≤ 1000000 ∧ Q (.val (.lst (ds ++ es))) ρ2
theorem zip_app {α β : Type} {xs xs' : List α} {ys ys' : List β} (h : xs.length = ys.length) : (xs ++ xs').zip (ys ++ ys') = xs.zip ys ++ xs'.zip ys' := List.zip_append h
theorem pd_cat : PDe X a da → PDe X b db → PDe X (.BinOp a .Add b pos) (dCat da db)
  | ⟨_, h1, s1⟩, ⟨_, h2, s2⟩ => ⟨_, pe_op op_catS h1 h2, fun b F σ H ρ τ θ Qd Q hK R h q => s1 b F σ H ρ τ θ _ _ hK R h fun v H1 x ρ1 R1 h1 => s2 b F σ H1 ρ1 _ _ _ _ hK R1 h1 fun u H2 y ρ2 R2 ⟨ds, es, e1, e2, hz, h2⟩ => by
    obtain ⟨x', e3, e4⟩ := Option.bind_eq_some_iff.mp e1
    obtain ⟨y', e5, e6⟩ := Option.bind_eq_some_iff.mp e2
    obtain ⟨a, us, rfl, el, hs, w⟩ := R2.wd.lsItems (R2.mem1 e3) e4
    obtain ⟨c, ws, rfl, el', hs', w'⟩ := w.lsItems (List.mem_append_right _ (R2.mem e5)) e6
    rw [← List.append_assoc] at w'
    rw [hK] at hs hs'
    refine ⟨a, c, us, ws, rfl, rfl, hs, hs', small2 (by omega), fun l hl => q _ _ _ _ (Rel.drop2 (Rel.drop2 (R2.newLst w' (by simp [el, el']) (fun z hz => ?_) hl))) h2⟩
    rw [List.map_append, zip_app (by simpa using el)] at hz
    refine List.mem_append_left _ ?_
    rcases List.mem_append.mp hz with hz | hz
    · exact List.mem_append_right _ hz
    · exact List.mem_append_left _ hz⟩
/-! slices -/
variable {lo hi : Option Expr} {dl dh : DO} {p2 : Pos}
end
end L2
namespace L2
open PySem PySem.Spec PyProof.Rows
/-! ### statements over data -/
structure DEnds where
  nx : DEnv → Prop
  rt : OD → DEnv → Prop
  bk : DEnv → Prop := fun _ => False
  ct : DEnv → Prop := fun _ => False
abbrev DS := DEnds → DEnv → Prop
def NoRf (θ : List OR) : Prop := ∀ r ∈ θ, ∃ x, r = .val x
structure EndsOk (b : Bs) (F : List Fr) (τ : List V) (θ : List OR) (Dd : DEnds) (D : Ends) : Prop where
  nx : ∀ σ H ρ, Rel b F σ H ρ τ θ → Dd.nx ρ → D.nx σ H
  bk : ∀ σ H ρ, Rel b F σ H ρ τ θ → Dd.bk ρ → D.bk σ H
  ct : ∀ σ H ρ, Rel b F σ H ρ τ θ → Dd.ct ρ → D.ct σ H
  rt : ∀ σ H ρ v x, Rel b F σ H ρ (v :: τ) (.val x :: θ) → Dd.rt x ρ → D.rt v H
def SndS (K : PySem.W.Frag) (ts : TS) (ds : DS) : Prop := ∀ (b : Bs) (F : List Fr) (σ : St) (H : Hp) (ρ : DEnv) (τ : List V) (θ : List OR) (Dd : DEnds) (D : Ends), b.K = K → NoRf θ → Rel b F σ H ρ τ θ → ds Dd ρ → EndsOk b F τ θ Dd D → ts D σ H
inductive PDs (X : Cx) (e : Stmt) (de : DS) : Prop | mk (te : TS) (h : PS X e te) (s : SndS X.K te de)
inductive PDss (X : Cx) (e : List Stmt) (de : DS) : Prop | mk (te : TS) (h : PSs X e te) (s : SndS X.K te de)
section
variable {b : Bs} {F : List Fr} {σ σ' : St} {H H' : Hp} {ρ ρ' : DEnv} {τ vs : List V} {θ rs : List OR} {v u : V} {r r' : OR} {x y : OD} {d : PyData} {ds : List PyData} {i : Nat} {L : List (V × OD)}
theorem NoRf.al (n : NoRf θ) : ∀ {τ : List V}, Al σ τ θ → Al σ' τ θ := by
  induction θ with
  | nil => intro τ h; cases τ with
    | nil => trivial
    | cons _ _ => exact h
  | cons r θ ih =>
    intro τ h
    obtain ⟨x, rfl⟩ := n r List.mem_cons_self
    cases τ with
    | nil => exact h
    | cons v τ => exact ih (fun r hr => n r (List.mem_cons_of_mem _ hr)) (τ := τ) h
theorem NoRf.app (n1 : NoRf rs) (n : NoRf θ) : NoRf (rs ++ θ) := fun r hr => (List.mem_append.mp hr).elim (n1 r) (n r)
theorem Wd.offSlot {L1 L2 : List (V × OD)} (w : Wd b H (L1 ++ (flat σ ρ ++ L2))) (wf : Wf σ ρ) (i : Nat) : Wd b H (L1 ++ (flat σ (ρ.set i none) ++ L2)) := by
  cases e : ρ[i]?.join with
  | none =>
    have : ρ.set i none = ρ := by
      cases h : ρ[i]? with
      | none => exact List.set_eq_of_length_le (by simpa using h)
      | some o => rw [h] at e; have : o = none := e; subst this; exact set_self h
    rw [this]; exact w
  | some x =>
    have e' := join_some e
    obtain ⟨v, ev⟩ := wf.get e'
    exact Wd.drop (w.perm ((((flat_pick e' ev).append_right _).append_left _).trans List.perm_middle))
/-- a name gets what stands on top -/
theorem Rel.store (R : Rel b F σ H ρ (v :: τ) (.val x :: θ)) (n : NoRf θ) (hi : i < ρ.length) : Rel b F (σ.set i (some v)) H (ρ.set i (some x)) τ θ := by
  refine Rel.unslot R.wf (n.al (Rel.drop R).al) R.wff hi ?_
  exact Wd.offSlot (L1 := (v, x) :: stk τ θ) (ρ := ρ) R.wd R.wf i
end
section
variable {X : Cx} {K : PySem.W.Frag} {a b c e : Expr} {es : List Expr} {sts : List Stmt} {st : Stmt} {da db dc : DE} {dt : DA} {d1 d2 : DS} {dT : DT} {pos p : Pos} {x : Str}
def dNext : DS := fun D ρ => D.nx ρ
def dSeq (t u : DS) : DS := fun D ρ => ∃ M : DEnv → Prop, (∀ ρ', M ρ' → u D ρ') ∧ t { D with nx := M } ρ
theorem pdss_nil : PDss X [] dNext := ⟨_, pss_nil, fun b F σ H ρ τ θ Dd D hK n R h E => E.nx σ H ρ R h⟩
theorem pdss_one : PDs X st d1 → PDss X [st] d1
  | ⟨_, h, s⟩ => ⟨_, pss_one h, s⟩
theorem pdss_cons : PDs X st d1 → PDss X sts d2 → PDss X (st :: sts) (dSeq d1 d2)
  | ⟨_, h1, s1⟩, ⟨_, h2, s2⟩ => ⟨_, pss_cons h1 h2, fun b F σ H ρ τ θ Dd D hK n R ⟨M, hM, h⟩ E => s1 b F σ H ρ τ θ _ _ hK n R h
    ⟨fun σ1 H1 ρ1 R1 h1 => s2 b F σ1 H1 ρ1 τ θ Dd D hK n R1 (hM ρ1 h1) E, E.bk, E.ct, E.rt⟩⟩
def dRet (a : DE) : DS := fun D ρ => a ρ fun r ρ1 => ∃ x ρ2, mv1 ρ1 r = some (x, ρ2) ∧ D.rt x ρ2
theorem pds_ret : PDe X e da → PDs X (.Return (some e) pos) (dRet da)
  | ⟨_, h, s⟩ => ⟨_, ps_ret h, fun b F σ H ρ τ θ Dd D hK n R h E => s b F σ H ρ τ θ _ _ hK R h fun v H1 r ρ1 R1 ⟨x, ρ2, e, h1⟩ => E.rt σ H1 ρ2 v x (R1.mv1 e) h1⟩
def dIfS (c : DT) (t u : DS) : DS := fun D ρ => c ρ fun k ρ1 => if k = true then t D ρ1 else u D ρ1
theorem pds_if {s1 s2 : List Stmt} : PDt X c dT → PDss X s1 d1 → PDss X s2 d2 → PDs X (.If c s1 s2 pos) (dIfS dT d1 d2)
  | ⟨_, h, s⟩, ⟨_, h1, s1⟩, ⟨_, h2, s2⟩ => ⟨_, ps_if h h1 h2, fun b F σ H ρ τ θ Dd D hK n R h E => s b F σ H ρ τ θ _ _ hK R h fun k H1 ρ1 R1 h1 => by
    cases k with
    | true => rw [if_pos rfl] at h1 ⊢; exact s1 b F σ H1 ρ1 τ θ _ _ hK n R1 h1 E
    | false => rw [if_neg Bool.false_ne_true] at h1 ⊢; exact s2 b F σ H1 ρ1 τ θ _ _ hK n R1 h1 E⟩
/-! names -/
def dSet (i : Nat) (a : DE) : DS := fun D ρ => a ρ fun r ρ1 => ∃ x ρ2, own1 ρ1 r = some (x, ρ2) ∧ i < ρ2.length ∧ D.nx (ρ2.set i (some x))
theorem pds_set {i : Nat} {pos' : Pos} (hN : X.N.Nodup) (hi : X.N[i]? = some x) (hx : Loc X.env.scope x) (hs : swapsWith e (some (.Name x pos')) pos.line X.env = pure false := by rfl) (hf : X.fn x = true ∨ X.env.scope.names.lookup x = some .local := by first | exact .inl rfl | exact .inr rfl | assumption) :
    PDe X e da → PDs X (.Assign [.Name x pos'] e pos) (dSet i da)
  | ⟨_, h, s⟩ => ⟨_, ps_set hN hi hx h hs hf, fun b F σ H ρ τ θ Dd D hK n R h E => s b F σ H ρ τ θ _ _ hK R h fun v H1 r ρ1 R1 ⟨x, ρ2, e, hi, h1⟩ => E.nx _ H1 _ ((R1.own1 e).store n hi) h1⟩
/-- several names at once -/
def setAll : List Nat → List OD → DEnv → DEnv
  | i :: is, x :: xs, ρ => setAll is xs (ρ.set i (some x))
  | _, _, ρ => ρ
def dPar (is : List Nat) (t : DA) : DS := fun D ρ => t ρ fun rs ρ1 => ∃ xs ρ2, mapR own1 ρ1 rs = some (xs, ρ2) ∧ xs.length = is.length ∧ (∀ i ∈ is, i < ρ2.length) ∧ D.nx (setAll is xs ρ2)
def setAllV : List Nat → List V → St → St
  | i :: is, v :: vs, σ => setAllV is vs (σ.set i (some v))
  | _, _, σ => σ
theorem Rel.storeAll {b : Bs} {F : List Fr} {H : Hp} {τ : List V} {θ : List OR} : ∀ {is : List Nat} {vs : List V} {xs : List OD} {σ : St} {ρ : DEnv}, Rel b F σ H ρ (vs ++ τ) (xs.map OR.val ++ θ) → NoRf θ → vs.length = xs.length → xs.length = is.length → (∀ i ∈ is, i < ρ.length) → Rel b F (setAllV is vs σ) H (setAll is xs ρ) τ θ
  | [], [], [], _, _, R, _, _, _, _ => R
  | i :: is, v :: vs, x :: xs, σ, ρ, R, n, e1, e2, h => by
    have nn : NoRf (xs.map OR.val ++ θ) := NoRf.app (fun r hr => by obtain ⟨x, _, rfl⟩ := List.mem_map.mp hr; exact ⟨x, rfl⟩) n
    show Rel b F (setAllV is vs (σ.set i (some v))) H (setAll is xs (ρ.set i (some x))) τ θ
    exact Rel.storeAll (Rel.store (τ := vs ++ τ) (θ := xs.map OR.val ++ θ) R nn (h i List.mem_cons_self)) n (by simpa using e1) (by simpa using e2) fun j hj => by rw [List.length_set]; exact h j (List.mem_cons_of_mem _ hj)
  | [], _ :: _, [], _, _, _, _, e, _, _ => by simp at e
  | [], _, _ :: _, _, _, _, _, _, e, _ => by simp at e
  | _ :: _, [], _ :: _, _, _, _, _, e, _, _ => by simp at e
  | _ :: _, _, [], _, _, _, _, _, e, _ => by simp at e
theorem len2 {α : Type} {l : List α} (h : l.length = 2) : ∃ a b, l = [a, b] := by
  match l, h with
  | [a, b], _ => exact ⟨a, b, rfl⟩
theorem len3 {α : Type} {l : List α} (h : l.length = 3) : ∃ a b c, l = [a, b, c] := by
  match l, h with
  | [a, b, c], _ => exact ⟨a, b, c, rfl⟩
theorem pds_par {i j : Nat} {x y : Str} {px py pt : Pos} {kt k2 pt2} (hc : X.calm = true) (hN : X.N.Nodup) (hi : X.N[i]? = some x) (hj : X.N[j]? = some y) (hij : i ≠ j)
    (hx : X.env.scope.names.lookup x = some .local) (hy : X.env.scope.names.lookup y = some .local)
    (hw : swappedStores [.Tuple [.Name x px, .Name y py] kt pt] (.Tuple [a, b] k2 pt2) X.env = pure (some [x, y]))
    (hs : swapsWithSole [.Tuple [.Name x px, .Name y py] kt pt] (.Tuple [a, b] k2 pt2) pos.line X.env = pure false := by rfl) : PDa X [a, b] dt → PDs X (.Assign [.Tuple [.Name x px, .Name y py] kt pt] (.Tuple [a, b] k2 pt2) pos) (dPar [i, j] dt)
  | ⟨_, h, s⟩ => ⟨_, ps_par hc hN hi hj hij hx hy h hw hs, fun b F σ H ρ τ θ Dd D hK n R h E => s b F σ H ρ τ θ _ _ hK R h fun vs H1 rs ρ1 el R1 ⟨xs, ρ2, e, el2, hi, h1⟩ => by
    obtain ⟨R2, e2⟩ := mapR_ok Rel.own1 R1 el e
    obtain ⟨v, w, rfl⟩ := len2 (e2.trans el2)
    exact ⟨v, w, rfl, E.nx _ H1 _ (Rel.storeAll (is := [i, j]) R2 n e2 el2 hi) h1⟩⟩
theorem pds_par3 {i j k : Nat} {x y z : Str} {px py pz pt : Pos} {kt k2 pt2} (hc : X.calm = true) (hN : X.N.Nodup) (hi : X.N[i]? = some x) (hj : X.N[j]? = some y) (hk : X.N[k]? = some z) (hij : i ≠ j) (hik : i ≠ k) (hjk : j ≠ k)
    (hx : X.env.scope.names.lookup x = some .local) (hy : X.env.scope.names.lookup y = some .local) (hz : X.env.scope.names.lookup z = some .local)
    (hw : swappedStores [.Tuple [.Name x px, .Name y py, .Name z pz] kt pt] (.Tuple [a, b, c] k2 pt2) X.env = pure (some [x, y, z]))
    (hs : swapsWithSole [.Tuple [.Name x px, .Name y py, .Name z pz] kt pt] (.Tuple [a, b, c] k2 pt2) pos.line X.env = pure false := by rfl) : PDa X [a, b, c] dt → PDs X (.Assign [.Tuple [.Name x px, .Name y py, .Name z pz] kt pt] (.Tuple [a, b, c] k2 pt2) pos) (dPar [i, j, k] dt)
  | ⟨_, h, s⟩ => ⟨_, ps_par3 hc hN hi hj hk hij hik hjk hx hy hz h hw hs, fun b F σ H ρ τ θ Dd D hK n R h E => s b F σ H ρ τ θ _ _ hK R h fun vs H1 rs ρ1 el R1 ⟨xs, ρ2, e, el2, hi, h1⟩ => by
    obtain ⟨R2, e2⟩ := mapR_ok Rel.own1 R1 el e
    obtain ⟨v, w, u, rfl⟩ := len3 (e2.trans el2)
    exact ⟨v, w, u, rfl, E.nx _ H1 _ (Rel.storeAll (is := [i, j, k]) R2 n e2 el2 hi) h1⟩⟩
/-! targets -/
abbrev DG := OD → DEnv → (DEnv → Prop) → Prop
abbrev DGs := List OD → DEnv → (DEnv → Prop) → Prop
/-- from slot m on nothing is stored -/
def SndG (K : PySem.W.Frag) (m : Nat) (g : TG) (dg : DG) : Prop := ∀ (b : Bs) (F : List Fr) (σ : St) (H : Hp) (ρ : DEnv) (τ : List V) (θ : List OR) (v : V) (x : OD) (Qd : DEnv → Prop) (Q : St → Hp → Prop), b.K = K → NoRf θ → Rel b F σ H ρ (v :: τ) (.val x :: θ) → dg x ρ Qd → (∀ σ' H' ρ', Rel b F σ' H' ρ' τ θ → (∀ j, m ≤ j → σ'[j]? = σ[j]? ∧ ρ'[j]? = ρ[j]?) → Qd ρ' → Q σ' H') → g v σ H Q
def SndGs (K : PySem.W.Frag) (m : Nat) (g : TGs) (dg : DGs) : Prop := ∀ (b : Bs) (F : List Fr) (σ : St) (H : Hp) (ρ : DEnv) (τ : List V) (θ : List OR) (vs : List V) (xs : List OD) (Qd : DEnv → Prop) (Q : St → Hp → Prop), b.K = K → NoRf θ → vs.length = xs.length → Rel b F σ H ρ (vs ++ τ) (xs.map OR.val ++ θ) → dg xs ρ Qd → (∀ σ' H' ρ', Rel b F σ' H' ρ' τ θ → (∀ j, m ≤ j → σ'[j]? = σ[j]? ∧ ρ'[j]? = ρ[j]?) → Qd ρ' → Q σ' H') → g vs σ H Q
inductive PDg (X : Cx) (m : Nat) (e : Expr) (dg : DG) : Prop | mk (te : TG) (h : PG X e te) (s : SndG X.K m te dg)
inductive PDgs (X : Cx) (m : Nat) (e : List Expr) (dg : DGs) : Prop | mk (te : TGs) (h : PGs X e te) (s : SndGs X.K m te dg)
def dgName (i : Nat) : DG := fun x ρ Q => i < ρ.length ∧ Q (ρ.set i (some x))
def dgNil : DGs := fun xs ρ Q => xs = [] ∧ Q ρ
def dgCons (t : DG) (u : DGs) : DGs := fun xs ρ Q => ∃ x r, xs = x :: r ∧ t x ρ fun ρ' => u r ρ' Q
def unpT : OD → Option (List OD)
  | .fz (.tuple ds) => some (ds.map OD.fz)
  | .tup xs => some (xs.map CD.od)
  | _ => none
def dgTup (n : Nat) (t : DGs) : DG := fun x ρ Q => ∃ xs, unpT x = some xs ∧ xs.length = n ∧ t xs ρ Q
variable {m : Nat} {dg : DG} {dgs : DGs}
theorem pdg_name {i : Nat} (hN : X.N.Nodup) (hi : X.N[i]? = some x) (hx : Loc X.env.scope x) (him : i < m) (hf : X.fn x = true ∨ X.env.scope.names.lookup x = some .local := by first | exact .inl rfl | exact .inr rfl | assumption) : PDg X m (.Name x pos) (dgName i) :=
  ⟨_, pg_name hN hi hx hf, fun b F σ H ρ τ θ v x Qd Q hK n R ⟨hi, h⟩ q => q _ _ _ (R.store n hi) (fun j hj => ⟨List.getElem?_set_ne (by omega), List.getElem?_set_ne (by omega)⟩) h⟩
theorem pdgs_nil : PDgs X m [] dgNil := ⟨_, pgs_nil, fun b F σ H ρ τ θ vs xs Qd Q hK n el R ⟨e, h⟩ q => by
  subst e
  cases vs with
  | nil => exact ⟨rfl, q _ _ _ R (fun j hj => ⟨rfl, rfl⟩) h⟩
  | cons _ _ => simp at el⟩
theorem pdgs_cons (hs : (assignEach (e :: es) X.env).map (·.2) = assign e X.env :: (assignEach es X.env).map (·.2) := by rfl) : PDg X m e dg → PDgs X m es dgs → PDgs X m (e :: es) (dgCons dg dgs)
  | ⟨_, h1, s1⟩, ⟨_, h2, s2⟩ => ⟨_, pgs_cons h1 h2 hs, fun b F σ H ρ τ θ vs xs Qd Q hK n el R ⟨x, r, e, h⟩ q => by
    subst e
    cases vs with
    | nil => simp at el
    | cons v vs =>
      have nn : NoRf (r.map OR.val ++ θ) := NoRf.app (fun r hr => by obtain ⟨x, _, rfl⟩ := List.mem_map.mp hr; exact ⟨x, rfl⟩) n
      exact ⟨v, vs, rfl, s1 b F σ H ρ (vs ++ τ) (r.map OR.val ++ θ) v x _ _ hK nn R h fun σ1 H1 ρ1 R1 k1 h1 => s2 b F σ1 H1 ρ1 τ θ vs r _ _ hK n (by simpa using el) R1 h1 fun σ2 H2 ρ2 R2 k2 h2 =>
        q _ _ _ R2 (fun j hj => ⟨(k2 j hj).1.trans (k1 j hj).1, (k2 j hj).2.trans (k1 j hj).2⟩) h2⟩⟩
theorem OwCs.owL {b : Bs} {S : Addr → Prop} {H : Hp} : ∀ {vs : List V} {xs : List CD} {A : List Addr}, OwCs b S H vs xs A → OwL b S H (vs.zip (xs.map CD.od)) A
  | _, _, _, .nil => .nil
  | _, _, _, .cons r t => .cons (OwC.od r) (OwCs.owL t)
/-- a tuple is taken apart -/
theorem Wd.unpT {b : Bs} {H : Hp} {L : List (V × OD)} {v : V} {x : OD} {xs : List OD} (w : Wd b H ((v, x) :: L)) (e : unpT x = some xs) : ∃ a vs, v = .ref a ∧ SqT b.K H a vs ∧ vs.length = xs.length ∧ Wd b H (vs.zip xs ++ L) := by
  cases x with
  | fz d =>
    cases d <;> simp only [L2.unpT] at e <;> cases e
    obtain ⟨a, vs, rfl, el, hs, w2⟩ := w.tpItems List.mem_cons_self (rfl : tupOf (.fz (.tuple _)) = some _)
    exact ⟨a, vs, rfl, hs, by simpa using el, Wd.drop (w2.perm List.perm_middle)⟩
  | tup cs =>
    simp only [L2.unpT] at e
    cases e
    obtain ⟨A0, h0, nd, new⟩ := w.out
    cases h0 with
    | cons r t =>
      obtain ⟨a, vs, rfl, h1, h2⟩ := r
      exact ⟨a, vs, rfl, SqT.of h1, by rw [h2.len, List.length_map], ⟨⟨_, h2.owL.join t, nd, new⟩, w.fr, w.s0, w.c0, w.nt⟩⟩
  | _ => simp [L2.unpT] at e
theorem al_vals {σ : St} : ∀ {vs : List V} {xs : List OD}, vs.length = xs.length → Al σ vs (xs.map OR.val)
  | [], [], _ => trivial
  | _ :: vs, _ :: xs, e => al_vals (vs := vs) (xs := xs) (by simpa using e)
  | [], _ :: _, e => by simp at e
  | _ :: _, [], e => by simp at e
theorem Rel.spread {b : Bs} {F : List Fr} {σ : St} {H : Hp} {ρ : DEnv} {τ vs : List V} {θ : List OR} {xs : List OD} (R : Rel b F σ H ρ τ θ) (el : vs.length = xs.length) (w : Wd b H (vs.zip xs ++ (stk τ θ ++ (flat σ ρ ++ ff F)))) : Rel b F σ H ρ (vs ++ τ) (xs.map OR.val ++ θ) :=
  ⟨R.wf, (al_app (by simpa using el)).mpr ⟨al_vals el, R.al⟩, R.wff, by rw [stk_app (by simpa using el), stk_vals el, List.append_assoc]; exact w⟩
theorem pdg_tup {k : Nat} {n : Nat} (hc : X.calm = true) (hn : (assignEach es X.env).length = n := by rfl) (hst : (assignEach es X.env).findIdx? (·.1) = none := by rfl) : PDgs X m es dgs → PDg X m (.Tuple es k pos) (dgTup n dgs)
  | ⟨_, h, s⟩ => ⟨_, pg_tup hc h hn hst, fun b F σ H ρ τ θ v x Qd Q hK nr R ⟨xs, e, hl, h⟩ q => by
    obtain ⟨a, vs, rfl, hs, el, w⟩ := Wd.unpT R.wd e
    rw [hK] at hs
    exact ⟨a, vs, rfl, hs, el.trans hl, s b F σ H ρ τ θ vs xs _ _ hK nr el (R.drop.spread el w) h q⟩⟩
def dAsg (a : DE) (g : DG) : DS := fun D ρ => a ρ fun r ρ1 => ∃ x ρ2, own1 ρ1 r = some (x, ρ2) ∧ g x ρ2 D.nx
theorem pds_asg {tg : Expr} (hs : swapsWithSole [tg] e pos.line X.env = pure false := by rfl) (hw : swappedStores [tg] e X.env = pure none := by rfl) (h0 : (assignEach [tg] X.env).map (·.2) = [assign tg X.env] := by rfl) : PDe X e da → PDg X m tg dg → PDs X (.Assign [tg] e pos) (dAsg da dg)
  | ⟨_, h1, s1⟩, ⟨_, h2, s2⟩ => ⟨_, ps_asg h1 h2 hs hw h0, fun b F σ H ρ τ θ Dd D hK n R h E => s1 b F σ H ρ τ θ _ _ hK R h fun v H1 r ρ1 R1 ⟨x, ρ2, e, h1⟩ =>
    s2 b F σ H1 ρ2 τ θ v x _ _ hK n (R1.own1 e) h1 fun σ' H' ρ' R' _ h' => E.nx σ' H' ρ' R' h'⟩
/-! loops -/
def dWhile (c : DT) (t : DS) : DS := fun D ρ => ∃ W : Nat → DEnv → Prop, (∃ m, W m ρ) ∧ ∀ m ρ, W m ρ → c ρ fun k ρ1 => if k = true then ∃ N : DEnv → Prop, (∀ ρ', N ρ' → ∃ m', m' < m ∧ W m' ρ') ∧ t { D with nx := N, ct := N, bk := D.nx } ρ1 else D.nx ρ1
theorem pds_while (hp : PassesOwn (model X.prog X.w) X.A X.env X.xe) : PDt X c dT → PDss X sts d1 → PDs X (.While c sts [] pos) (dWhile dT d1)
  | ⟨_, h1, s1⟩, ⟨_, h2, s2⟩ => ⟨_, ps_while hp h1 h2, fun b F σ H ρ τ θ Dd D hK n R ⟨W, ⟨m0, w0⟩, step⟩ E => by
    refine ⟨fun m σ H => ∃ ρ, Rel b F σ H ρ τ θ ∧ W m ρ, ⟨m0, ρ, R, w0⟩, ?_⟩
    rintro m σ1 H1 ⟨ρ1, R1, w1⟩
    refine s1 b F σ1 H1 ρ1 τ θ _ _ hK R1 (step m ρ1 w1) fun k H2 ρ2 R2 h2 => ?_
    cases k with
    | false => rw [if_neg Bool.false_ne_true] at h2 ⊢; exact E.nx σ1 H2 ρ2 R2 h2
    | true =>
      rw [if_pos rfl] at h2 ⊢
      obtain ⟨N, hN, h3⟩ := h2
      refine ⟨fun σ' H' => ∃ ρ', Rel b F σ' H' ρ' τ θ ∧ N ρ', fun σ' H' ⟨ρ', R', n'⟩ => ?_, s2 b F σ1 H2 ρ2 τ θ _ _ hK n R2 h3 ⟨fun σ' H' ρ' R' h' => ⟨ρ', R', h'⟩, fun σ' H' ρ' R' h' => E.nx σ' H' ρ' R' h', fun σ' H' ρ' R' h' => ⟨ρ', R', h'⟩, E.rt⟩⟩
      obtain ⟨m', hm, w'⟩ := hN ρ' n'
      exact ⟨m', hm, ρ', R', w'⟩⟩
/-! what is walked -/
abbrev DI := DEnv → (List PyData → DEnv → Prop) → Prop
/-- the walk J yields the data ds, while vs stand by -/
def ItOk (b : Bs) (J : It) (vs : List V) (rs : List OR) (ds : List PyData) : Prop := ∀ (F : List Fr) (σ : St) (H : Hp) (ρ : DEnv) (τ : List V) (θ : List OR), Rel b F σ H ρ (vs ++ τ) (rs ++ θ) → ∀ k,
  (k < ds.length → J.go k H ∧ ∀ x H2 d, J.yld k H x H2 → ds[k]? = some d → Rel b F σ H2 ρ (x :: (vs ++ τ)) (.val (.fz d) :: (rs ++ θ))) ∧ (k = ds.length → J.stop k H)
def SndI (K : PySem.W.Frag) (wi : TI) (di : DI) : Prop := ∀ (b : Bs) (F : List Fr) (σ : St) (H : Hp) (ρ : DEnv) (τ : List V) (θ : List OR) (Qd : List PyData → DEnv → Prop) (Q : It → Hp → Prop), b.K = K → Rel b F σ H ρ τ θ → di ρ Qd →
  (∀ J H' ds ρ' vs rs, vs.length = rs.length → NoRf rs → Rel b F σ H' ρ' (vs ++ τ) (rs ++ θ) → ItOk b J vs rs ds → Qd ds ρ' → Q J H') → wi σ H Q
inductive PDi (X : Cx) (tg e : Expr) (di : DI) : Prop | mk (te : TI) (h : PI X tg e te) (s : SndI X.K te di)
def dFor (di : DI) (g : DG) (t : DS) : DS := fun D ρ => di ρ fun ds ρ1 => ∃ Iv : Nat → DEnv → Prop, Iv 0 ρ1 ∧ (∀ k d ρ, ds[k]? = some d → Iv k ρ → g (.fz d) ρ fun ρ2 => t { D with nx := Iv (k + 1), ct := Iv (k + 1), bk := D.nx } ρ2) ∧ ∀ ρ, Iv ds.length ρ → D.nx ρ
theorem pds_for {tg iter : Expr} {di : DI} (hp : PassesOwn (model X.prog X.w) X.A X.env X.xe) (hc : X.calm = true) (hs : ∀ x, foldedSetIterable iter X.env x = pure x := by intro _; rfl) : PDi X tg iter di → PDg X m tg dg → PDss X sts d1 → PDs X (.For tg iter sts [] pos) (dFor di dg d1)
  | ⟨_, h1, s1⟩, ⟨_, h2, s2⟩, ⟨_, h3, s3⟩ => ⟨_, ps_for hp hc h1 h2 h3 hs, fun b F σ H ρ τ θ Dd D hK n R h E => s1 b F σ H ρ τ θ _ _ hK R h fun J H1 ds ρ1 vs rs el nr R1 it ⟨Iv, i0, step, fin⟩ => by
    refine ⟨fun i mm σ H => mm = ds.length - i ∧ i ≤ ds.length ∧ ∃ ρ, Rel b F σ H ρ (vs ++ τ) (rs ++ θ) ∧ Iv i ρ, ⟨_, rfl, Nat.zero_le _, ρ1, R1, i0⟩, ?_⟩
    rintro i mm σ2 H2 ⟨rfl, hi, ρ2, R2, w2⟩
    obtain ⟨go, stop⟩ := it F σ2 H2 ρ2 τ θ R2 i
    by_cases hlt : i < ds.length
    · obtain ⟨g1, g2⟩ := go hlt
      refine .inr ⟨g1, fun σ' H' => ∃ ρ', Rel b F σ' H' ρ' (vs ++ τ) (rs ++ θ) ∧ Iv (i + 1) ρ', fun σ' H' ⟨ρ', R', w'⟩ => ⟨_, by omega, rfl, hlt, ρ', R', w'⟩, fun x H3 hy => ?_⟩
      have ed : ds[i]? = some ds[i] := List.getElem?_eq_getElem hlt
      have R3 := g2 x H3 ds[i] hy ed
      refine s2 b F σ2 H3 ρ2 (vs ++ τ) (rs ++ θ) x _ _ _ hK (nr.app n) R3 (step i _ ρ2 ed w2) fun σ4 H4 ρ4 R4 _ h4 => ?_
      refine s3 b F σ4 H4 ρ4 (vs ++ τ) (rs ++ θ) _ _ hK (nr.app n) R4 h4 ⟨fun σ' H' ρ' R' h' => ⟨ρ', R', h'⟩, fun σ' H' ρ' R' h' => E.nx σ' H' ρ' (R'.drops el) h', fun σ' H' ρ' R' h' => ⟨ρ', R', h'⟩, fun σ' H' ρ' v x R' h' => ?_⟩
      exact E.rt σ' H' ρ' v x (Rel.drops (vs := vs) (rs := rs) (τ := v :: τ) (θ := .val x :: θ) (Rel.tor R' el) el) h'
    · have e : i = ds.length := by omega
      subst e
      exact .inl ⟨stop rfl, E.nx σ2 H2 ρ2 (R2.drops el) (fin ρ2 w2)⟩⟩
/-- range(n) -/
def rngD (lo : Int) (n : Nat) : List PyData := (List.range n).map fun (i : Nat) => PyData.int (lo + (i : Int))
theorem rngD_len (lo : Int) (n : Nat) : (rngD lo n).length = n := by simp [rngD]
theorem rngD_get {lo : Int} {n k : Nat} {d : PyData} (h : (rngD lo n)[k]? = some d) : k < n ∧ d = .int (lo + k) := by
  unfold rngD at h
  rw [List.getElem?_map] at h
  obtain ⟨j, h1, rfl⟩ := Option.map_eq_some_iff.mp h
  obtain ⟨h2, h3⟩ := List.getElem?_eq_some_iff.mp h1
  simp at h2 h3
  subst h3
  exact ⟨h2, rfl⟩
theorem itOk_rng (b : Bs) (lo : Int) (n : Nat) : ItOk b (Itr lo n) [] [] (rngD lo n) := fun F σ H ρ τ θ R k => by
  rw [rngD_len]
  refine ⟨fun h => ⟨h, fun x H2 d ⟨e1, e2⟩ hd => ?_⟩, fun e => by subst e; exact Nat.le_refl _⟩
  subst e1 e2
  rw [(rngD_get hd).2]
  exact Rel.sc R (.int _)
def dRng1 (t : DA) : DI := fun ρ Q => t ρ fun rs ρ1 => ∃ j, datL ρ1 rs = some [.int j] ∧ -(2 ^ 62) ≤ j ∧ j < 2 ^ 62 ∧ Q (rngD 0 j.toNat) ρ1
theorem pdi_range1 {tg : Expr} (hg : Gl X "range") (hm : X.mg "range" = none) (hs : starEach [a] X.env = [(false, eval a X.env)] := by rfl) : PDa X [a] dt → PDi X tg (.Call (.Name "range" p) [a] [] pos) (dRng1 dt)
  | ⟨_, h, s⟩ => ⟨_, pi_range1 hg hm h hs, fun b F σ H ρ τ θ Qd Q hK R h q => s b F σ H ρ τ θ _ _ hK R h fun vs H1 rs ρ1 el R1 ⟨j, e, j0, j1, h1⟩ => by
    have hd := R1.dtL el e
    cases hd with
    | cons r t => cases t; cases r; exact ⟨j, rfl, j0, j1, q _ H1 _ ρ1 [] [] rfl (fun r hr => by cases hr) (R1.drops el) (itOk_rng b 0 _) h1⟩⟩
/-- a list, a tuple -/
theorem Rel.itemAt {b : Bs} {F : List Fr} {σ : St} {H : Hp} {ρ : DEnv} {τ : List V} {θ : List OR} {v : V} {x : OD} {ds : List PyData} {d : PyData} {k : Nat} (R : Rel b F σ H ρ τ θ) (m : (v, x) ∈ stk τ θ ++ (flat σ ρ ++ ff F)) (e : seqOf x = some ds) (hd : ds[k]? = some d) :
    ∃ a vs u, v = .ref a ∧ (SqL b.K H a vs ∨ SqT b.K H a vs) ∧ vs.length = ds.length ∧ vs[k]? = some u ∧ Rel b F σ H ρ (u :: τ) (.val (.fz d) :: θ) := by
  obtain ⟨a, vs, rfl, el, hs, w⟩ := R.wd.sqItems m e
  have hk : k < vs.length := by rw [el]; exact (List.getElem?_eq_some_iff.mp hd).1
  refine ⟨a, vs, vs[k], rfl, hs, el, List.getElem?_eq_getElem hk, R.push (w.pick (zip_mem (List.getElem?_eq_getElem hk) ?_))⟩
  rw [List.getElem?_map, hd]; rfl
theorem stk_mem1 {v : V} {x : OD} {τ : List V} {θ : List OR} {L : List (V × OD)} : (v, x) ∈ stk ([v] ++ τ) ([OR.val x] ++ θ) ++ L := by simp [stk]
theorem itOk_list (b : Bs) (a : Addr) (ds : List PyData) : ItOk b (Itl b.K a) [.ref a] [.val (.fz (.list ds))] ds := fun F σ H ρ τ θ R k => by
  obtain ⟨a', us, e, el, hs, _⟩ := R.wd.lsItems stk_mem1 (rfl : listOf (.fz (.list ds)) = some ds)
  cases e
  refine ⟨fun h => ⟨⟨us, us[k]'(by omega), hs, List.getElem?_eq_getElem _⟩, fun x H2 d ⟨e1, e2⟩ hd => ?_⟩, fun e => ⟨us, hs, by omega⟩⟩
  subst e1
  obtain ⟨a'', vs, u, ea, hs2, _, hu, R2⟩ := R.itemAt stk_mem1 (rfl : seqOf (.fz (.list ds)) = some ds) hd
  cases ea
  obtain ⟨_, us', e', el', hs', w'⟩ := R.wd.lsItems stk_mem1 (rfl : listOf (.fz (.list ds)) = some ds)
  cases e'
  have hk : k < us'.length := by rw [el']; exact (List.getElem?_eq_some_iff.mp hd).1
  have hx := e2 us' hs'
  refine Rel.push R (w'.pick (zip_mem hx ?_))
  rw [List.getElem?_map, hd]; rfl
theorem itOk_tup (b : Bs) (a : Addr) (ds : List PyData) : ItOk b (Itt b.K a) [.ref a] [.val (.fz (.tuple ds))] ds := fun F σ H ρ τ θ R k => by
  obtain ⟨a', us, e, el, hs, w⟩ := R.wd.tpItems stk_mem1 (rfl : tupOf (.fz (.tuple ds)) = some ds)
  cases e
  refine ⟨fun h => ⟨⟨us, us[k]'(by omega), hs, List.getElem?_eq_getElem _⟩, fun x H2 d ⟨e1, e2⟩ hd => ?_⟩, fun e => ⟨us, hs, by omega⟩⟩
  subst e1
  refine Rel.push R (w.pick (zip_mem (e2 us hs) ?_))
  rw [List.getElem?_map, hd]; rfl
def dItL (a : DE) : DI := fun ρ Q => a ρ fun r ρ1 => ∃ ds ρ2, frz1 ρ1 r = some (.list ds, ρ2) ∧ Q ds ρ2
theorem pdi_list {tg : Expr} : PDe X e da → PDi X tg e (dItL da)
  | ⟨_, h, s⟩ => ⟨_, pi_list h, fun b F σ H ρ τ θ Qd Q hK R h q => s b F σ H ρ τ θ _ _ hK R h fun v H1 r ρ1 R1 ⟨ds, ρ2, e, h1⟩ => by
    have R2 := R1.frz1 e
    obtain ⟨a, us, rfl, el, hs, _⟩ := R2.wd.lsItems (R2.mem rfl) (rfl : listOf (.fz (.list ds)) = some ds)
    rw [hK] at hs
    exact ⟨a, rfl, ⟨us, hs⟩, hK ▸ q _ H1 ds ρ2 [.ref a] [.val (.fz (.list ds))] rfl (fun r hr => ⟨_, List.mem_singleton.mp hr⟩) R2 (itOk_list b a ds) h1⟩⟩
def dItT (a : DE) : DI := fun ρ Q => a ρ fun r ρ1 => ∃ ds ρ2, frz1 ρ1 r = some (.tuple ds, ρ2) ∧ Q ds ρ2
theorem pdi_tup {tg : Expr} : PDe X e da → PDi X tg e (dItT da)
  | ⟨_, h, s⟩ => ⟨_, pi_tup h, fun b F σ H ρ τ θ Qd Q hK R h q => s b F σ H ρ τ θ _ _ hK R h fun v H1 r ρ1 R1 ⟨ds, ρ2, e, h1⟩ => by
    have R2 := R1.frz1 e
    obtain ⟨a, us, rfl, el, hs, _⟩ := R2.wd.tpItems (R2.mem rfl) (rfl : tupOf (.fz (.tuple ds)) = some ds)
    rw [hK] at hs
    exact ⟨a, rfl, ⟨us, hs⟩, hK ▸ q _ H1 ds ρ2 [.ref a] [.val (.fz (.tuple ds))] rfl (fun r hr => ⟨_, List.mem_singleton.mp hr⟩) R2 (itOk_tup b a ds) h1⟩⟩
end
end L2
namespace L2
open PySem PySem.Spec PyProof.Rows
section
variable {X : Cx} {K : PySem.W.Frag} {a b c e : Expr} {es : List Expr} {sts : List Stmt} {st : Stmt} {da db dc : DE} {dt : DA} {d1 d2 : DS} {dT : DT} {pos p : Pos} {x : Str}
/-! enumerate, zip -/
def enumD (ds : List PyData) : List PyData := (List.range ds.length).map fun (i : Nat) => PyData.tuple [.int (i : Int), ds.getD i .none]
theorem enumD_len (ds : List PyData) : (enumD ds).length = ds.length := by simp [enumD]
theorem enumD_get {ds : List PyData} {k : Nat} {d : PyData} (h : (enumD ds)[k]? = some d) : ∃ e, ds[k]? = some e ∧ d = .tuple [.int k, e] := by
  unfold enumD at h
  rw [List.getElem?_map] at h
  obtain ⟨j, h1, rfl⟩ := Option.map_eq_some_iff.mp h
  obtain ⟨h2, h3⟩ := List.getElem?_eq_some_iff.mp h1
  simp at h2 h3
  subst h3
  exact ⟨ds[k], List.getElem?_eq_getElem h2, by rw [List.getD_eq_getElem?_getD, List.getElem?_eq_getElem h2]; rfl⟩
theorem Rel.newTup2 {b : Bs} {F : List Fr} {σ : St} {H : Hp} {ρ : DEnv} {τ : List V} {θ : List OR} {v u : V} {d e : PyData} {p : Addr} (R : Rel b F σ H ρ τ θ) {Z : List (V × OD)} (w : Wd b H (Z ++ (stk τ θ ++ (flat σ ρ ++ ff F)))) (m1 : (v, OD.fz d) ∈ Z) (m2 : (u, OD.fz e) ∈ Z) (hp : H p = none) :
    Rel b F σ (upd H p (.tup [v, u])) ρ (.ref p :: τ) (.val (.fz (.tuple [d, e])) :: θ) := R.newTup (vs := [v, u]) (ds := [d, e]) w rfl (fun z hz => by
      simp at hz
      rcases hz with rfl | rfl
      · exact List.mem_append_left _ m1
      · exact List.mem_append_left _ m2) hp
theorem itOk_enum (b : Bs) (a : Addr) (ds : List PyData) : ItOk b (Ite b.K a) [.ref a] [.val (.fz (.list ds))] (enumD ds) := fun F σ H ρ τ θ R k => by
  obtain ⟨a', us, e, el, hs, w⟩ := R.wd.lsItems stk_mem1 (rfl : listOf (.fz (.list ds)) = some ds)
  cases e
  rw [enumD_len]
  refine ⟨fun h => ⟨⟨us, us[k]'(by omega), hs, List.getElem?_eq_getElem _⟩, fun x H2 d ⟨T, y, e1, hT, e2, e3⟩ hd => ?_⟩, fun e => ⟨us, hs, by omega⟩⟩
  subst e2 e3
  obtain ⟨d', hd', rfl⟩ := enumD_get hd
  refine Rel.newTup2 (Z := (V.int k, OD.fz (.int k)) :: us.zip (ds.map OD.fz)) R (w.sc (.int _)) List.mem_cons_self (List.mem_cons_of_mem _ (zip_mem (e1 us hs) ?_)) hT
  rw [List.getElem?_map, hd']; rfl
def dEnum (t : DA) : DI := fun ρ Q => t ρ fun rs ρ1 => ∃ ds ρ2, frzL ρ1 rs = some ([.list ds], ρ2) ∧ Q (enumD ds) ρ2
theorem pdi_enum {x1} {tpos : Pos} (hg : Gl X "enumerate") (hm : X.mg "enumerate" = none) (hs : starEach [a] X.env = [(false, eval a X.env)] := by rfl) : PDa X [a] dt → PDi X (.Tuple es x1 tpos) (.Call (.Name "enumerate" p) [a] [] pos) (dEnum dt)
  | ⟨_, h, s⟩ => ⟨_, pi_enum hg hm h hs, fun b F σ H ρ τ θ Qd Q hK R h q => s b F σ H ρ τ θ _ _ hK R h fun vs H1 rs ρ1 el R1 ⟨ds, ρ2, e, h1⟩ => by
    obtain ⟨R2, e2⟩ := frzA_ok R1 el e
    match vs, e2 with
    | [v], _ =>
      have R3 : Rel b F σ H1 ρ2 (v :: τ) (.val (.fz (.list ds)) :: θ) := R2
      obtain ⟨a, us, rfl, el, hs, _⟩ := R3.wd.lsItems (R3.mem rfl) (rfl : listOf (.fz (.list ds)) = some ds)
      rw [hK] at hs
      exact ⟨a, us, rfl, hs, hK ▸ q _ H1 _ ρ2 [.ref a] [.val (.fz (.list ds))] rfl (fun r hr => ⟨_, List.mem_singleton.mp hr⟩) R3 (itOk_enum b a ds) h1⟩⟩
end
end L2
namespace L2
open PySem PySem.Spec PyProof.Rows
/-! ### comprehensions -/
def capt : DEnv → List Nat → Option (DEnv × DEnv)
  | ρ, [] => some ([], ρ)
  | ρ, j :: js => match ρ[j]?.join with
    | some (.tape p n) => (capt (ρ.set j none) js).map fun z => (some (.tape p n) :: z.1, z.2)
    | some x => x.dat.bind fun d => (capt (ρ.set j (some (.fz d))) js).map fun z => (some (.fz d) :: z.1, z.2)
    | none => none
def unca : DEnv → List Nat → DEnv → DEnv
  | ρ, j :: js, some (.tape p n) :: os => unca (ρ.set j (some (.tape p n))) js os
  | ρ, _ :: js, _ :: os => unca ρ js os
  | ρ, _, _ => ρ
def capV (σ : St) (js : List Nat) : St := js.map fun j => (σ[j]?).join
section
variable {b : Bs} {F : List Fr} {σ σ' : St} {H H' : Hp} {τ vs : List V} {θ rs : List OR} {v u : V} {x y : OD} {d : PyData} {ds : List PyData} {i : Nat} {L : List (V × OD)}
theorem join_of {o : Option (Option V)} (h : o = some (some v)) : o.join = some v := by rw [h]; rfl
theorem capt_ok : ∀ {js : List Nat} {ρ inner ρ2 : DEnv} {L1 L2 : List (V × OD)}, Wd b H (L1 ++ (flat σ ρ ++ L2)) → Wf σ ρ → capt ρ js = some (inner, ρ2) → Wd b H (flat (capV σ js) inner ++ (L1 ++ (flat σ ρ2 ++ L2))) ∧ Wf σ ρ2 ∧ Wf (capV σ js) inner
  | [], ρ, inner, ρ2, L1, L2, w, wf, e => by simp only [capt] at e; cases e; exact ⟨w, wf, trivial⟩
  | j :: js, ρ, inner, ρ2, L1, L2, w, wf, e => by
    cases h : ρ[j]?.join with
    | none => simp [capt, h] at e
    | some x =>
      have ex := join_some h
      obtain ⟨v, ev⟩ := wf.get ex
      have w1 : Wd b H ((v, x) :: (L1 ++ (flat σ (ρ.set j none) ++ L2))) := w.perm ((((flat_pick ex ev).append_right _).append_left _).trans List.perm_middle)
      have fin : ∀ {y : OD} {ρ1 : DEnv} {z : DEnv × DEnv}, Wd b H ((v, y) :: (L1 ++ (flat σ ρ1 ++ L2))) → Wf σ ρ1 → capt ρ1 js = some z → (some y :: z.1, z.2) = (inner, ρ2) → Wd b H (flat (capV σ (j :: js)) inner ++ (L1 ++ (flat σ ρ2 ++ L2))) ∧ Wf σ ρ2 ∧ Wf (capV σ (j :: js)) inner := fun {y ρ1 z} w2 wf1 ez e2 => by
        cases e2
        obtain ⟨w3, wf2, wf3⟩ := capt_ok (L1 := (v, y) :: L1) (L2 := L2) (js := js) w2 wf1 (show capt ρ1 js = some (z.1, z.2) from ez)
        have ec : capV σ (j :: js) = some v :: capV σ js := by unfold capV; rw [List.map_cons, join_of ev]
        rw [ec]
        exact ⟨w3.perm List.perm_middle, wf2, wf3⟩
      have frz : ∀ {d : PyData} {z : DEnv × DEnv}, x.dat = some d → capt (ρ.set j (some (.fz d))) js = some z → (some (.fz d) :: z.1, z.2) = (inner, ρ2) → Wd b H (flat (capV σ (j :: js)) inner ++ (L1 ++ (flat σ ρ2 ++ L2))) ∧ Wf σ ρ2 ∧ Wf (capV σ (j :: js)) inner := fun {d z} ed ez e2 => by
        have w2 := (w1.frz ed).dup
        have hj : j < ρ.length := (List.getElem?_eq_some_iff.mp ex).1
        have es : σ.set j (some v) = σ := set_self ev
        have pp := flat_put (v := v) (x := .fz d) hj wf.len
        rw [es] at pp
        refine fin (w2.perm (List.Perm.cons _ ?_)) (by have := wf.put (i := j) (v := v) (x := .fz d); rw [es] at this; exact this) ez e2
        exact List.perm_middle.symm.trans ((pp.symm.append_right _).append_left _)
      cases x with
      | tape p n =>
        simp only [capt, h, Option.map_eq_some_iff] at e
        obtain ⟨z, ez, e2⟩ := e
        exact fin w1 wf.off ez e2
      | _ =>
        simp only [capt, h, Option.bind_eq_some_iff, Option.map_eq_some_iff] at e
        obtain ⟨d, ed, z, ez, e2⟩ := e
        exact frz ed ez e2
theorem unca_ok : ∀ {js : List Nat} {ρ os : DEnv} {L1 L2 : List (V × OD)}, Wd b H (L1 ++ (flat (capV σ js) os ++ (flat σ ρ ++ L2))) → Wf σ ρ → Wf (capV σ js) os → Wd b H (L1 ++ (flat σ (unca ρ js os) ++ L2)) ∧ Wf σ (unca ρ js os)
  | [], ρ, os, L1, L2, w, wf, wf2 => by
    cases os with
    | nil => exact ⟨w, wf⟩
    | cons _ _ => simp [capV, Wf] at wf2
  | j :: js, ρ, [], L1, L2, w, wf, wf2 => by simp [capV, Wf] at wf2
  | j :: js, ρ, o :: os, L1, L2, w, wf, wf2 => by
    have ec : capV σ (j :: js) = (σ[j]?).join :: capV σ js := rfl
    rw [ec] at w wf2
    cases o with
    | none =>
      rw [flat_none] at w
      exact unca_ok (js := js) w wf (by cases h : (σ[j]?).join <;> (rw [h] at wf2; exact wf2))
    | some x =>
      cases h : (σ[j]?).join with
      | none => rw [h] at wf2; simp [Wf] at wf2
      | some v =>
        rw [h] at w wf2
        have w1 : Wd b H ((v, x) :: (L1 ++ (flat (capV σ js) os ++ (flat σ ρ ++ L2)))) := w.perm (List.perm_middle (l₁ := L1) (l₂ := flat (capV σ js) os ++ (flat σ ρ ++ L2)))
        cases x with
        | tape p n =>
          have ev := join_some h
          have hj : j < ρ.length := by rw [← wf.len]; exact (List.getElem?_eq_some_iff.mp ev).1
          have es : σ.set j (some v) = σ := set_self ev
          have pp := flat_put (v := v) (x := .tape p n) hj wf.len
          rw [es] at pp
          have wf3 : Wf σ (ρ.set j (some (.tape p n))) := by have := wf.put (i := j) (v := v) (x := .tape p n); rw [es] at this; exact this
          refine unca_ok (js := js) (ρ := ρ.set j (some (.tape p n))) ?_ wf3 wf2
          have w2 : Wd b H (((v, OD.tape p n) :: L1 ++ flat (capV σ js) os) ++ (flat σ (ρ.set j none) ++ L2)) := Wd.offSlot (by simpa using w1) wf j
          refine w2.perm ?_
          rw [← List.append_assoc L1]
          refine List.Perm.trans ?_ ((pp.symm.append_right _).append_left _)
          simp only [List.cons_append]
          exact List.perm_middle.symm
        | _ => exact unca_ok (js := js) w1.drop wf wf2
theorem Wf.drop : ∀ {n : Nat} {σ : St} {ρ : DEnv}, Wf σ ρ → Wf (σ.drop n) (ρ.drop n)
  | 0, _, _, h => h
  | _ + 1, [], [], _ => trivial
  | _ + 1, [], _ :: _, h => by simp [Wf] at h
  | _ + 1, _ :: _, [], h => by simp [Wf] at h
  | n + 1, o :: σ, none :: ρ, h => Wf.drop (n := n) (σ := σ) (ρ := ρ) h
  | n + 1, some _ :: σ, some _ :: ρ, h => Wf.drop (n := n) (σ := σ) (ρ := ρ) h
  | _ + 1, none :: _, some _ :: _, h => by simp [Wf] at h
theorem flat_drop : ∀ {n : Nat} {σ : St} {ρ : DEnv}, Wf σ ρ → ∃ L, flat σ ρ = L ++ flat (σ.drop n) (ρ.drop n)
  | 0, σ, ρ, _ => ⟨[], rfl⟩
  | _ + 1, [], [], _ => ⟨[], rfl⟩
  | _ + 1, [], _ :: _, h => by simp [Wf] at h
  | _ + 1, _ :: _, [], h => by simp [Wf] at h
  | n + 1, o :: σ, none :: ρ, h => by
    obtain ⟨L, e⟩ := flat_drop (n := n) (σ := σ) (ρ := ρ) h
    exact ⟨L, by rw [flat_none]; exact e⟩
  | n + 1, some v :: σ, some x :: ρ, h => by
    obtain ⟨L, e⟩ := flat_drop (n := n) (σ := σ) (ρ := ρ) h
    exact ⟨(v, x) :: L, by simp only [flat, List.cons_append, List.drop_succ_cons]; rw [e]⟩
  | _ + 1, none :: _, some _ :: _, h => by simp [Wf] at h
theorem flat_rep {n : Nat} {σ : St} {ρ : DEnv} : flat (List.replicate n none ++ σ) (List.replicate n none ++ ρ) = flat σ ρ := by
  induction n with
  | zero => rfl
  | succ n ih => rw [List.replicate_succ, List.replicate_succ, List.cons_append, List.cons_append, flat_none, ih]
theorem wf_rep {n : Nat} {σ : St} {ρ : DEnv} (h : Wf σ ρ) : Wf (List.replicate n none ++ σ) (List.replicate n none ++ ρ) := by
  induction n with
  | zero => exact h
  | succ n ih => rw [List.replicate_succ, List.replicate_succ]; exact ih
/-- the last one on the stack grows -/
theorem Rel.grow {ρ : DEnv} {D : Addr} {out : List PyData} (R : Rel b F σ H ρ (v :: (vs ++ [.ref D])) (.val (.fz d) :: (rs ++ [.val (.lst out)]))) (el : vs.length = rs.length) :
    ∃ ys, H D = some (.lst ys) ∧ ys.length = out.length ∧ Rel b F σ (upd H D (.lst (ys ++ [v]))) ρ (vs ++ [.ref D]) (rs ++ [.val (.lst (out ++ [d]))]) := by
  have R1 := R.drop
  have e1 : stk (vs ++ [.ref D]) (rs ++ [.val (.lst out)]) = stk vs rs ++ [(.ref D, .lst out)] := by rw [stk_app el]; rfl
  have w : Wd b H ((v, .fz d) :: ((stk vs rs ++ [(.ref D, .lst out)]) ++ (flat σ ρ ++ ff F))) := by
    have := R.wd
    simp only [stk] at this
    rw [e1] at this
    exact this
  have w2 : Wd b H ((.ref D, .lst out) :: (v, .fz d) :: (stk vs rs ++ (flat σ ρ ++ ff F))) := w.perm (by
    refine List.Perm.trans (List.Perm.cons _ ?_) (List.Perm.swap _ _ _)
    rw [List.append_assoc]
    exact List.perm_middle)
  obtain ⟨a, ys, ea, hD, hl, _, go⟩ := w2.mut
  cases ea
  refine ⟨ys, hD, hl, R1.wf, ?_, R1.wff, ?_⟩
  · obtain ⟨a1, _⟩ := (al_app el).mp R1.al
    exact (al_app el).mpr ⟨a1, trivial⟩
  · have w3 := go (ys ++ [v]) (out ++ [d]) fun S h1 h2 => h1.append (.cons (h2 v d List.mem_cons_self) .nil)
    have e2 : stk (vs ++ [.ref D]) (rs ++ [.val (.lst (out ++ [d]))]) = stk vs rs ++ [(.ref D, .lst (out ++ [d]))] := by rw [stk_app el]; rfl
    rw [e2]
    refine Wd.drop (v := v) (x := .fz d) (w3.perm ?_)
    refine (List.Perm.swap _ _ _).trans (List.Perm.cons _ ?_)
    rw [List.append_assoc]
    exact List.perm_middle.symm
end
theorem perm_a {α : Type} (A B C T F : List α) : (A ++ (B ++ (C ++ (T ++ F)))).Perm (B ++ (A ++ ((T ++ C) ++ F))) := by
  refine (List.perm_append_comm_assoc A B _).trans (List.Perm.append_left _ (List.Perm.append_left _ ?_))
  rw [← List.append_assoc]
  exact List.perm_append_comm.append_right _
theorem perm_b {α : Type} (x : α) (S L P T C F : List α) : (x :: (S ++ ((L ++ P) ++ ((T ++ C) ++ F)))).Perm ((S ++ L) ++ ((x :: T) ++ (P ++ (C ++ F)))) := by
  have e : x :: (S ++ ((L ++ P) ++ ((T ++ C) ++ F))) = x :: ((S ++ L) ++ (P ++ (T ++ (C ++ F)))) := by simp only [List.append_assoc]
  rw [e]
  refine List.perm_middle.symm.trans (List.Perm.append_left _ ?_)
  exact List.Perm.cons _ (List.perm_append_comm_assoc P T _)
abbrev DC := DEnv → (List PyData → DEnv → Prop) → Prop
def SndC (K : PySem.W.Frag) (tc : TC) (dc : DC) : Prop := ∀ (b : Bs) (F : List Fr) (σ : St) (H : Hp) (ρ : DEnv) (vs : List V) (rs : List OR) (D : Addr) (out : List PyData) (Qd : List PyData → DEnv → Prop) (Q : Hp → Prop), b.K = K → vs.length = rs.length → out.length < 1000000 → Rel b F σ H ρ (vs ++ [.ref D]) (rs ++ [.val (.lst out)]) → dc ρ Qd →
  (∀ H' ρ' o, Rel b F σ H' ρ' (vs ++ [.ref D]) (rs ++ [.val (.lst (out ++ o))]) → o.length ≤ 1 → Qd o ρ' → Q H') → tc D σ H Q
inductive PDc (Y : Cx) (ifs : List Expr) (elt : Expr) (dc : DC) : Prop | mk (tc : TC) (h : ∀ D, PAct Y D ifs elt tc) (s : SndC Y.K tc dc)
section
variable {X Y : Cx} {K : PySem.W.Frag} {a b c e elt iter tg : Expr} {es ifs : List Expr} {da db : DE} {dT : DT} {pos p : Pos} {x : Str}
def dEmit (a : DE) : DC := fun ρ Q => a ρ fun r ρ1 => ∃ d ρ2, frz1 ρ1 r = some (d, ρ2) ∧ Q [d] ρ2
theorem snd_emit {ta : TE} (s : SndE K ta da) : SndC K (cEmit ta) (dEmit da) := fun b F σ H ρ vs rs D out Qd Q hK el hz R h q => s b F σ H ρ _ _ _ _ hK R h fun v H1 r ρ1 R1 ⟨d, ρ2, e, h1⟩ => by
  obtain ⟨ys, hD, hl, R3⟩ := (R1.frz1 e).grow el
  exact ⟨ys, hD, Nat.lt_of_lt_of_le (by omega) (by decide : 1000001 ≤ sizeLine), q _ _ _ R3 (Nat.le_refl _) h1⟩
theorem pdc_plain : PDe Y elt da → PDc Y [] elt (dEmit da)
  | ⟨_, h, s⟩ => ⟨_, fun D => act_plain h, snd_emit s⟩
def dEmitIf (t : DT) (a : DE) : DC := fun ρ Q => t ρ fun k ρ1 => if k = true then dEmit a ρ1 Q else Q [] ρ1
theorem pdc_test : PDt Y c dT → PDe Y elt da → PDc Y [c] elt (dEmitIf dT da)
  | ⟨_, h1, s1⟩, ⟨_, h2, s2⟩ => ⟨_, fun D => act_test h1 h2, fun b F σ H ρ vs rs D out Qd Q hK el hz R h q => s1 b F σ H ρ _ _ _ _ hK R h fun k H1 ρ1 R1 h1 => by
    cases k with
    | true => rw [if_pos rfl] at h1 ⊢; exact snd_emit s2 b F σ H1 ρ1 vs rs D out _ _ hK el hz R1 h1 q
    | false => rw [if_neg Bool.false_ne_true] at h1 ⊢; exact q H1 ρ1 [] (by rw [List.append_nil]; exact R1) (Nat.zero_le _) h1⟩
def dComp (di : DI) (nt : Nat) (fr : List Nat) (g : DG) (act : DC) : DE := fun ρ Q => di ρ fun ds ρ1 => ds.length < 1000000 ∧ ∃ inner ρ2, capt ρ1 fr = some (inner, ρ2) ∧ ∃ Iv : Nat → List PyData → DEnv → Prop, Iv 0 [] (List.replicate nt none ++ inner) ∧
  (∀ k d out ρ, ds[k]? = some d → Iv k out ρ → g (.fz d) ρ fun ρ' => act ρ' fun o ρ'' => Iv (k + 1) (out ++ o) ρ'') ∧ ∀ out ρ, Iv ds.length out ρ → Q (.val (.lst out)) (unca ρ2 fr (ρ.drop nt))
theorem snd_comp {wi : TI} {di : DI} {nt : Nat} {fr : List Nat} {g : CC → TG} {tc : CC → TC} {dg : DG} {dc : DC} (s1 : SndI K wi di) (s2 : ∀ c, SndG K nt (g c) dg) (s3 : ∀ c, SndC K (tc c) dc) : SndE K (tComp wi nt fr g tc) (dComp di nt fr dg dc) := by
  intro b F σ H ρ τ θ Qd Q hK R h q
  refine s1 b F σ H ρ τ θ _ _ hK R h fun J H1 ds ρ1 vs rs el nr R1 it ⟨hds, inner, ρ2, hc, Iv, i0, step, fin⟩ => ?_
  intro cc D hD
  have w1 : Wd b H1 (stk vs rs ++ (flat σ ρ1 ++ (stk τ θ ++ ff F))) := R1.wd.perm (by
    rw [stk_app el, List.append_assoc]
    refine List.Perm.append_left _ ?_
    rw [← List.append_assoc, ← List.append_assoc]
    exact List.perm_append_comm.append_right _)
  obtain ⟨w2, wf2, wf3⟩ := capt_ok w1 R1.wf hc
  have al := (al_app el).mp R1.al
  have w3 := w2.newLst (vs := []) (ds := []) (fun _ _ => .nil) hD
  have R2 : Rel b (⟨σ, ρ2, τ, θ⟩ :: F) (compSt nt fr σ) (upd H1 D (.lst [])) (List.replicate nt none ++ inner) (vs ++ [.ref D]) (rs ++ [.val (.lst [])]) := by
    refine ⟨wf_rep wf3, (al_app el).mpr ⟨nr.al al.1, trivial⟩, fun f hf => ?_, ?_⟩
    · rcases List.mem_cons.mp hf with rfl | hf
      · exact ⟨wf2, al.2⟩
      · exact R1.wff f hf
    · have ec : flat (compSt nt fr σ) (List.replicate nt none ++ inner) = flat (capV σ fr) inner := flat_rep
      rw [ec, stk_app el]
      refine w3.perm ?_
      have ef : ff (⟨σ, ρ2, τ, θ⟩ :: F) = (stk τ θ ++ flat σ ρ2) ++ ff F := rfl
      rw [ef]
      have e0 : stk [V.ref D] [OR.val (.lst [])] = [(V.ref D, OD.lst [])] := rfl
      rw [e0]
      refine List.Perm.trans (List.Perm.cons _ (perm_a (flat (capV σ fr) inner) (stk vs rs) (flat σ ρ2) (stk τ θ) (ff F))) ?_
      rw [List.append_assoc (stk vs rs)]
      exact List.perm_middle.symm
  refine ⟨fun i m σ' H' => m = ds.length - i ∧ i ≤ ds.length ∧ (∀ j, nt ≤ j → σ'[j]? = (compSt nt fr σ)[j]?) ∧ ∃ out ρ', out.length ≤ i ∧ Rel b (⟨σ, ρ2, τ, θ⟩ :: F) σ' H' ρ' (vs ++ [.ref D]) (rs ++ [.val (.lst out)]) ∧ Iv i out ρ', ⟨_, rfl, Nat.zero_le _, fun _ _ => rfl, [], _, Nat.le_refl _, R2, i0⟩, ?_⟩
  rintro i m σ' H' ⟨rfl, hi, hσ, out, ρ', ho, R', iv⟩
  obtain ⟨go, stop⟩ := it _ σ' H' ρ' [.ref D] [.val (.lst out)] R' i
  by_cases hlt : i < ds.length
  · obtain ⟨g1, g2⟩ := go hlt
    refine .inr ⟨g1, fun x H2 hy => ?_⟩
    have ed : ds[i]? = some ds[i] := List.getElem?_eq_getElem hlt
    have nn : NoRf (rs ++ [.val (.lst out)]) := nr.app fun r hr => ⟨_, List.mem_singleton.mp hr⟩
    refine s2 cc b _ σ' H2 ρ' _ _ x _ _ _ hK nn (g2 x H2 _ hy ed) (step i _ out ρ' ed iv) fun σ3 H3 ρ3 R3 k3 h3 => ?_
    exact s3 cc b _ σ3 H3 ρ3 vs rs D out _ _ hK el (by omega) R3 h3 fun H4 ρ4 o R4 lo h4 => ⟨_, by omega, rfl, hlt, fun j hj => (k3 j hj).1.trans (hσ j hj), out ++ o, ρ4, by rw [List.length_append]; omega, R4, h4⟩
  · have e : i = ds.length := by omega
    subst e
    refine .inl ⟨stop rfl, q _ H' _ _ ?_ (fin out ρ' iv)⟩
    have ed : σ'.drop nt = capV σ fr := by
      apply List.ext_getElem?
      intro j
      rw [List.getElem?_drop, hσ _ (by omega)]
      unfold compSt capV
      rw [List.getElem?_append_right (by simp), List.length_replicate, Nat.add_sub_cancel_left]
    have w4 : Wd b H' ((.ref D, .lst out) :: (stk vs rs ++ (flat σ' ρ' ++ ((stk τ θ ++ flat σ ρ2) ++ ff F)))) := R'.wd.perm (by
      rw [stk_app el]
      have e0 : stk [V.ref D] [OR.val (.lst out)] = [(V.ref D, OD.lst out)] := rfl
      rw [e0, List.append_assoc]
      exact List.perm_middle)
    obtain ⟨L0, eL⟩ := flat_drop (n := nt) R'.wf
    rw [eL, ed] at w4
    have w5 : Wd b H' (((.ref D, .lst out) :: stk τ θ) ++ (flat (capV σ fr) (ρ'.drop nt) ++ (flat σ ρ2 ++ ff F))) := by
      refine Wd.drops (L1 := stk vs rs ++ L0) (w4.perm ?_)
      exact perm_b (.ref D, .lst out) (stk vs rs) L0 (flat (capV σ fr) (ρ'.drop nt)) (stk τ θ) (flat σ ρ2) (ff F)
    have wfd : Wf (capV σ fr) (ρ'.drop nt) := ed ▸ R'.wf.drop
    obtain ⟨w6, wf6⟩ := unca_ok w5 wf2 wfd
    exact ⟨wf6, al.2, R1.wff, w6⟩
end
end L2
namespace L2
open PySem PySem.Spec PyProof.Rows
section
variable {X : Cx} {K : PySem.W.Frag} {a b c e elt iter tg : Expr} {es ifs : List Expr} {da db dc' : DE} {dt : DA} {dT : DT} {pos p : Pos} {x : Str} {N : List Str} {nt : Nat} {fr : List Nat} {scope : Scope} {di : DI} {dg : DG} {dc : DC}
theorem PDg.ex {Y : CC → Cx} {m : Nat} {tg : Expr} (hK : ∀ c, (Y c).K = K) (h : ∀ c, PDg (Y c) m tg dg) : ∃ g : CC → TG, ∀ c, PG (Y c) tg (g c) ∧ SndG K m (g c) dg :=
  Classical.axiomOfChoice (r := fun c g => PG (Y c) tg g ∧ SndG K m g dg) fun c => (by obtain ⟨te, h1, s1⟩ := h c; exact ⟨te, h1, hK c ▸ s1⟩)
theorem PDc.ex {Y : CC → Cx} (hK : ∀ c, (Y c).K = K) (h : ∀ c, PDc (Y c) ifs elt dc) : ∃ g : CC → TC, ∀ c, (∀ D, PAct (Y c) D ifs elt (g c)) ∧ SndC K (g c) dc :=
  Classical.axiomOfChoice (r := fun c g => (∀ D, PAct (Y c) D ifs elt g) ∧ SndC K g dc) fun c => (by obtain ⟨te, h1, s1⟩ := h c; exact ⟨te, h1, hK c ▸ s1⟩)
theorem pd_comp (hc : X.calm = true) (S : CompScope N nt fr X.N scope X.env.scope) (hs : ∀ x, foldedSetIterable iter X.env x = pure x := by intro _; rfl) (hi : PDi X tg iter di) (hg : ∀ c : CC, PDg (cxC X N scope c) nt tg dg) (ha : ∀ c : CC, PDc (cxC X N scope c) ifs elt dc) :
    PDe X (.ListComp elt [⟨tg, iter, ifs, 0⟩] scope pos) (dComp di nt fr dg dc) := by
  obtain ⟨wi, h1, s1⟩ := hi
  obtain ⟨g, hg'⟩ := PDg.ex (K := X.K) (Y := fun c => cxC X N scope c) (fun _ => rfl) hg
  obtain ⟨tc, hc'⟩ := PDc.ex (K := X.K) (Y := fun c => cxC X N scope c) (fun _ => rfl) ha
  exact ⟨_, pe_comp hc S h1 (fun c => (hg' c).1) (fun c D => (hc' c).1 D) hs, snd_comp s1 (fun c => (hg' c).2) fun c => (hc' c).2⟩
theorem pds_setC {i : Nat} {y : Str} {py spos : Pos} (hN : X.N.Nodup) (hy : X.N[i]? = some y) (hl : X.env.scope.names.lookup y = some .local) (hc : X.calm = true) (S : CompScope N nt fr X.N scope X.env.scope) (hs : ∀ x, foldedSetIterable iter X.env x = pure x := by intro _; rfl)
    (hsw : swapsWith (.ListComp elt [⟨tg, iter, ifs, 0⟩] scope pos) (some (.Name y py)) spos.line X.env = pure true := by rfl)
    (hi : PDi X tg iter di) (hg : ∀ c : CC, PDg (cxC X N scope c) nt tg dg) (ha : ∀ c : CC, PDc (cxC X N scope c) ifs elt dc) : PDs X (.Assign [.Name y py] (.ListComp elt [⟨tg, iter, ifs, 0⟩] scope pos) spos) (dSet i (dComp di nt fr dg dc)) := by
  obtain ⟨wi, h1, s1⟩ := hi
  obtain ⟨g, hg'⟩ := PDg.ex (K := X.K) (Y := fun c => cxC X N scope c) (fun _ => rfl) hg
  obtain ⟨tc, hc'⟩ := PDc.ex (K := X.K) (Y := fun c => cxC X N scope c) (fun _ => rfl) ha
  refine ⟨_, ps_setC hN hy hl hc S h1 (fun c => (hg' c).1) (fun c D => (hc' c).1 D) hs hsw, fun b F σ H ρ τ θ Dd D hK n R h E => ?_⟩
  exact snd_comp s1 (fun c => (hg' c).2) (fun c => (hc' c).2) b F σ H ρ τ θ _ _ hK R h fun v H1 r ρ1 R1 ⟨x, ρ2, e, hi, h1⟩ => E.nx _ H1 _ ((R1.own1 e).store n hi) h1
end
/-! ### lists that are changed -/
section
variable {b : Bs} {F : List Fr} {σ σ' : St} {H H' : Hp} {ρ ρ' : DEnv} {τ vs : List V} {θ rs : List OR} {v u : V} {x y : OD} {d : PyData} {ds ds' : List PyData} {i j : Nat} {L : List (V × OD)}
/-- the list in slot i -/
theorem Rel.mutS (R : Rel b F σ H ρ τ θ) (e : ρ[i]?.join = some (.lst ds)) : ∃ a vs, σ[i]? = some (some (.ref a)) ∧ H a = some (.lst vs) ∧ vs.length = ds.length ∧
    ∀ vs' ds', (∀ S, FzA b.K S H vs ds → FrzIn b S H (stk τ θ ++ (flat σ (ρ.set i none) ++ ff F)) → FzA b.K S H vs' ds') → Rel b F σ (upd H a (.lst vs')) (ρ.set i (some (.lst ds'))) τ θ := by
  obtain ⟨v, ev, w⟩ := R.slot (join_some e)
  obtain ⟨a, vs, rfl, hH, hl, _, go⟩ := w.mut
  exact ⟨a, vs, ev, hH, hl, fun vs' ds' h => Rel.back R.wf R.al R.wff ev (go vs' ds' h)⟩
end
section
variable {X : Cx} {K : PySem.W.Frag} {a b c e o : Expr} {es : List Expr} {da db : DE} {dt : DA} {dT : DT} {pos p apos cpos : Pos} {x : Str} {i : Nat}
/-- xs.append(e), xs in slot i -/
def dApp (i : Nat) (a : DE) : DS := fun D ρ => (∃ ds, ρ[i]?.join = some (.lst ds)) ∧ a ρ fun r ρ1 => ∃ d ρ2 ds, frz1 ρ1 r = some (d, ρ2) ∧ ρ2[i]?.join = some (.lst ds) ∧ ds.length < 1000000 ∧ D.nx (ρ2.set i (some (.lst (ds ++ [d]))))
theorem pds_app {pos' : Pos} (hN : X.N[i]? = some x) (hv : Vis X.env.scope x) (hd : (x == ("__debug__" : Str)) = false := by decide) (hcd : (x == ("__classdict__" : Str)) = false := by decide)
    (hbase : attributeBase (.Name x pos') "append" X.env (eval (.Name x pos') X.env) = eval (.Name x pos') X.env := by rfl)
    (hfew : ((backTo cpos (starEach [e] X.env)).all (fun x => !x.1) && (backToKw cpos (keywordEach [] X.env)).all (fun x => x.1.isSome)
      && decide ([e].length + ([] : List Keyword).length + (if ([] : List Keyword).isEmpty then 0 else 1) < 30)) = true := by rfl)
    (hline : (apos.endLine == cpos.line) = true := by rfl) (hs : starEach [e] X.env = (false, eval e X.env) :: starEach [] X.env := by rfl) (hplain : (backTo cpos (starEach [] X.env)).any (·.1) = false := by rfl)
    (hsw : swapsWith (.Call (.Attribute (.Name x pos') "append" apos) [e] [] cpos) none pos.line X.env = pure false := by rfl) : PDe X e da → PDs X (.Expr (.Call (.Attribute (.Name x pos') "append" apos) [e] [] cpos) pos) (dApp i da)
  | ⟨_, h, s⟩ => ⟨_, ps_expr (pe_bm PySem.F.plainAttrs_list PySem.F.slot_list_append PySem.F.type_list_append mt_append (pe_var hN hv hd hcd) (pa_cons h pa_nil hs) hbase hfew hline hs hplain) hsw, fun b F σ H ρ τ θ Dd D hK n R ⟨⟨ds0, e0⟩, h⟩ E => by
    obtain ⟨a0, vs0, ev, h0, _, _⟩ := R.mutS e0
    refine ⟨.ref a0, ev, .inl ⟨rfl, vs0, SqL.of h0⟩, ?_⟩
    refine s b F σ H ρ τ θ _ _ hK R h fun v H1 r ρ1 R1 ⟨d, ρ2, ds, e1, e2, hz, h1⟩ => ?_
    have R2 := R1.frz1 e1
    obtain ⟨a, vs, ev', hH, hl, go⟩ := R2.mutS e2
    rw [ev] at ev'
    cases ev'
    refine ⟨a0, vs, v, rfl, rfl, hH, Nat.lt_of_lt_of_le (by omega) (by decide : 1000001 ≤ sizeLine), ?_⟩
    exact E.nx σ _ _ (Rel.drop (go (vs ++ [v]) (ds ++ [d]) fun S h1 h2 => h1.append (.cons (h2 v d (by simp [stk])) .nil))) h1⟩
end
/-! ### defs -/
def tpN : Option Int → Nat
  | none => 0
  | some _ => 1
def startD (N : Nat) (p : Addr) (t : Option Int) (ds : List PyData) : DEnv := (match t with | none => [] | some n => [some (OD.tape p n)]) ++ ds.map (fun d => some (.fz d)) ++ List.replicate (N - (tpN t + ds.length)) none
def endD (p : Addr) (t : Option Int) (Q : OD → Int → Prop) (x : OD) (ρ : DEnv) : Prop := match t with
  | none => Q x 0
  | some _ => ∃ m, ρ[0]?.join = some (.tape p m) ∧ Q x m
section
variable {P : Program} {w : World} {K : PySem.W.Frag} {mg : Str → Option Value} {base : Heap}
theorem flat_map_none : ∀ {vs : List V} {n : Nat} {ρ : DEnv}, flat (vs.map some ++ List.replicate n none) ρ = flat (vs.map some) ρ
  | [], 0, _ => rfl
  | [], n + 1, [] => rfl
  | [], n + 1, o :: ρ => by
    rw [List.map_nil, List.nil_append, List.replicate_succ]
    have : flat (none :: List.replicate n none) (o :: ρ) = flat (List.replicate n none) ρ := by cases o <;> rfl
    rw [this]
    have := flat_map_none (vs := []) (n := n) (ρ := ρ)
    simpa [flat] using this
  | v :: vs, n, [] => by simp [flat]
  | v :: vs, n, none :: ρ => by
    simp only [List.map_cons, List.cons_append, flat_none]
    exact flat_map_none
  | v :: vs, n, some x :: ρ => by
    simp only [List.map_cons, List.cons_append, flat]
    rw [flat_map_none]
theorem flat_somes : ∀ {vs : List V} {xs : List OD} {k : Nat}, vs.length = xs.length → flat (vs.map some) (xs.map some ++ List.replicate k none) = vs.zip xs
  | [], [], 0, _ => rfl
  | [], [], _ + 1, _ => rfl
  | v :: vs, x :: xs, k, e => by
    simp only [List.map_cons, List.cons_append, flat, List.zip_cons_cons]
    rw [flat_somes (by simpa using e)]
  | [], _ :: _, _, e => by simp at e
  | _ :: _, [], _, e => by simp at e
theorem wf_start : ∀ {vs : List V} {xs : List OD} {k : Nat}, vs.length = xs.length → Wf (vs.map some ++ List.replicate k none) (xs.map some ++ List.replicate k none)
  | [], [], 0, _ => trivial
  | [], [], k + 1, _ => by
    have := wf_start (vs := []) (xs := []) (k := k) rfl
    exact this
  | v :: vs, x :: xs, k, e => wf_start (vs := vs) (xs := xs) (k := k) (by simpa using e)
  | [], _ :: _, _, e => by simp at e
  | _ :: _, [], _, e => by simp at e
theorem startD_eq (N : Nat) (p : Addr) (t : Option Int) (ds : List PyData) : ∃ xs : List OD, startD N p t ds = xs.map some ++ List.replicate (N - xs.length) none ∧ xs = (match t with | none => [] | some n => [OD.tape p n]) ++ ds.map OD.fz := by
  refine ⟨_, ?_, rfl⟩
  unfold startD
  cases t <;> simp [tpN, Nat.add_comm]
/-- THE RULE for a def -/
theorem Fun.okD {x qual : Str} {st : Stmt} {f : Addr} {fd : FuncData} {N ps : List Str} {k : Nat} {sp : DSp} (F : Fun K x qual st f fd) (S : FnScope N ps (defScope st)) (mono : Mono sp) (len : ∀ t ds Q, sp t ds Q → tpN t + ds.length = ps.length)
    (hbody : ∀ (cdv : Value) (A : Around) (outer : List Env) (s : Shared) (H : Hp) (E : XK), Room k (A.deeper (envOfC qual (defScope st) s.heap.objs.size f cdv)) → ∀ (p : Addr) (t : Option Int) (ds : List PyData) (Q : OD → Int → Prop), sp t ds Q →
      ∃ db, PDss (cxOf CX0 P w K mg base N qual (defScope st) f cdv A outer s H E).nox (defBody st) db ∧ db { nx := endD p t Q (.fz .none), rt := endD p t Q } (startD N.length p t ds)) : FnD P w K mg base (k + 1) f fd ps sp := by
  refine ⟨F.ok S (fun vs H Q E h => ?_) (fun cdv A outer s H vs Q E hr h => ?_), mono⟩
  · obtain ⟨S, tp, us, ds, rfl, _, _, hf, _, h⟩ := h
    have := len _ _ _ h
    rw [← this, hf.length.symm]
    cases tp with
    | none => simp [tpV, tpN]
    | some z => obtain ⟨p, n⟩ := z; simp [tpV, tpN, Nat.add_comm]
  · obtain ⟨S, tp, us, ds, rfl, al, nt, hf, hT, h⟩ := h
    have ul := hf.length
    obtain ⟨p, hp⟩ : ∃ p : Addr, ∀ q n, tp = some (q, n) → q = p := by
      cases tp with
      | none => exact ⟨0, fun q n e => by cases e⟩
      | some z => exact ⟨z.1, fun q n e => by cases e; rfl⟩
    obtain ⟨db, ⟨ts, h1, s1⟩, hd⟩ := hbody cdv A outer s H E hr p (tp.map (·.2)) ds _ h
    refine ⟨ts, h1, ?_⟩
    obtain ⟨xs, ex, ex2⟩ := startD_eq N.length p (tp.map (·.2)) ds
    let b : Bs := ⟨K, H, S, fun a => ∃ n, tp = some (a, n)⟩
    have el : (tpV tp us).length = xs.length := by
      rw [ex2]
      cases tp with
      | none => simpa [tpV] using ul
      | some z => obtain ⟨q, n⟩ := z; simpa [tpV, Nat.add_comm] using ul
    have w0 : Wd b H ((tpV tp us).zip xs ++ []) := by
      rw [ex2]
      have fz : ∀ {A : List Addr}, (∀ a ∈ A, S a) → OwL b (fun a => a ∈ A ∨ b.S0 a) H (us.zip (ds.map OD.fz)) [] := fun {A} hA => by
        have hf' : FzA K (fun a => a ∈ A ∨ S a) H us ds := hf.sub fun a z => z.elim (hA a) id
        clear hf ul hd h ex ex2 el
        induction us generalizing ds with
        | nil => cases hf'; exact .nil
        | cons v vs ih => cases hf' with | cons r t => exact .cons (A := []) ⟨rfl, r⟩ (ih _ t)
      cases tp with
      | none => exact ⟨⟨[], by simpa [tpV] using fz (A := []) (fun a z => by cases z), List.nodup_nil, fun a z => by cases z⟩, Kp.refl _ _, al, fun a ⟨n, e⟩ => (by cases e), nt⟩
      | some z =>
        obtain ⟨q, n⟩ := z
        obtain ⟨hq, sq⟩ := hT q n rfl
        have eq : q = p := hp q n rfl
        subst eq
        refine ⟨⟨[q], ?_, by simp, fun a z => .inr ⟨n, by rw [List.mem_singleton.mp z]⟩⟩, Kp.refl _ _, al, fun a ⟨m, e⟩ => by cases e; exact sq, nt⟩
        have := OwL.cons (b := b) (S := fun a => a ∈ [q] ∨ b.S0 a) (H := H) (v := .ref q) (x := .tape q n) (A := [q]) ⟨rfl, rfl, hq⟩ (fz (A := [q]) fun a z => by rw [List.mem_singleton.mp z]; exact sq)
        simpa [tpV] using this
    have R : Rel b [] (start N (tpV tp us)) H (startD N.length p (tp.map (·.2)) ds) [] [] := by
      rw [ex]
      unfold start
      refine ⟨by rw [el]; exact wf_start el, trivial, fun f hf => (by cases hf), ?_⟩
      show Wd b H ([] ++ (flat _ _ ++ []))
      rw [List.nil_append, flat_map_none, flat_somes el]
      exact w0
    have fin : ∀ (σ' : St) (H' : Hp) (ρ' : DEnv) (v : V) (x : OD), Rel b [] σ' H' ρ' [v] [.val x] → endD p (tp.map (·.2)) (Ans K S tp H Q) x ρ' → Q v H' := fun σ' H' ρ' v x R' he => by
      have w' : Wd b H' ((v, x) :: (flat σ' ρ' ++ [])) := R'.wd
      have hans : ∃ m, Ans K S tp H Q x m ∧ ∀ q n, tp = some (q, n) → Tape H' q m := by
        cases tp with
        | none => exact ⟨0, he, fun q n e => by cases e⟩
        | some z =>
          obtain ⟨m, e0, he⟩ := he
          refine ⟨m, he, fun q n e => ?_⟩
          have eq := hp q n e
          subst eq
          obtain ⟨u, eu, wu⟩ := (Rel.drop R').slot (join_some e0)
          obtain ⟨_, _, ⟨_, _, hT'⟩, _⟩ := wu.head
          exact hT'
      obtain ⟨m, ha, hTm⟩ := hans
      obtain ⟨A0, h0, nd, new⟩ := w'.out
      have nt' := w'.nt' h0
      cases h0 with
      | @cons _ _ A1 _ A2 r t =>
        by_cases htp : ∃ q n, x = .tape q n
        · obtain ⟨q, n, rfl⟩ := htp
          obtain ⟨rfl, rfl, hT1⟩ := r
          refine ha _ H' [q] w'.fr (fun p n e => hTm p n e) ⟨rfl, rfl, hT1⟩ (by simp) fun a haa => ?_
          rw [List.mem_singleton.mp haa]
          rcases new q (by simp) with z | z
          · exact z
          · exfalso
            obtain ⟨n', e'⟩ := z
            cases tp with
            | none => cases e'
            | some z =>
              cases e'
              obtain ⟨m', e0, he⟩ := he
              obtain ⟨u, eu, wu⟩ := (Rel.drop R').slot (join_some e0)
              have eq := hp q n' rfl
              subst eq
              have wB : Wd b H' ((.ref q, .tape q n) :: (u, .tape q m') :: (flat σ' (ρ'.set 0 none) ++ [])) := w'.perm (List.Perm.cons _ (by
                have := (flat_pick (join_some e0) eu)
                simpa using this))
              obtain ⟨A3, h3, nd3, _⟩ := wB.out
              cases h3 with
              | cons r1 t1 =>
                cases t1 with
                | cons r2 t2 =>
                  obtain ⟨_, rfl, _⟩ := r1
                  obtain ⟨_, rfl, _⟩ := r2
                  simp at nd3
        · have hx : ∀ q n, x ≠ .tape q n := fun q n e => htp ⟨q, n, e⟩
          refine ha _ H' A1 w'.fr hTm (r.step (Kp.refl _ _) (fun c z => .inl (z.imp (List.mem_append_left _) id)) nt' fun _ _ => rfl) (List.nodup_append.mp nd).1 (r.h0 hx)
    refine s1 b [] (start N (tpV tp us)) H _ [] [] _ _ rfl (fun r hr => by cases hr) R hd ⟨fun σ' H' ρ' R' h' => ?_, fun _ _ _ _ h' => h'.elim, fun _ _ _ _ h' => h'.elim, fin⟩
    exact fin σ' H' ρ' .non _ (R'.sc .non) h'
end
end L2
namespace L2
open PySem PySem.Spec PyProof.Rows
/-! ### readings over data, step by step -/
section
variable {ρ : DEnv} {Q : DK} {D : DEnds} {i j k : Int} {n m : Nat} {a b c : DE} {t u : DT} {s1 s2 : DS} {da : DA} {x y : OD} {d : PyData} {K : PyData → Prop} {QT : Bool → DEnv → Prop} {sp : DSp}
theorem w_seq (h : s1 { D with nx := s2 D } ρ) : dSeq s1 s2 D ρ := ⟨_, fun _ h => h, h⟩
theorem w_cut (M : DEnv → Prop) (h1 : s1 { D with nx := M } ρ) (h2 : ∀ ρ', M ρ' → s2 D ρ') : dSeq s1 s2 D ρ := ⟨M, h2, h1⟩
theorem w_next (h : D.nx ρ) : dNext D ρ := h
theorem w_gname {R : DEnv → Prop} (h1 : n < ρ.length) (h : R (ρ.set n (some x))) : dgName n x ρ R := ⟨h1, h⟩
theorem w_gnil {R : DEnv → Prop} (h : R ρ) : dgNil [] ρ R := ⟨rfl, h⟩
theorem w_gcons {g : DG} {gs : DGs} {xs : List OD} {R : DEnv → Prop} (h : g x ρ fun ρ' => gs xs ρ' R) : dgCons g gs (x :: xs) ρ R := ⟨x, xs, rfl, h⟩
theorem w_gtup {gs : DGs} {xs : List OD} {R : DEnv → Prop} (e : unpT x = some xs) (l : xs.length = n) (h : gs xs ρ R) : dgTup n gs x ρ R := ⟨xs, e, l, h⟩
theorem w_varF (e : ρ[n]?.join = some (.fz d)) (h : Q (.val (.fz d)) ρ) : dVar n ρ Q := by unfold dVar; rw [e]; exact h
def notFz : OD → Prop | .fz _ => False | _ => True
theorem w_varR (e : ρ[n]?.join = some x) (nf : notFz x) (h : Q (.rf n) ρ) : dVar n ρ Q := by
  unfold dVar; rw [e]
  cases x with
  | fz d => exact nf.elim
  | _ => exact h
theorem w_c (h : Q (.val (.fz d)) ρ) : dC d ρ Q := h
theorem w_op {r : DR2} (h : a ρ fun x ρ1 => b ρ1 fun y ρ2 => ∃ dx dy, datR ρ2 x = some dx ∧ datR ρ2 y = some dy ∧ r dx dy fun d => Q (.val (.fz d)) ρ2) : dOp2 r a b ρ Q := h
theorem k_I0 {g : Int → Int → PyData} (h : K (g i j)) : dI0 g (.int i) (.int j) K := ⟨i, j, rfl, rfl, h⟩
theorem k_I {C : Int → Int → Prop} {g : Int → Int → PyData} (c : C i j) (h : K (g i j)) : dI C g (.int i) (.int j) K := ⟨i, j, rfl, rfl, c, h⟩
theorem k_eqI (h : K (.bool (decide (i = j)))) : dEqS (.int i) (.int j) K := ⟨_, rfl, h⟩
theorem k_eqS {p q : Str} (h : K (.bool (decide (p = q)))) : dEqS (.str p) (.str q) K := ⟨_, rfl, h⟩
theorem k_neS {p q : Str} (h : K (.bool (!decide (p = q)))) : dNeS (.str p) (.str q) K := ⟨_, rfl, h⟩
theorem k_inL {neg r : Bool} {ds : List PyData} (f : flD d = true) (e : memD d ds = some r) (h : K (.bool (if neg then !r else r))) : dIn neg d (.list ds) K := ⟨ds, r, .inl rfl, f, e, h⟩
theorem k_inT {neg r : Bool} {ds : List PyData} (f : flD d = true) (e : memD d ds = some r) (h : K (.bool (if neg then !r else r))) : dIn neg d (.tuple ds) K := ⟨ds, r, .inr rfl, f, e, h⟩
theorem w_un {r : DR1} (h : a ρ fun x ρ1 => ∃ d, datR ρ1 x = some d ∧ r d fun z => Q (.val (.fz z)) ρ1) : dUn r a ρ Q := h
theorem k_neg (h : K (.int (-i))) : dNeg (.int i) K := ⟨i, rfl, h⟩
theorem w_andV (h : a ρ fun x ρ1 => ∃ k, datR ρ1 x = some (.bool k) ∧ if k = true then b ρ1 Q else Q (.val (.fz (.bool false))) ρ1) : dAndV a b ρ Q := h
theorem w_orV (h : a ρ fun x ρ1 => ∃ k, datR ρ1 x = some (.bool k) ∧ if k = true then Q (.val (.fz (.bool true))) ρ1 else b ρ1 Q) : dOrV a b ρ Q := h
theorem w_test (h : a ρ fun x ρ1 => ∃ k, datR ρ1 x = some (.bool k) ∧ QT k ρ1) : dTest a ρ QT := h
theorem w_tru (h : a ρ fun x ρ1 => ∃ d k, datR ρ1 x = some d ∧ truD d = some k ∧ QT k ρ1) : dTru a ρ QT := h
theorem w_andT (h : t ρ fun c ρ1 => if c = true then u ρ1 QT else QT false ρ1) : dAndT t u ρ QT := h
theorem w_orT (h : t ρ fun c ρ1 => if c = true then QT true ρ1 else u ρ1 QT) : dOrT t u ρ QT := h
theorem w_notT (h : t ρ fun c ρ1 => QT (!c) ρ1) : dNotT t ρ QT := h
theorem w_if (h : t ρ fun c ρ1 => if c = true then a ρ1 Q else b ρ1 Q) : dIf t a b ρ Q := h
theorem w_nil {R : List OR → DEnv → Prop} (h : R [] ρ) : dNil ρ R := h
theorem w_cons {R : List OR → DEnv → Prop} (h : a ρ fun x ρ1 => da ρ1 fun xs ρ2 => R (x :: xs) ρ2) : dCons a da ρ R := h
theorem w_tup {f : DEnv → OR → Option (OD × DEnv)} (h : da ρ fun rs ρ1 => ∃ xs ρ2 y, mapR f ρ1 rs = some (xs, ρ2) ∧ mkTup xs = some y ∧ rs.length ≤ 1000000 ∧ Q (.val y) ρ2) : dTup f da ρ Q := h
theorem w_lst {f : DEnv → OR → Option (OD × DEnv)} (h : da ρ fun rs ρ1 => ∃ xs ρ2 y, mapR f ρ1 rs = some (xs, ρ2) ∧ mkLst xs = some y ∧ rs.length ≤ 1000000 ∧ Q (.val y) ρ2) : dLst f da ρ Q := h
theorem w_ix (h : a ρ fun x ρ1 => b ρ1 fun y ρ2 => ∃ i z ρ3, datR ρ2 y = some (.int i) ∧ itemR ρ2 x i = some (z, ρ3) ∧ Q (.val z) ρ3) : dIx a b ρ Q := h
theorem w_call (h : da ρ fun rs ρ1 => ∃ ds ρ2, frzL ρ1 rs = some (ds, ρ2) ∧ sp none ds fun x _ => Q (.val x) ρ2) : dCall sp da ρ Q := h
theorem w_callT (e : (ρ[n]?.join).isSome = true) (h : da ρ fun rs ρ1 => ∃ ds ρ2 p k, frzL ρ1 rs = some (ds, ρ2) ∧ ρ2[n]?.join = some (.tape p k) ∧ sp (some k) ds fun x m => Q (.val x) (ρ2.set n (some (.tape p m)))) : dCallT sp n da ρ Q := ⟨e, h⟩
theorem w_callB (h : da ρ fun rs ρ1 => ∃ ds, datL ρ1 rs = some ds ∧ sp none ds fun x _ => ∃ d, x = .fz d ∧ scD d = true ∧ Q (.val (.fz d)) ρ1) : dCallB sp da ρ Q := h
theorem w_cb {r : DRn} (h : da ρ fun rs ρ1 => ∃ ds, datL ρ1 rs = some ds ∧ r ds fun d => Q (.val (.fz d)) ρ1) : dCB r da ρ Q := h
theorem k_len (e : lenD d = some n) (h : K (.int n)) : dLen [d] K := ⟨d, n, rfl, e, h⟩
theorem k_abs (h : K (.int (if i < 0 then -i else i))) : dAbs [.int i] K := ⟨i, rfl, h⟩
theorem k_max (h : K (.int (if j > i then j else i))) : dMax [.int i, .int j] K := ⟨i, j, rfl, h⟩
theorem k_min (h : K (.int (if j < i then j else i))) : dMin [.int i, .int j] K := ⟨i, j, rfl, h⟩
theorem k_int (e : toInt d = some i) (h : K (.int i)) : dInt [d] K := ⟨d, i, rfl, e, h⟩
theorem w_listOf (h : da ρ fun rs ρ1 => ∃ r ds, rs = [r] ∧ (contR ρ1 r).bind seqOf = some ds ∧ Q (.val (.lst ds)) ρ1) : dListOf da ρ Q := h
theorem w_cat (h : a ρ fun x ρ1 => b ρ1 fun y ρ2 => ∃ ds es, lsR ρ2 x = some ds ∧ lsR ρ2 y = some es ∧ ds.length + es.length ≤ 1000000 ∧ Q (.val (.lst (ds ++ es))) ρ2) : dCat a b ρ Q := h
theorem w_rng1 {R : List PyData → DEnv → Prop} (h : da ρ fun rs ρ1 => ∃ j, datL ρ1 rs = some [.int j] ∧ -(2 ^ 62) ≤ j ∧ j < 2 ^ 62 ∧ R (rngD 0 j.toNat) ρ1) : dRng1 da ρ R := h
theorem w_itL {R : List PyData → DEnv → Prop} (h : a ρ fun r ρ1 => ∃ ds ρ2, frz1 ρ1 r = some (.list ds, ρ2) ∧ R ds ρ2) : dItL a ρ R := h
theorem w_itT {R : List PyData → DEnv → Prop} (h : a ρ fun r ρ1 => ∃ ds ρ2, frz1 ρ1 r = some (.tuple ds, ρ2) ∧ R ds ρ2) : dItT a ρ R := h
theorem w_enum {R : List PyData → DEnv → Prop} (h : da ρ fun rs ρ1 => ∃ ds ρ2, frzL ρ1 rs = some ([.list ds], ρ2) ∧ R (enumD ds) ρ2) : dEnum da ρ R := h
theorem w_emit {R : List PyData → DEnv → Prop} (h : a ρ fun r ρ1 => ∃ d ρ2, frz1 ρ1 r = some (d, ρ2) ∧ R [d] ρ2) : dEmit a ρ R := h
theorem w_emitIf {R : List PyData → DEnv → Prop} (h : t ρ fun k ρ1 => if k = true then dEmit a ρ1 R else R [] ρ1) : dEmitIf t a ρ R := h
theorem lt_rfl {n m : Nat} (h : Nat.ble (n + 1) m = true) : n < m := Nat.le_of_ble_eq_true h
theorem le_rfl' {n m : Nat} (h : Nat.ble n m = true) : n ≤ m := Nat.le_of_ble_eq_true h
theorem all_lt_nil {m : Nat} : ∀ i ∈ ([] : List Nat), i < m := fun _ h => by cases h
theorem all_lt_cons {m j : Nat} {is : List Nat} (h : j < m) (t : ∀ i ∈ is, i < m) : ∀ i ∈ (j :: is), i < m := fun i hi => (List.mem_cons.mp hi).elim (fun e => e ▸ h) (t i)
theorem pdv {X : Cx} (i : Nat) {x : Str} {pos : Pos} (hN : X.N[i]? = some x := by rfl) (hv : Vis X.env.scope x := by first | exact Or.inl rfl | exact Or.inr (Or.inl rfl) | exact Or.inr (Or.inr rfl)) (hd : (x == ("__debug__" : Str)) = false := by decide)
    (hcd : (x == ("__classdict__" : Str)) = false := by decide) : PDe X (.Name x pos) (dVar i) := pd_var hN hv hd hcd
end
end L2
namespace L2
open PySem PySem.Spec PyProof.Rows
section
variable {α : Type}
/-- a def without a tape: what it is given, where, and what it tells -/
def mkP (args : α → List PyData) (pre : α → Prop) (f : α → OD) : DSp := fun t ds Q => ∃ a, t = none ∧ ds = args a ∧ pre a ∧ Q (f a) 0
/-- a def with a tape, which it asks at most so often -/
def mkT (args : α → List PyData) (pre : α → Prop) (cost : α → Int) (post : α → OD → Prop) : DSp := fun t ds Q => ∃ a n, t = some n ∧ ds = args a ∧ pre a ∧ n + cost a ≤ 500000000 ∧ ∀ x m, post a x → n ≤ m → m ≤ n + cost a → Q x m
variable {args : α → List PyData} {pre : α → Prop} {f : α → OD} {post : α → OD → Prop} {cost : α → Int}
theorem mkP_mono : Mono (mkP args pre f) := fun t ds P R h ⟨a, e1, e2, e3, q⟩ => ⟨a, e1, e2, e3, h _ _ q⟩
theorem mkT_mono : Mono (mkT args pre cost post) := fun t ds P R h ⟨a, n, e1, e2, e3, e4, q⟩ => ⟨a, n, e1, e2, e3, e4, fun x m hx h1 h2 => h _ _ (q x m hx h1 h2)⟩
variable {P : Program} {w : World} {K : PySem.W.Frag} {mg : Str → Option Value} {base : Heap} {x qual : Str} {st : Stmt} {fa : Addr} {fd : FuncData} {N ps : List Str} {k : Nat}
theorem Fun.okP (F : Fun K x qual st fa fd) (S : FnScope N ps (defScope st)) (len : ∀ a, (args a).length = ps.length)
    (hbody : ∀ (cdv : Value) (A : Around) (outer : List Env) (s : Shared) (H : Hp) (E : XK), Room k (A.deeper (envOfC qual (defScope st) s.heap.objs.size fa cdv)) → ∀ a, pre a → ∀ Q : OD → Prop, Q (f a) →
      ∃ db, PDss (cxOf CX0 P w K mg base N qual (defScope st) fa cdv A outer s H E).nox (defBody st) db ∧ db { nx := fun _ => Q (.fz .none), rt := fun x _ => Q x } ((args a).map (fun d => some (.fz d)) ++ List.replicate (N.length - (args a).length) none)) : FnD P w K mg base (k + 1) fa fd ps (mkP args pre f) := by
  refine F.okD S mkP_mono (fun t ds Q ⟨a, e1, e2, _⟩ => by rw [e1, e2, ← len a]; simp [tpN]) fun cdv A outer s H E hr p t ds Q ⟨a, e1, e2, e3, q⟩ => ?_
  subst e1 e2
  obtain ⟨db, h1, h2⟩ := hbody cdv A outer s H E hr a e3 (fun x => Q x 0) q
  refine ⟨db, h1, ?_⟩
  have e : startD N.length p none (args a) = (args a).map (fun d => some (.fz d)) ++ List.replicate (N.length - (args a).length) none := by unfold startD; simp [tpN]
  rw [e]
  exact h2
theorem Fun.okT (F : Fun K x qual st fa fd) (S : FnScope N ps (defScope st)) (len : ∀ a, (args a).length + 1 = ps.length)
    (hbody : ∀ (cdv : Value) (A : Around) (outer : List Env) (s : Shared) (H : Hp) (E : XK), Room k (A.deeper (envOfC qual (defScope st) s.heap.objs.size fa cdv)) → ∀ (p : Addr) a n, pre a → n + cost a ≤ 500000000 → ∀ Q : OD → DEnv → Prop, (∀ x ρ m, ρ[0]?.join = some (.tape p m) → post a x → n ≤ m → m ≤ n + cost a → Q x ρ) →
      ∃ db, PDss (cxOf CX0 P w K mg base N qual (defScope st) fa cdv A outer s H E).nox (defBody st) db ∧ db { nx := fun ρ => Q (.fz .none) ρ, rt := Q } (some (.tape p n) :: ((args a).map (fun d => some (.fz d)) ++ List.replicate (N.length - (1 + (args a).length)) none))) : FnD P w K mg base (k + 1) fa fd ps (mkT args pre cost post) := by
  refine F.okD S mkT_mono (fun t ds Q ⟨a, n, e1, e2, _⟩ => by rw [e1, e2, ← len a]; simp [tpN, Nat.add_comm]) fun cdv A outer s H E hr p t ds Q ⟨a, n, e1, e2, e3, e4, q⟩ => ?_
  subst e1 e2
  obtain ⟨db, h1, h2⟩ := hbody cdv A outer s H E hr p a n e3 e4 (endD p (some n) Q) fun x ρ m e hp h1 h2 => ⟨m, e, q x m hp h1 h2⟩
  refine ⟨db, h1, ?_⟩
  have e : startD N.length p (some n) (args a) = some (.tape p n) :: ((args a).map (fun d => some (.fz d)) ++ List.replicate (N.length - (1 + (args a).length)) none) := by unfold startD; simp [tpN]
  rw [e]
  exact h2
end
end L2
namespace L2
open PySem PySem.Spec PyProof.Rows
/-! ### dicts over data -/
def keyD : PyData → Option Key
  | .int i => some (.inl i)
  | .str s => some (.inr s)
  | _ => none
def valD (kvs : List (Key × PyData)) (k : Key) : Option PyData := (kvs.find? fun kv => decide (kv.1 = k)).map (·.2)
def putD (kvs : List (Key × PyData)) (k : Key) (v : PyData) : List (Key × PyData) :=
  if (kvs.any fun kv => decide (kv.1 = k)) = true then kvs.map (fun kv => if kv.1 = k then (kv.1, v) else kv) else kvs ++ [(k, v)]
abbrev DicIs (K : PySem.W.Frag) (S : Addr → Prop) (H : Hp) : List (Key × V) → List (Key × PyData) → Prop := Paired (fun (p : Key × V) (q : Key × PyData) => p.1 = q.1 ∧ Fz K S H p.2 q.2)
section
variable {K : PySem.W.Frag} {S : Addr → Prop} {H : Hp}
theorem keyD_kV {v : V} {d : PyData} {k : Key} (h : Dt K H v d) (e : keyD d = some k) : v = kV k := by
  cases h <;> simp only [keyD] at e <;> cases e <;> rfl
theorem DicIs.val (k : Key) : ∀ {ws : List (Key × V)} {kvs : List (Key × PyData)}, DicIs K S H ws kvs → (∀ d, valD kvs k = some d → ∃ u, valV ws k = some u ∧ Fz K S H u d) ∧ (valD kvs k = none → valV ws k = none)
  | _, _, .nil => ⟨fun d e => by simp [valD] at e, fun _ => rfl⟩
  | _, _, .cons (a := p) (b := q) ⟨e, f⟩ t => by
    obtain ⟨h1, h2⟩ := DicIs.val k t
    by_cases hk : p.1 = k
    · have hq : q.1 = k := e ▸ hk
      refine ⟨fun d hd => ?_, fun hn => ?_⟩
      · have hp : ∀ r, valD (q :: r) k = some q.2 := fun r => by simp [valD, List.find?_cons, hq]
        rw [hp] at hd
        cases hd
        exact ⟨p.2, valV_pos hk, f⟩
      · simp [valD, List.find?_cons, hq] at hn
    · have hq : ¬ q.1 = k := e ▸ hk
      have ev : ∀ r, valD (q :: r) k = valD r k := fun r => by simp [valD, List.find?_cons, hq]
      rw [ev, valV_neg hk]
      exact ⟨h1, h2⟩
theorem DicIs.any (k : Key) : ∀ {ws : List (Key × V)} {kvs : List (Key × PyData)}, DicIs K S H ws kvs → (ws.any fun kv => decide (kv.1 = k)) = kvs.any fun kv => decide (kv.1 = k)
  | _, _, .nil => rfl
  | _, _, .cons ⟨e, _⟩ t => by rw [List.any_cons, List.any_cons, DicIs.any k t, e]
theorem DicIs.len : ∀ {ws : List (Key × V)} {kvs : List (Key × PyData)}, DicIs K S H ws kvs → ws.length = kvs.length
  | _, _, .nil => rfl
  | _, _, .cons _ t => by rw [List.length_cons, List.length_cons, DicIs.len t]
theorem DicIs.repl {k : Key} {u : V} {d : PyData} (f : Fz K S H u d) : ∀ {ws : List (Key × V)} {kvs : List (Key × PyData)}, DicIs K S H ws kvs → DicIs K S H (ws.map fun kv => if kv.1 = k then (kv.1, u) else kv) (kvs.map fun kv => if kv.1 = k then (kv.1, d) else kv)
  | _, _, .nil => .nil
  | _, _, .cons (a := p) (b := q) ⟨e, g⟩ t => by
    rw [List.map_cons, List.map_cons]
    refine .cons ?_ (DicIs.repl f t)
    by_cases hk : p.1 = k
    · rw [if_pos hk, if_pos (e ▸ hk)]; exact ⟨e, f⟩
    · rw [if_neg hk, if_neg (e ▸ hk)]; exact ⟨e, g⟩
theorem DicIs.snoc {k : Key} {u : V} {d : PyData} (f : Fz K S H u d) : ∀ {ws : List (Key × V)} {kvs : List (Key × PyData)}, DicIs K S H ws kvs → DicIs K S H (ws ++ [(k, u)]) (kvs ++ [(k, d)])
  | _, _, .nil => .cons ⟨rfl, f⟩ .nil
  | _, _, .cons r t => .cons r (DicIs.snoc f t)
theorem DicIs.put {k : Key} {u : V} {d : PyData} (f : Fz K S H u d) {ws : List (Key × V)} {kvs : List (Key × PyData)} (h : DicIs K S H ws kvs) : DicIs K S H (putK ws k u) (putD kvs k d) := by
  unfold putK putD
  rw [DicIs.any k h]
  split
  · exact DicIs.repl f h
  · exact DicIs.snoc f h
end
theorem valD_put (kvs : List (Key × PyData)) (k j : Key) (d : PyData) : valD (putD kvs k d) j = if j = k then some d else valD kvs j := by
  have any_val : ∀ kvs : List (Key × PyData), (kvs.any fun kv => decide (kv.1 = k)) = (valD kvs k).isSome := fun kvs => by
    induction kvs with
    | nil => rfl
    | cons p kvs ih =>
      by_cases hk : p.1 = k
      · simp [valD, List.find?_cons, hk]
      · have : valD (p :: kvs) k = valD kvs k := by simp [valD, List.find?_cons, hk]
        rw [this, ← ih]; simp [hk]
  have map_val : ∀ kvs : List (Key × PyData), valD (kvs.map fun kv => if kv.1 = k then (kv.1, d) else kv) j = (valD kvs j).map fun x => if j = k then d else x := fun kvs => by
    induction kvs with
    | nil => rfl
    | cons p kvs ih =>
      have pos : ∀ {p : Key × PyData} {r : List (Key × PyData)}, p.1 = j → valD (p :: r) j = some p.2 := fun e => by simp [valD, List.find?_cons, e]
      have neg : ∀ {p : Key × PyData} {r : List (Key × PyData)}, ¬ p.1 = j → valD (p :: r) j = valD r j := fun e => by simp [valD, List.find?_cons, e]
      rw [List.map_cons]
      by_cases hj : p.1 = j
      · have e1 : (if p.1 = k then (p.1, d) else p).1 = j := by split <;> exact hj
        rw [pos e1, pos hj]
        by_cases hk : p.1 = k
        · rw [if_pos hk]; simp [← hj, hk]
        · rw [if_neg hk]; simp [← hj, hk]
      · have e1 : ¬ (if p.1 = k then (p.1, d) else p).1 = j := by split <;> exact hj
        rw [neg e1, neg hj]; exact ih
  have snoc_val : ∀ kvs : List (Key × PyData), valD kvs k = none → valD (kvs ++ [(k, d)]) j = if j = k then some d else valD kvs j := fun kvs => by
    induction kvs with
    | nil =>
      intro _
      by_cases hj : j = k
      · subst hj; simp [valD]
      · have : ¬ k = j := fun z => hj z.symm
        simp [valD, hj, this]
    | cons p kvs ih =>
      intro hn
      by_cases hk : p.1 = k
      · simp [valD, List.find?_cons, hk] at hn
      · have hn' : valD kvs k = none := by rw [← hn]; simp [valD, List.find?_cons, hk]
        rw [List.cons_append]
        by_cases hj : p.1 = j
        · have : ¬ j = k := hj ▸ hk
          simp [valD, List.find?_cons, hj, this]
        · have e1 : valD (p :: (kvs ++ [(k, d)])) j = valD (kvs ++ [(k, d)]) j := by simp [valD, List.find?_cons, hj]
          have e2 : valD (p :: kvs) j = valD kvs j := by simp [valD, List.find?_cons, hj]
          rw [e1, e2]; exact ih hn'
  unfold putD
  rw [any_val]
  cases h : valD kvs k with
  | some x =>
    rw [if_pos (by simp), map_val]
    by_cases hj : j = k
    · subst hj; rw [h]; simp
    · rw [if_neg hj]; simp [hj]
  | none =>
    rw [if_neg (by simp)]
    exact snoc_val kvs h
section
variable {b : Bs} {F : List Fr} {σ σ' : St} {H H' : Hp} {ρ ρ' : DEnv} {τ vs : List V} {θ rs : List OR} {v u : V} {x y : OD} {d : PyData} {i j : Nat} {L : List (V × OD)} {kvs : List (Key × PyData)}
/-- the dict of the first one -/
theorem Wd.dicO (w : Wd b H ((v, .dic kvs) :: L)) : ∃ a ws, v = .ref a ∧ H a = some (.dK ws) ∧ ws.length = kvs.length ∧ (∀ k d, valD kvs k = some d → ∃ u, valV ws k = some u ∧ Wd b H ((u, .fz d) :: (v, .dic kvs) :: L)) ∧ (∀ k, valD kvs k = none → valV ws k = none) ∧
    ∀ k u d, (u, OD.fz d) ∈ L → Wd b (upd H a (.dK (putK ws k u))) ((.ref a, .dic (putD kvs k d)) :: L) := by
  obtain ⟨A0, h0, nd, new⟩ := w.out
  have nt := w.nt' h0
  have h0' := h0
  cases h0 with
  | @cons _ _ A _ B r t =>
    obtain ⟨a, ws, rfl, rfl, hn, h1, h2'⟩ := r
    have h2 : DicIs b.K (fun c => c ∈ [a] ++ B ∨ b.S0 c) H ws kvs := h2'
    refine ⟨a, ws, rfl, h1, DicIs.len h2, fun k d e => ?_, fun k => (DicIs.val k h2).2, fun k u d m => ?_⟩
    · obtain ⟨u, e1, f⟩ := (DicIs.val k h2).1 d e
      exact ⟨u, e1, ⟨⟨_, .cons (A := []) ⟨rfl, f⟩ h0', nd, new⟩, w.fr, w.s0, w.c0, w.nt⟩⟩
    · obtain ⟨_, nB, dj⟩ := List.nodup_append.mp nd
      have kp : Kp (fun c => c ∈ [a] ++ B ∨ b.S0 c) H (upd H a (.dK (putK ws k u))) := Kp.put (.inl (.inl (by simp)))
      have hf := t.frzIn u d m
      refine ⟨⟨[a] ++ B, .cons ⟨a, _, rfl, rfl, hn, upd_same, Paired.mapP (DicIs.put hf h2) fun _ _ ⟨e, f⟩ => ⟨e, f.step kp fun c z => .inl z⟩⟩ (t.step kp (fun c z => .inl z) nt fun c hc => upd_ne fun e => dj a (by simp) c hc e.symm), nd, new⟩, ?_, w.s0, w.c0, fun c xs e z => ?_⟩
      · refine ⟨fun c o e n => ?_, fun c e => ?_⟩
        · have q := w.fr.k c o e n
          rw [upd_ne (fun z => by subst z; rw [hn] at e; cases e)]
          exact q
        · by_cases q : c = a
          · subst q; rw [upd_same] at e; cases e
          · rw [upd_ne q] at e; exact w.fr.n c e
      · by_cases q : c = a
        · subst q; rw [upd_same] at e; cases e
        · rw [upd_ne q] at e; exact w.nt c xs e z
theorem Wd.newDic (w : Wd b H L) {p : Addr} (hp : H p = none) : Wd b (upd H p (.dK [])) ((.ref p, .dic []) :: L) := by
  obtain ⟨A, h0, nd, new⟩ := w.out
  have np := w.al h0 hp
  have w' := w.new hp (o := .dK [])
  have n : ∀ c, (c ∈ p :: A ∨ b.S0 c) → (c ∈ A ∨ b.S0 c) ∨ H c = none := fun c z => by
    rcases z with z | z
    · rcases List.mem_cons.mp z with rfl | z
      · exact .inr hp
      · exact .inl (.inl z)
    · exact .inl (.inr z)
  refine ⟨⟨p :: A, .cons (A := [p]) ⟨p, [], rfl, rfl, w.newC hp, upd_same, .nil⟩ (h0.step (Kp.put (.inr hp)) n (w.nt' h0) fun a ha => upd_ne fun e => np (.inl (e ▸ ha))), ?_, fun a ha => ?_⟩, w'.fr, w'.s0, w'.c0, w'.nt⟩
  · exact List.nodup_cons.mpr ⟨fun z => np (.inl z), nd⟩
  · rcases List.mem_cons.mp ha with rfl | ha
    · exact .inl (w.newC hp)
    · exact new a ha
/-- the dict in slot i -/
theorem Rel.dicS (R : Rel b F σ H ρ τ θ) (e : ρ[i]?.join = some (.dic kvs)) : ∃ a ws, σ[i]? = some (some (.ref a)) ∧ H a = some (.dK ws) ∧ ws.length = kvs.length ∧ (∀ k d, valD kvs k = some d → ∃ u, valV ws k = some u ∧ Rel b F σ H ρ (u :: τ) (.val (.fz d) :: θ)) ∧ (∀ k, valD kvs k = none → valV ws k = none) ∧
    ∀ k u d, (u, OD.fz d) ∈ stk τ θ → Rel b F σ (upd H a (.dK (putK ws k u))) (ρ.set i (some (.dic (putD kvs k d)))) τ θ := by
  obtain ⟨v, ev, w⟩ := R.slot (join_some e)
  obtain ⟨a, ws, rfl, hH, hl, h1, h2, h3⟩ := w.dicO
  refine ⟨a, ws, ev, hH, hl, fun k d ed => ?_, h2, fun k u d m => Rel.back R.wf R.al R.wff ev (h3 k u d (List.mem_append_left _ m))⟩
  obtain ⟨u, eu, w2⟩ := h1 k d ed
  refine ⟨u, eu, ?_⟩
  have e1 : ρ.set i (some (.dic kvs)) = ρ := set_self (join_some e)
  have := Rel.back (τ := u :: τ) (θ := .val (.fz d) :: θ) (x := .dic kvs) R.wf R.al R.wff ev (w2.perm (List.Perm.swap _ _ _))
  rw [e1] at this
  exact this
end
section
variable {X : Cx} {K : PySem.W.Frag} {a b c e o : Expr} {es : List Expr} {da db : DE} {dt : DA} {dT : DT} {pos p pos' : Pos} {x : Str} {i : Nat}
/-- d[k], d in slot i -/
def dDGet (i : Nat) (a : DE) : DE := fun ρ Q => (ρ[i]?.join).isSome = true ∧ a ρ fun r ρ1 => ∃ d k kvs v, datR ρ1 r = some d ∧ keyD d = some k ∧ ρ1[i]?.join = some (.dic kvs) ∧ valD kvs k = some v ∧ Q (.val (.fz v)) ρ1
theorem pd_dget (hu : X.A.units + 1 < cLine) (hN : X.N[i]? = some x) (hv : Vis X.env.scope x) (hs : NoSl e) (hd : (x == ("__debug__" : Str)) = false := by decide) (hcd : (x == ("__classdict__" : Str)) = false := by decide) : PDe X e da → PDe X (.Subscript (.Name x pos') e pos) (dDGet i da)
  | ⟨_, h, s⟩ => ⟨_, pe_dget hu (pe_var hN hv hd hcd) h hs, fun b F σ H ρ τ θ Qd Q hK R ⟨h0, h⟩ q => by
    obtain ⟨x0, hx0⟩ := Option.isSome_iff_exists.mp h0
    obtain ⟨v0, ev⟩ := R.wf.get (join_some hx0)
    refine ⟨v0, ev, s b F σ H ρ τ θ _ _ hK R h fun u H1 r ρ1 R1 ⟨d, k, kvs, v, e1, e2, e3, e4, h1⟩ => ?_⟩
    have hk := keyD_kV (R1.dt e1) e2
    subst hk
    obtain ⟨a, ws, ev', hH, _, g1, _, _⟩ := R1.drop.dicS e3
    rw [ev] at ev'
    cases ev'
    obtain ⟨w, ew, R2⟩ := g1 k v e4
    exact ⟨a, w, rfl, ew ▸ DGet.k hH, q w H1 _ _ R2 h1⟩⟩
/-- k in d, d in slot i -/
def dDIn (neg : Bool) (a : DE) (i : Nat) : DE := fun ρ Q => a ρ fun r ρ1 => ∃ d k kvs, datR ρ1 r = some d ∧ keyD d = some k ∧ ρ1[i]?.join = some (.dic kvs) ∧ Q (.val (.fz (.bool (if neg then !(valD kvs k).isSome else (valD kvs k).isSome)))) ρ1
theorem snd_din {neg : Bool} {ta : TE} (s : SndE K ta da) : SndE K (if neg then tDNotIn ta (tVar i) else tDIn ta (tVar i)) (dDIn neg da i) := fun b F σ H ρ τ θ Qd Q hK R h q => by
  have key : ∀ (u : V) (H1 : Hp) (r : OR) (ρ1 : DEnv), Rel b F σ H1 ρ1 (u :: τ) (r :: θ) → (∃ d k kvs, datR ρ1 r = some d ∧ keyD d = some k ∧ ρ1[i]?.join = some (.dic kvs) ∧ Qd (.val (.fz (.bool (if neg then !(valD kvs k).isSome else (valD kvs k).isSome)))) ρ1) →
      ∃ a oo, σ[i]? = some (some (.ref a)) ∧ DGet H1 a u oo ∧ Q (.bl (if neg then !oo.isSome else oo.isSome)) H1 := fun u H1 r ρ1 R1 ⟨d, k, kvs, e1, e2, e3, h1⟩ => by
    have hk := keyD_kV (R1.dt e1) e2
    subst hk
    obtain ⟨a, ws, ev', hH, _, g1, g2, _⟩ := R1.drop.dicS e3
    refine ⟨a, valV ws k, ev', DGet.k hH, ?_⟩
    have ei : (valV ws k).isSome = (valD kvs k).isSome := by
      cases hvk : valD kvs k with
      | none => rw [g2 k hvk]; rfl
      | some v => obtain ⟨w, ew, _⟩ := g1 k v hvk; rw [ew]; rfl
    rw [ei]
    exact q _ H1 _ _ (R1.drop.sc (.bl _)) h1
  cases neg with
  | true => exact s b F σ H ρ τ θ _ _ hK R h fun u H1 r ρ1 R1 h1 => let ⟨a, oo, ev, g, hq⟩ := key u H1 r ρ1 R1 h1; ⟨.ref a, ev, a, oo, rfl, g, hq⟩
  | false => exact s b F σ H ρ τ θ _ _ hK R h fun u H1 r ρ1 R1 h1 => let ⟨a, oo, ev, g, hq⟩ := key u H1 r ρ1 R1 h1; ⟨.ref a, ev, a, oo, rfl, g, hq⟩
theorem pdt_din (hu : X.A.units + 1 < cLine) (hN : X.N[i]? = some x) (hv : Vis X.env.scope x) (hd : (x == ("__debug__" : Str)) = false := by decide) (hcd : (x == ("__classdict__" : Str)) = false := by decide) (hm : behindInMarks .In (.Name x pos') = false := by with_unfolding_all rfl) : PDe X a da → PDt X (.Compare a [.In] [.Name x pos'] pos) (dTest (dDIn false da i))
  | ⟨_, h, s⟩ => ⟨_, pt_cmp (pc_din hu h (pe_var hN hv hd hcd)) hm, snd_tB (snd_din (neg := false) s)⟩
end
end L2
namespace L2
open PySem PySem.Spec PyProof.Rows
/-! ### dict comprehensions -/
def addP (kvs : List (Key × PyData)) : Option (Key × PyData) → List (Key × PyData)
  | none => kvs
  | some kd => putD kvs kd.1 kd.2
theorem addP_len (kvs : List (Key × PyData)) (o : Option (Key × PyData)) : (addP kvs o).length ≤ kvs.length + 1 := by
  cases o with
  | none => exact Nat.le_succ _
  | some kd =>
    show (putD kvs kd.1 kd.2).length ≤ _
    unfold putD
    split
    · rw [List.length_map]; exact Nat.le_succ _
    · rw [List.length_append]; simp
theorem Rel.growD {b : Bs} {F : List Fr} {σ : St} {H : Hp} {vs : List V} {rs : List OR} {v : V} {d : PyData} {ρ : DEnv} {D : Addr} {out : List (Key × PyData)} (R : Rel b F σ H ρ (v :: (vs ++ [.ref D])) (.val (.fz d) :: (rs ++ [.val (.dic out)]))) (el : vs.length = rs.length) :
    ∃ ws, H D = some (.dK ws) ∧ ws.length = out.length ∧ ∀ k, Rel b F σ (upd H D (.dK (putK ws k v))) ρ (vs ++ [.ref D]) (rs ++ [.val (.dic (putD out k d))]) := by
  have R1 := R.drop
  have e1 : stk (vs ++ [.ref D]) (rs ++ [.val (.dic out)]) = stk vs rs ++ [(.ref D, .dic out)] := by rw [stk_app el]; rfl
  have w : Wd b H ((v, .fz d) :: ((stk vs rs ++ [(.ref D, .dic out)]) ++ (flat σ ρ ++ ff F))) := by
    have := R.wd
    simp only [stk] at this
    rw [e1] at this
    exact this
  have w2 : Wd b H ((.ref D, .dic out) :: (v, .fz d) :: (stk vs rs ++ (flat σ ρ ++ ff F))) := w.perm (by
    refine List.Perm.trans (List.Perm.cons _ ?_) (List.Perm.swap _ _ _)
    rw [List.append_assoc]
    exact List.perm_middle)
  obtain ⟨a, ws, ea, hD, hl, _, _, go⟩ := w2.dicO
  cases ea
  refine ⟨ws, hD, hl, fun k => ⟨R1.wf, ?_, R1.wff, ?_⟩⟩
  · obtain ⟨a1, _⟩ := (al_app el).mp R1.al
    exact (al_app el).mpr ⟨a1, trivial⟩
  · have w3 := go k v d List.mem_cons_self
    have e2 : stk (vs ++ [.ref D]) (rs ++ [.val (.dic (putD out k d))]) = stk vs rs ++ [(.ref D, .dic (putD out k d))] := by rw [stk_app el]; rfl
    rw [e2]
    refine Wd.drop (v := v) (x := .fz d) (w3.perm ?_)
    refine (List.Perm.swap _ _ _).trans (List.Perm.cons _ ?_)
    rw [List.append_assoc]
    exact List.perm_middle.symm
abbrev DCd := DEnv → (Option (Key × PyData) → DEnv → Prop) → Prop
def SndCD (K : PySem.W.Frag) (tc : TC) (dc : DCd) : Prop := ∀ (b : Bs) (F : List Fr) (σ : St) (H : Hp) (ρ : DEnv) (vs : List V) (rs : List OR) (D : Addr) (out : List (Key × PyData)) (Qd : Option (Key × PyData) → DEnv → Prop) (Q : Hp → Prop), b.K = K → vs.length = rs.length → out.length < 1000000 → Rel b F σ H ρ (vs ++ [.ref D]) (rs ++ [.val (.dic out)]) → dc ρ Qd →
  (∀ H' ρ' o, Rel b F σ H' ρ' (vs ++ [.ref D]) (rs ++ [.val (.dic (addP out o))]) → Qd o ρ' → Q H') → tc D σ H Q
inductive PDcd (Y : Cx) (ifs : List Expr) (kx vx : Expr) (dc : DCd) : Prop | mk (tc : TC) (h : ∀ D, PActD Y D ifs kx vx tc) (s : SndCD Y.K tc dc)
section
variable {X Y : Cx} {K : PySem.W.Frag} {a b c e kx vx iter tg : Expr} {es ifs : List Expr} {da db : DE} {dT : DT} {pos p : Pos} {x : Str}
def dPutP (a b : DE) : DCd := fun ρ Q => a ρ fun q ρ1 => b ρ1 fun r ρ2 => ∃ z kk d ρ3, datR ρ2 q = some z ∧ keyD z = some kk ∧ frz1 ρ2 r = some (d, ρ3) ∧ Q (some (kk, d)) ρ3
theorem snd_putP {ta tb : TE} (s1 : SndE K ta da) (s2 : SndE K tb db) : SndCD K (cPut ta tb) (dPutP da db) := fun b F σ H ρ vs rs D out Qd Q hK el hz R h q => s1 b F σ H ρ _ _ _ _ hK R h fun u H1 qq ρ1 R1 h1 => s2 b F σ H1 ρ1 _ _ _ _ hK R1 h1 fun v H2 r ρ2 R2 ⟨z, kk, d, ρ3, e1, e2, e3, h2⟩ => by
  have hk := keyD_kV (R2.dt2 e1) e2
  subst hk
  obtain ⟨ws, hD, hl, go⟩ := (Rel.drop2 (R2.frz1 e3)).growD el
  exact ⟨_, ⟨ws, kk, hD, rfl, Nat.lt_of_lt_of_le (by omega) (by decide : 1000001 ≤ sizeLine), rfl⟩, q _ _ _ (go kk) h2⟩
theorem pdcd_plain (hu : Y.A.units + 1 < cLine) : PDe Y kx da → PDe Y vx db → PDcd Y [] kx vx (dPutP da db)
  | ⟨_, h1, s1⟩, ⟨_, h2, s2⟩ => ⟨_, fun D => actD_plain hu h1 h2, snd_putP s1 s2⟩
def dDComp (di : DI) (nt : Nat) (fr : List Nat) (g : DG) (act : DCd) : DE := fun ρ Q => di ρ fun ds ρ1 => ds.length < 1000000 ∧ ∃ inner ρ2, capt ρ1 fr = some (inner, ρ2) ∧ ∃ Iv : Nat → List (Key × PyData) → DEnv → Prop, Iv 0 [] (List.replicate nt none ++ inner) ∧
  (∀ k d out ρ, ds[k]? = some d → Iv k out ρ → g (.fz d) ρ fun ρ' => act ρ' fun o ρ'' => Iv (k + 1) (addP out o) ρ'') ∧ ∀ out ρ, Iv ds.length out ρ → Q (.val (.dic out)) (unca ρ2 fr (ρ.drop nt))
theorem snd_dcomp {wi : TI} {di : DI} {nt : Nat} {fr : List Nat} {g : CC → TG} {tc : CC → TC} {dg : DG} {dc : DCd} (s1 : SndI K wi di) (s2 : ∀ c, SndG K nt (g c) dg) (s3 : ∀ c, SndCD K (tc c) dc) : SndE K (tDComp wi nt fr g tc) (dDComp di nt fr dg dc) := by
  intro b F σ H ρ τ θ Qd Q hK R h q
  refine s1 b F σ H ρ τ θ _ _ hK R h fun J H1 ds ρ1 vs rs el nr R1 it ⟨hds, inner, ρ2, hc, Iv, i0, step, fin⟩ => ?_
  intro cc D hD
  have w1 : Wd b H1 (stk vs rs ++ (flat σ ρ1 ++ (stk τ θ ++ ff F))) := R1.wd.perm (by
    rw [stk_app el, List.append_assoc]
    refine List.Perm.append_left _ ?_
    rw [← List.append_assoc, ← List.append_assoc]
    exact List.perm_append_comm.append_right _)
  obtain ⟨w2, wf2, wf3⟩ := capt_ok w1 R1.wf hc
  have al := (al_app el).mp R1.al
  have w3 := w2.newDic hD
  have R2 : Rel b (⟨σ, ρ2, τ, θ⟩ :: F) (compSt nt fr σ) (upd H1 D (.dK [])) (List.replicate nt none ++ inner) (vs ++ [.ref D]) (rs ++ [.val (.dic [])]) := by
    refine ⟨wf_rep wf3, (al_app el).mpr ⟨nr.al al.1, trivial⟩, fun f hf => ?_, ?_⟩
    · rcases List.mem_cons.mp hf with rfl | hf
      · exact ⟨wf2, al.2⟩
      · exact R1.wff f hf
    · have ec : flat (compSt nt fr σ) (List.replicate nt none ++ inner) = flat (capV σ fr) inner := flat_rep
      rw [ec, stk_app el]
      refine w3.perm ?_
      have ef : ff (⟨σ, ρ2, τ, θ⟩ :: F) = (stk τ θ ++ flat σ ρ2) ++ ff F := rfl
      rw [ef]
      have e0 : stk [V.ref D] [OR.val (.dic [])] = [(V.ref D, OD.dic [])] := rfl
      rw [e0]
      refine List.Perm.trans (List.Perm.cons _ (perm_a (flat (capV σ fr) inner) (stk vs rs) (flat σ ρ2) (stk τ θ) (ff F))) ?_
      rw [List.append_assoc (stk vs rs)]
      exact List.perm_middle.symm
  refine ⟨fun i m σ' H' => m = ds.length - i ∧ i ≤ ds.length ∧ (∀ j, nt ≤ j → σ'[j]? = (compSt nt fr σ)[j]?) ∧ ∃ out ρ', out.length ≤ i ∧ Rel b (⟨σ, ρ2, τ, θ⟩ :: F) σ' H' ρ' (vs ++ [.ref D]) (rs ++ [.val (.dic out)]) ∧ Iv i out ρ', ⟨_, rfl, Nat.zero_le _, fun _ _ => rfl, [], _, Nat.le_refl _, R2, i0⟩, ?_⟩
  rintro i m σ' H' ⟨rfl, hi, hσ, out, ρ', ho, R', iv⟩
  obtain ⟨go, stop⟩ := it _ σ' H' ρ' [.ref D] [.val (.dic out)] R' i
  by_cases hlt : i < ds.length
  · obtain ⟨g1, g2⟩ := go hlt
    refine .inr ⟨g1, fun x H2 hy => ?_⟩
    have ed : ds[i]? = some ds[i] := List.getElem?_eq_getElem hlt
    have nn : NoRf (rs ++ [.val (.dic out)]) := nr.app fun r hr => ⟨_, List.mem_singleton.mp hr⟩
    refine s2 cc b _ σ' H2 ρ' _ _ x _ _ _ hK nn (g2 x H2 _ hy ed) (step i _ out ρ' ed iv) fun σ3 H3 ρ3 R3 k3 h3 => ?_
    exact s3 cc b _ σ3 H3 ρ3 vs rs D out _ _ hK el (by omega) R3 h3 fun H4 ρ4 o R4 h4 => ⟨_, by omega, rfl, hlt, fun j hj => (k3 j hj).1.trans (hσ j hj), addP out o, ρ4, Nat.le_trans (addP_len out o) (by omega), R4, h4⟩
  · have e : i = ds.length := by omega
    subst e
    refine .inl ⟨stop rfl, q _ H' _ _ ?_ (fin out ρ' iv)⟩
    have ed : σ'.drop nt = capV σ fr := by
      apply List.ext_getElem?
      intro j
      rw [List.getElem?_drop, hσ _ (by omega)]
      unfold compSt capV
      rw [List.getElem?_append_right (by simp), List.length_replicate, Nat.add_sub_cancel_left]
    have w4 : Wd b H' ((.ref D, .dic out) :: (stk vs rs ++ (flat σ' ρ' ++ ((stk τ θ ++ flat σ ρ2) ++ ff F)))) := R'.wd.perm (by
      rw [stk_app el]
      have e0 : stk [V.ref D] [OR.val (.dic out)] = [(V.ref D, OD.dic out)] := rfl
      rw [e0, List.append_assoc]
      exact List.perm_middle)
    obtain ⟨L0, eL⟩ := flat_drop (n := nt) R'.wf
    rw [eL, ed] at w4
    have w5 : Wd b H' (((.ref D, .dic out) :: stk τ θ) ++ (flat (capV σ fr) (ρ'.drop nt) ++ (flat σ ρ2 ++ ff F))) := by
      refine Wd.drops (L1 := stk vs rs ++ L0) (w4.perm ?_)
      exact perm_b (.ref D, .dic out) (stk vs rs) L0 (flat (capV σ fr) (ρ'.drop nt)) (stk τ θ) (flat σ ρ2) (ff F)
    have wfd : Wf (capV σ fr) (ρ'.drop nt) := ed ▸ R'.wf.drop
    obtain ⟨w6, wf6⟩ := unca_ok w5 wf2 wfd
    exact ⟨wf6, al.2, R1.wff, w6⟩

variable {N : List Str} {nt : Nat} {fr : List Nat} {scope : Scope} {di : DI} {dg : DG} {dc : DCd}
theorem PDcd.ex {Y : CC → Cx} (hK : ∀ c, (Y c).K = K) (h : ∀ c, PDcd (Y c) ifs kx vx dc) : ∃ g : CC → TC, ∀ c, (∀ D, PActD (Y c) D ifs kx vx (g c)) ∧ SndCD K (g c) dc :=
  Classical.axiomOfChoice (r := fun c g => (∀ D, PActD (Y c) D ifs kx vx g) ∧ SndCD K g dc) fun c => (by obtain ⟨te, h1, s1⟩ := h c; exact ⟨te, h1, hK c ▸ s1⟩)
theorem pds_setDC {i : Nat} {y : Str} {py spos : Pos} (hN : X.N.Nodup) (hy : X.N[i]? = some y) (hl : X.env.scope.names.lookup y = some .local) (hc : X.calm = true) (S : CompScope N nt fr X.N scope X.env.scope) (hs : ∀ x, foldedSetIterable iter X.env x = pure x := by intro _; rfl)
    (hsw : swapsWith (.DictComp kx vx [⟨tg, iter, ifs, 0⟩] scope pos) (some (.Name y py)) spos.line X.env = pure true := by rfl)
    (hi : PDi X tg iter di) (hg : ∀ c : CC, PDg (cxC X N scope c) nt tg dg) (ha : ∀ c : CC, PDcd (cxC X N scope c) ifs kx vx dc) : PDs X (.Assign [.Name y py] (.DictComp kx vx [⟨tg, iter, ifs, 0⟩] scope pos) spos) (dSet i (dDComp di nt fr dg dc)) := by
  obtain ⟨wi, h1, s1⟩ := hi
  obtain ⟨g, hg'⟩ := PDg.ex (K := X.K) (Y := fun c => cxC X N scope c) (fun _ => rfl) hg
  obtain ⟨tc, hc'⟩ := PDcd.ex (K := X.K) (Y := fun c => cxC X N scope c) (fun _ => rfl) ha
  refine ⟨_, ps_setDC hN hy hl hc S h1 (fun c => (hg' c).1) (fun c D => (hc' c).1 D) hs hsw, fun b F σ H ρ τ θ Dd D hK n R h E => ?_⟩
  exact snd_dcomp s1 (fun c => (hg' c).2) (fun c => (hc' c).2) b F σ H ρ τ θ _ _ hK R h fun v H1 r ρ1 R1 ⟨x, ρ2, e, hi, h1⟩ => E.nx _ H1 _ ((R1.own1 e).store n hi) h1
theorem w_dcomp {ρ : DEnv} {Q : DK} (h : di ρ fun ds ρ1 => ds.length < 1000000 ∧ ∃ inner ρ2, capt ρ1 fr = some (inner, ρ2) ∧ ∃ Iv : Nat → List (Key × PyData) → DEnv → Prop, Iv 0 [] (List.replicate nt none ++ inner) ∧
  (∀ k d out ρ, ds[k]? = some d → Iv k out ρ → dg (.fz d) ρ fun ρ' => dc ρ' fun o ρ'' => Iv (k + 1) (addP out o) ρ'') ∧ ∀ out ρ, Iv ds.length out ρ → Q (.val (.dic out)) (unca ρ2 fr (ρ.drop nt))) : dDComp di nt fr dg dc ρ Q := h
theorem w_putP {a b : DE} {ρ : DEnv} {Q : Option (Key × PyData) → DEnv → Prop} (h : a ρ fun q ρ1 => b ρ1 fun r ρ2 => ∃ z kk d ρ3, datR ρ2 q = some z ∧ keyD z = some kk ∧ frz1 ρ2 r = some (d, ρ3) ∧ Q (some (kk, d)) ρ3) : dPutP a b ρ Q := h
theorem w_dget {i : Nat} {a : DE} {ρ : DEnv} {Q : DK} (e : (ρ[i]?.join).isSome = true) (h : a ρ fun r ρ1 => ∃ d k kvs v, datR ρ1 r = some d ∧ keyD d = some k ∧ ρ1[i]?.join = some (.dic kvs) ∧ valD kvs k = some v ∧ Q (.val (.fz v)) ρ1) : dDGet i a ρ Q := ⟨e, h⟩
theorem w_din {neg : Bool} {i : Nat} {a : DE} {ρ : DEnv} {Q : DK} (h : a ρ fun r ρ1 => ∃ d k kvs, datR ρ1 r = some d ∧ keyD d = some k ∧ ρ1[i]?.join = some (.dic kvs) ∧ Q (.val (.fz (.bool (if neg then !(valD kvs k).isSome else (valD kvs k).isSome)))) ρ1) : dDIn neg a i ρ Q := h
end
end L2
namespace L2
open PySem PySem.Spec PyProof.Rows
section
variable {b : Bs} {F : List Fr} {σ : St} {H H' : Hp} {ρ : DEnv} {τ : List V} {θ : List OR} {v u : V} {d : PyData} {ds : List PyData} {i k : Nat} {L : List (V × OD)} {xs : List CD}
end
section
variable {X : Cx} {K : PySem.W.Frag} {a b c e o : Expr} {es : List Expr} {da db : DE} {dt : DA} {dT : DT} {pos p pos' apos cpos spos : Pos} {x : Str} {i k : Nat} {j : Nat}
/-- x += e of numbers -/
def dAugI (i : Nat) (g : Int → Int → Int) (a : DE) : DS := fun D ρ => ∃ n0, ρ[i]?.join = some (.fz (.int n0)) ∧ a ρ fun r ρ1 => ∃ m, datR ρ1 r = some (.int m) ∧ i < ρ1.length ∧ D.nx (ρ1.set i (some (.fz (.int (g n0 m)))))
theorem pds_augI {op : Operator} {g : Int → Int → Int} (hN : X.N.Nodup) (hi : X.N[i]? = some x) (hx : Loc X.env.scope x) (ho : PIp X op (ipI g)) (hf : X.fn x = true ∨ X.env.scope.names.lookup x = some .local := by first | exact .inl rfl | exact .inr rfl | assumption) :
    PDe X e da → PDs X (.AugAssign (.Name x pos') op e pos) (dAugI i g da)
  | ⟨_, h, s⟩ => ⟨_, ps_aug hN hi hx h ho hf, fun b F σ H ρ τ θ Dd D hK n R ⟨n0, e0, h⟩ E => by
    obtain ⟨v, ev, w⟩ := R.slot (join_some e0)
    have hv := w.dt (d := .int n0) rfl
    cases hv
    refine ⟨_, ev, s b F σ H ρ τ θ _ _ hK R h fun v H1 r ρ1 R1 ⟨m, e1, hl, h1⟩ => ?_⟩
    have hm := R1.dt e1
    cases hm
    exact ⟨n0, m, rfl, rfl, E.nx _ H1 _ ((R1.drop.sc (.int (g n0 m))).store n hl) h1⟩⟩
theorem w_augI {i : Nat} {g : Int → Int → Int} {a : DE} {D : DEnds} {ρ : DEnv} {n0 : Int} (e : ρ[i]?.join = some (.fz (.int n0))) (h : a ρ fun r ρ1 => ∃ m, datR ρ1 r = some (.int m) ∧ i < ρ1.length ∧ D.nx (ρ1.set i (some (.fz (.int (g n0 m)))))) : dAugI i g a D ρ := ⟨n0, e, h⟩
end
end L2
namespace L2
open PySem PySem.Spec PyProof.Rows
/-! ### items -/
section
variable {ρ : DEnv} {j : Nat} {i : Int} {d : PyData} {ds : List PyData}
theorem item_rfL (e : ρ[j]?.join = some (.lst ds)) (h : atI ds i = some d) : itemR ρ (.rf j) i = some (.fz d, ρ.set j (some (.lst ds))) := by
  simp only [itemR, e, Option.bind_some, itemS, h, Option.map_some]
theorem item_lst (h : atI ds i = some d) : itemR ρ (.val (.fz (.list ds))) i = some (.fz d, ρ) := by
  simp only [itemR, itemO, h, Option.map_some]
theorem item_vlst (h : atI ds i = some d) : itemR ρ (.val (.lst ds)) i = some (.fz d, ρ) := by
  simp only [itemR, itemO, h, Option.map_some]
theorem item_tup (h : atI ds i = some d) : itemR ρ (.val (.fz (.tuple ds))) i = some (.fz d, ρ) := by
  simp only [itemR, itemO, h, Option.map_some]
end
/-! ### loops by their kinds -/
section
variable {α β : Type} {g : DG} {t : DS} {N : DEnv → Prop} {R : OD → DEnv → Prop} {ρ : DEnv} {n : Nat} {lo : Int}
theorem l_rng (Iv : Nat → DEnv → Prop) (h0 : Iv 0 ρ) (hs : ∀ k ρ, k < n → Iv k ρ → g (.fz (.int (lo + k))) ρ fun ρ2 => t ⟨Iv (k + 1), R, N, Iv (k + 1)⟩ ρ2) (hf : ∀ ρ, Iv n ρ → N ρ) :
    ∃ Iv : Nat → DEnv → Prop, Iv 0 ρ ∧ (∀ k d ρ, (rngD lo n)[k]? = some d → Iv k ρ → g (.fz d) ρ fun ρ2 => t ⟨Iv (k + 1), R, N, Iv (k + 1)⟩ ρ2) ∧ ∀ ρ, Iv (rngD lo n).length ρ → N ρ :=
  ⟨Iv, h0, fun k d ρ hd i => by obtain ⟨hk, rfl⟩ := rngD_get hd; exact hs k ρ hk i, by rw [rngD_len]; exact hf⟩
theorem l_rng0 (Iv : Nat → DEnv → Prop) (h0 : Iv 0 ρ) (hs : ∀ k ρ, k < n → Iv k ρ → g (.fz (.int k)) ρ fun ρ2 => t ⟨Iv (k + 1), R, N, Iv (k + 1)⟩ ρ2) (hf : ∀ ρ, Iv n ρ → N ρ) :
    ∃ Iv : Nat → DEnv → Prop, Iv 0 ρ ∧ (∀ k d ρ, (rngD 0 n)[k]? = some d → Iv k ρ → g (.fz d) ρ fun ρ2 => t ⟨Iv (k + 1), R, N, Iv (k + 1)⟩ ρ2) ∧ ∀ ρ, Iv (rngD 0 n).length ρ → N ρ :=
  l_rng Iv h0 (fun k ρ hk i => by rw [Int.zero_add]; exact hs k ρ hk i) hf
theorem l_map {f : α → PyData} {xs : List α} (Iv : Nat → DEnv → Prop) (h0 : Iv 0 ρ) (hs : ∀ k x ρ, xs[k]? = some x → Iv k ρ → g (.fz (f x)) ρ fun ρ2 => t ⟨Iv (k + 1), R, N, Iv (k + 1)⟩ ρ2) (hf : ∀ ρ, Iv xs.length ρ → N ρ) :
    ∃ Iv : Nat → DEnv → Prop, Iv 0 ρ ∧ (∀ k d ρ, (xs.map f)[k]? = some d → Iv k ρ → g (.fz d) ρ fun ρ2 => t ⟨Iv (k + 1), R, N, Iv (k + 1)⟩ ρ2) ∧ ∀ ρ, Iv (xs.map f).length ρ → N ρ :=
  ⟨Iv, h0, fun k d ρ hd i => by rw [List.getElem?_map] at hd; obtain ⟨x, hx, rfl⟩ := Option.map_eq_some_iff.mp hd; exact hs k x ρ hx i, by rw [List.length_map]; exact hf⟩
theorem l_enum {f : α → PyData} {xs : List α} (Iv : Nat → DEnv → Prop) (h0 : Iv 0 ρ) (hs : ∀ k x ρ, xs[k]? = some x → Iv k ρ → g (.fz (.tuple [.int k, f x])) ρ fun ρ2 => t ⟨Iv (k + 1), R, N, Iv (k + 1)⟩ ρ2) (hf : ∀ ρ, Iv xs.length ρ → N ρ) :
    ∃ Iv : Nat → DEnv → Prop, Iv 0 ρ ∧ (∀ k d ρ, (enumD (xs.map f))[k]? = some d → Iv k ρ → g (.fz d) ρ fun ρ2 => t ⟨Iv (k + 1), R, N, Iv (k + 1)⟩ ρ2) ∧ ∀ ρ, Iv (enumD (xs.map f)).length ρ → N ρ :=
  ⟨Iv, h0, fun k d ρ hd i => by
    obtain ⟨e, he, rfl⟩ := enumD_get hd
    rw [List.getElem?_map] at he
    obtain ⟨x, hx, rfl⟩ := Option.map_eq_some_iff.mp he
    exact hs k x ρ hx i, by rw [enumD_len, List.length_map]; exact hf⟩
end
section
variable {α β : Type} {g : DG} {act : DC} {Q : DK} {ρ ρ2 inner : DEnv} {nt : Nat} {fr : List Nat} {n : Nat} {lo : Int}
/-- comprehensions: Iv by the turn, what came so far, the block's slots -/
def CompG (ds : List PyData) (ρ1 : DEnv) (fr : List Nat) (nt : Nat) (g : DG) (act : DC) (Q : DK) : Prop := ds.length < 1000000 ∧ ∃ inner ρ2, capt ρ1 fr = some (inner, ρ2) ∧ ∃ Iv : Nat → List PyData → DEnv → Prop, Iv 0 [] (List.replicate nt none ++ inner) ∧
  (∀ k d out ρ, ds[k]? = some d → Iv k out ρ → g (.fz d) ρ fun ρ' => act ρ' fun o ρ'' => Iv (k + 1) (out ++ o) ρ'') ∧ ∀ out ρ, Iv ds.length out ρ → Q (.val (.lst out)) (unca ρ2 fr (ρ.drop nt))
theorem w_compG {di : DI} (h : di ρ fun ds ρ1 => CompG ds ρ1 fr nt g act Q) : dComp di nt fr g act ρ Q := h
theorem c_map {f : α → PyData} {xs : List α} (Iv : Nat → List PyData → DEnv → Prop) (hn : xs.length < 1000000) (hc : capt ρ fr = some (inner, ρ2)) (h0 : Iv 0 [] (List.replicate nt none ++ inner)) (hs : ∀ k x out ρ, xs[k]? = some x → Iv k out ρ → g (.fz (f x)) ρ fun ρ' => act ρ' fun o ρ'' => Iv (k + 1) (out ++ o) ρ'')
    (hf : ∀ out ρ, Iv xs.length out ρ → Q (.val (.lst out)) (unca ρ2 fr (ρ.drop nt))) : CompG (xs.map f) ρ fr nt g act Q :=
  ⟨by rw [List.length_map]; exact hn, inner, ρ2, hc, Iv, h0, fun k d out ρ hd i => by rw [List.getElem?_map] at hd; obtain ⟨x, hx, rfl⟩ := Option.map_eq_some_iff.mp hd; exact hs k x out ρ hx i, by rw [List.length_map]; exact hf⟩
theorem c_enum {f : α → PyData} {xs : List α} (Iv : Nat → List PyData → DEnv → Prop) (hn : xs.length < 1000000) (hc : capt ρ fr = some (inner, ρ2)) (h0 : Iv 0 [] (List.replicate nt none ++ inner)) (hs : ∀ k x out ρ, xs[k]? = some x → Iv k out ρ → g (.fz (.tuple [.int k, f x])) ρ fun ρ' => act ρ' fun o ρ'' => Iv (k + 1) (out ++ o) ρ'')
    (hf : ∀ out ρ, Iv xs.length out ρ → Q (.val (.lst out)) (unca ρ2 fr (ρ.drop nt))) : CompG (enumD (xs.map f)) ρ fr nt g act Q :=
  ⟨by rw [enumD_len, List.length_map]; exact hn, inner, ρ2, hc, Iv, h0, fun k d out ρ hd i => by
    obtain ⟨e, he, rfl⟩ := enumD_get hd
    rw [List.getElem?_map] at he
    obtain ⟨x, hx, rfl⟩ := Option.map_eq_some_iff.mp he
    exact hs k x out ρ hx i, by rw [enumD_len, List.length_map]; exact hf⟩
end
end L2
namespace L2
open PySem PySem.Spec PyProof.Rows
/-! ### any, sorted -/
section
variable {X : Cx} {K : PySem.W.Frag}
theorem call_any (hc : X.calm = true) : CallR X (.builtin "any") (fun xs H Q => ∃ (p : Addr) (bs : List Bool), xs = [.ref p] ∧ SqL X.K H p (bs.map V.bl) ∧ Q (.bl (bs.any id)) H) := by
  intro pins s σ H xs us Q I r h
  obtain ⟨p, bs, rfl, hq, q⟩ := h
  obtain ⟨u, rfl, rx⟩ := vals1 r
  cases rx
  obtain ⟨its, r', pl, hz⟩ := I.list hq
  obtain ⟨m, F⟩ := I.fr
  have hlt : p < s.heap.objs.size := by obtain ⟨_, _, e, _⟩ := pl; exact Heap.lt_size e
  have hb := all_bls r'
  refine call_any_walk (wpAny_pyIter_list pl.isList ?_)
  refine ⟨s.heap.objs.size, [s.heap.objs.size, p], [s.heap.objs.size], its.toArray.size, _, _, fun i => (bs[i]?).getD false, rfl, Walks.list (A := X.A.in1) (I.ok.hd hc) _ p (Nat.ne_of_lt hlt) its.toArray,
    ⟨⟨_, Heap.get?_push_size _ rfl, rfl, rfl⟩, pl.isList.push _⟩, fun i v s' Q' E' hP hQ => ?_, fun h' tk hk => ?_⟩
  · obtain ⟨b, e, rfl⟩ := hb.get i v (by simpa using hP)
    simp only [e, Option.getD_some] at hQ
    exact wpAny_truthy_bool hQ
  · have e : ((List.range its.toArray.size).any fun i => (bs[i]?).getD false) = bs.any id := by
      rw [List.size_toArray, hb.length]; exact LSm.range_any bs
    rw [e]
    exact ⟨.bl (bs.any id), H, I.kept (LSm.kept_iter hk), rfl, q⟩
theorem bt_any : bootBuiltins "any" = some (.builtin "any") := by decide +kernel
theorem bt_sorted : bootBuiltins "sorted" = some (.builtin "sorted") := by decide +kernel
def dAny : DRn := fun ds Q => ∃ es bs, ds = [.list es] ∧ allB es = some bs ∧ Q (.bool (bs.any id))
theorem sc_any : SndCB K (fun xs H Q => ∃ (p : Addr) (bs : List Bool), xs = [.ref p] ∧ SqL K H p (bs.map V.bl) ∧ Q (.bl (bs.any id)) H) dAny := by
  rintro H vs ds Qd Q hv ⟨es, bs, rfl, e, hq⟩ q
  have := allB_map e
  subst this
  cases hv with
  | cons h t =>
    cases t
    cases h with
    | lst s t => rw [t.bls] at s; exact ⟨_, bs, rfl, s, q _ _ (.bl _) hq⟩
theorem ints_vals : ∀ {ns : List Int} {us : List Value}, Vals (ns.map V.int) us → IntsAre us ns
  | [], _, r => by rw [List.map_nil] at r; cases r; exact .nil
  | n :: ns, _, r => by
    rw [List.map_cons] at r
    cases r with
    | cons r1 r2 => obtain ⟨t, rfl⟩ := r1; exact .cons n t (ints_vals r2)
def rSorted (K : PySem.W.Frag) : List V → Hp → VK → Prop := fun xs H Q => ∃ (p : Addr) (ns : List Int), xs = [.ref p] ∧ SqL K H p (ns.map V.int) ∧ ns.length < 64 ∧ ∀ (ns' : List Int) (a : Addr), ns'.Perm ns → ns'.Pairwise (· ≤ ·) → H a = none → Q (.ref a) (upd H a (.lst (ns'.map V.int)))
theorem call_sorted : CallR X (.builtin "sorted") (rSorted X.K) := by
  intro pins s σ H xs us Q I r h
  obtain ⟨p, ns, rfl, hq, hl, q⟩ := h
  obtain ⟨u, rfl, rx⟩ := vals1 r
  cases rx
  obtain ⟨its, r', pl, hz⟩ := I.list hq
  have hb := ints_vals r'
  have hlen : its.length = ns.length := by have := r'.length; rw [List.length_map] at this; exact this.symm
  refine sorted_ints pl.isList hb (by omega) fun out ns' h1 h2 h3 => ?_
  obtain ⟨e, he⟩ := sortedAll_at s.heap its out
  have sl : 64 ≤ sizeLine := by decide
  refine ⟨.ref _, _, I.laid (t' := s.toks) (a := s.heap.objs.size + 1) (o := .lst (ns'.map V.int)) (fun b u hu => sortedAll_old hu) (Nat.le_succ _) ⟨?_, out.toList, e, vals_ints h1, he⟩, rfl, q ns' _ h2 h3 (I.hok.fresh (Nat.le_succ _))⟩
  rw [List.length_map, h2.length_eq]
  omega
end
section
variable {X : Cx} {K : PySem.W.Frag} {a b c e o elt iter tg : Expr} {es ifs : List Expr} {da db : DE} {dt : DA} {dT : DT} {pos p pos' apos cpos spos : Pos} {x : Str} {i j k : Nat} {N : List Str} {nt : Nat} {fr : List Nat} {scope : Scope} {dg : DG} {dc : DC}
def intsOf : List PyData → Option (List Int)
  | [] => some []
  | .int i :: ds => (intsOf ds).map (i :: ·)
  | _ :: _ => none
theorem intsOf_map (ns : List Int) : intsOf (ns.map PyData.int) = some ns := by
  induction ns with
  | nil => rfl
  | cons n ns ih => rw [List.map_cons, intsOf, ih]; rfl
theorem intsOf_eq : ∀ {ds : List PyData} {ns : List Int}, intsOf ds = some ns → ds = ns.map PyData.int
  | [], _, e => by simp only [intsOf] at e; cases e; rfl
  | .int i :: ds, _, e => by
    simp only [intsOf, Option.map_eq_some_iff] at e
    obtain ⟨ns, e1, rfl⟩ := e
    rw [intsOf_eq e1]; rfl
  | .none :: _, _, e => by simp [intsOf] at e
  | .bool _ :: _, _, e => by simp [intsOf] at e
  | .str _ :: _, _, e => by simp [intsOf] at e
  | .list _ :: _, _, e => by simp [intsOf] at e
  | .tuple _ :: _, _, e => by simp [intsOf] at e
  | .dict _ :: _, _, e => by simp [intsOf] at e
theorem DtAll.ints' {H : Hp} : ∀ {vs : List V} {ns : List Int}, DtAll K H vs (ns.map PyData.int) → vs = ns.map V.int
  | _, [], .nil => rfl
  | _, _ :: _, .cons (.int _) t => by rw [List.map_cons, DtAll.ints' t]
/-- sorted(xs), xs fewer than 64 numbers -/
def dSorted (t : DA) : DE := fun ρ Q => t ρ fun rs ρ1 => ∃ ds ns, datL ρ1 rs = some [.list ds] ∧ intsOf ds = some ns ∧ ns.length < 64 ∧ ∀ ns' : List Int, ns'.Perm ns → ns'.Pairwise (· ≤ ·) → Q (.val (.lst (ns'.map PyData.int))) ρ1
theorem pd_sorted (hg : Gl X x) (hm : X.mg x = none) (hv : bootBuiltins x = some (.builtin "sorted")) (hn : x ≠ "__name__" := by decide) (hdb : (x == ("__debug__" : Str)) = false := by decide)
    (he : starEach (e :: es) X.env = (false, eval e X.env) :: starEach es X.env := by rfl) (hpl : (backTo pos (starEach es X.env)).any (·.1) = false := by rfl) : PDa X (e :: es) dt → PDe X (.Call (.Name x p) (e :: es) [] pos) (dSorted dt)
  | ⟨_, h1, s1⟩ => ⟨_, pe_callB call_sorted hg hm hv h1 hn hdb he hpl, fun b F σ H ρ τ θ Qd Q hK R h q => s1 b F σ H ρ τ θ _ _ hK R h fun vs H1 rs ρ1 el R1 ⟨ds, ns, e1, e2, hl, h1⟩ => by
    have hd := R1.dtL el e1
    have R2 := R1.drops el
    have := intsOf_eq e2
    subst this
    cases hd with
    | cons r t =>
      cases t
      cases r with
      | lst s t =>
        rw [t.ints', hK] at s
        refine ⟨_, ns, rfl, s, hl, fun ns' a' pm pw ha => ?_⟩
        exact q _ _ _ _ (R2.push (R2.wd.newLst (vs := ns'.map V.int) (ds := ns'.map PyData.int) (fun S _ => FzA.ints ns') ha)) (h1 ns' pm pw)⟩
/-! ### a comprehension over a list that goes on to be owned -/
def dCompB (i : Nat) (nt : Nat) (fr : List Nat) (g : DG) (act : DC) : DE := fun ρ Q => ∃ ds, ρ[i]?.join = some (.lst ds) ∧ ds.length < 1000000 ∧ ∃ inner ρ2, capt (ρ.set i none) fr = some (inner, ρ2) ∧ ∃ Iv : Nat → List PyData → DEnv → Prop, Iv 0 [] (List.replicate nt none ++ inner) ∧
  (∀ k d out ρ, ds[k]? = some d → Iv k out ρ → g (.fz d) ρ fun ρ' => act ρ' fun o ρ'' => Iv (k + 1) (out ++ o) ρ'') ∧ ∀ out ρ, Iv ds.length out ρ → Q (.val (.lst out)) ((unca ρ2 fr (ρ.drop nt)).set i (some (.lst ds)))
theorem itOk_lst (b : Bs) (a : Addr) (ds : List PyData) : ItOk b (Itl b.K a) [.ref a] [.val (.lst ds)] ds := fun F σ H ρ τ θ R k => by
  obtain ⟨a', us, e, el, hs, w'⟩ := R.wd.lsItems stk_mem1 (rfl : listOf (.lst ds) = some ds)
  cases e
  refine ⟨fun h => ⟨⟨us, us[k]'(by omega), hs, List.getElem?_eq_getElem _⟩, fun x H2 d ⟨e1, e2⟩ hd => ?_⟩, fun e => ⟨us, hs, by omega⟩⟩
  subst e1
  refine Rel.push R (w'.pick (zip_mem (e2 us hs) ?_))
  rw [List.getElem?_map, hd]; rfl
theorem snd_compB {nt : Nat} {fr : List Nat} {g : CC → TG} {tc : CC → TC} {dg : DG} {dc : DC} (s2 : ∀ c, SndG K nt (g c) dg) (s3 : ∀ c, SndC K (tc c) dc) : SndE K (tComp (iList K (tVar i)) nt fr g tc) (dCompB i nt fr dg dc) := by
  intro b F σ H ρ τ θ Qd Q hK R ⟨ds, e0, hds, inner, ρ2, hc, Iv, i0, step, fin⟩ q
  obtain ⟨v, ev, w0⟩ := R.slot (join_some e0)
  have wfo : Wf σ (ρ.set i none) := R.wf.off
  have R1 : Rel b F σ H (ρ.set i none) (v :: τ) (.val (.lst ds) :: θ) := ⟨wfo, R.al, R.wff, w0⟩
  obtain ⟨a, us, rfl, el0, hs0, _⟩ := R1.wd.lsItems (R1.mem rfl) (rfl : listOf (.lst ds) = some ds)
  refine ⟨.ref a, ev, a, rfl, ⟨us, hK ▸ hs0⟩, ?_⟩
  have it := itOk_lst b a ds
  rw [hK] at it
  intro cc D hD
  have w1 : Wd b H (stk [.ref a] [.val (.lst ds)] ++ (flat σ (ρ.set i none) ++ (stk τ θ ++ ff F))) := R1.wd.perm (by
    show ((V.ref a, OD.lst ds) :: (stk τ θ ++ (flat σ (ρ.set i none) ++ ff F))).Perm ((V.ref a, OD.lst ds) :: (flat σ (ρ.set i none) ++ (stk τ θ ++ ff F)))
    refine List.Perm.cons _ ?_
    rw [← List.append_assoc, ← List.append_assoc]
    exact List.perm_append_comm.append_right _)
  obtain ⟨w2, wf2, wf3⟩ := capt_ok w1 R1.wf hc
  have w3 := w2.newLst (vs := []) (ds := []) (fun _ _ => .nil) hD
  have R2 : Rel b (⟨σ, ρ2, τ, θ⟩ :: F) (compSt nt fr σ) (upd H D (.lst [])) (List.replicate nt none ++ inner) ([.ref a] ++ [.ref D]) ([.val (.lst ds)] ++ [.val (.lst [])]) := by
    refine ⟨wf_rep wf3, trivial, fun f hf => ?_, ?_⟩
    · rcases List.mem_cons.mp hf with rfl | hf
      · exact ⟨wf2, R.al⟩
      · exact R.wff f hf
    · have ec : flat (compSt nt fr σ) (List.replicate nt none ++ inner) = flat (capV σ fr) inner := flat_rep
      rw [ec, stk_app rfl]
      refine w3.perm ?_
      have ef : ff (⟨σ, ρ2, τ, θ⟩ :: F) = (stk τ θ ++ flat σ ρ2) ++ ff F := rfl
      rw [ef]
      have e0 : stk [V.ref D] [OR.val (.lst [])] = [(V.ref D, OD.lst [])] := rfl
      rw [e0]
      refine List.Perm.trans (List.Perm.cons _ (perm_a (flat (capV σ fr) inner) (stk [.ref a] [.val (.lst ds)]) (flat σ ρ2) (stk τ θ) (ff F))) ?_
      rw [List.append_assoc (stk [.ref a] [.val (.lst ds)])]
      exact List.perm_middle.symm
  refine ⟨fun j m σ' H' => m = ds.length - j ∧ j ≤ ds.length ∧ (∀ j, nt ≤ j → σ'[j]? = (compSt nt fr σ)[j]?) ∧ ∃ out ρ', out.length ≤ j ∧ Rel b (⟨σ, ρ2, τ, θ⟩ :: F) σ' H' ρ' ([.ref a] ++ [.ref D]) ([.val (.lst ds)] ++ [.val (.lst out)]) ∧ Iv j out ρ', ⟨_, rfl, Nat.zero_le _, fun _ _ => rfl, [], _, Nat.le_refl _, R2, i0⟩, ?_⟩
  rintro j m σ' H' ⟨rfl, hi, hσ, out, ρ', ho, R', iv⟩
  obtain ⟨go, stop⟩ := it _ σ' H' ρ' [.ref D] [.val (.lst out)] R' j
  by_cases hlt : j < ds.length
  · obtain ⟨g1, g2⟩ := go hlt
    refine .inr ⟨g1, fun x H2 hy => ?_⟩
    have ed : ds[j]? = some ds[j] := List.getElem?_eq_getElem hlt
    have nn : NoRf ([.val (.lst ds)] ++ [.val (.lst out)]) := fun r hr => by simp at hr; rcases hr with rfl | rfl <;> exact ⟨_, rfl⟩
    refine s2 cc b _ σ' H2 ρ' _ _ x _ _ _ hK nn (g2 x H2 _ hy ed) (step j _ out ρ' ed iv) fun σ3 H3 ρ3 R3 k3 h3 => ?_
    exact s3 cc b _ σ3 H3 ρ3 [.ref a] [.val (.lst ds)] D out _ _ hK rfl (by omega) R3 h3 fun H4 ρ4 o R4 lo h4 => ⟨_, by omega, rfl, hlt, fun j hj => (k3 j hj).1.trans (hσ j hj), out ++ o, ρ4, by rw [List.length_append]; omega, R4, h4⟩
  · have e : j = ds.length := by omega
    subst e
    refine .inl ⟨stop rfl, q _ H' _ _ ?_ (fin out ρ' iv)⟩
    have ed : σ'.drop nt = capV σ fr := by
      apply List.ext_getElem?
      intro j
      rw [List.getElem?_drop, hσ _ (by omega)]
      unfold compSt capV
      rw [List.getElem?_append_right (by simp), List.length_replicate, Nat.add_sub_cancel_left]
    have w4 : Wd b H' ((.ref D, .lst out) :: (stk [.ref a] [.val (.lst ds)] ++ (flat σ' ρ' ++ ((stk τ θ ++ flat σ ρ2) ++ ff F)))) := R'.wd.perm (by
      rw [stk_app rfl]
      have e0 : stk [V.ref D] [OR.val (.lst out)] = [(V.ref D, OD.lst out)] := rfl
      rw [e0, List.append_assoc]
      exact List.perm_middle)
    obtain ⟨L0, eL⟩ := flat_drop (n := nt) R'.wf
    rw [eL, ed] at w4
    have w5 : Wd b H' (((.ref a, .lst ds) :: (.ref D, .lst out) :: stk τ θ) ++ (flat (capV σ fr) (ρ'.drop nt) ++ (flat σ ρ2 ++ ff F))) := by
      refine Wd.drops (L1 := L0) (w4.perm ?_)
      refine (perm_b (.ref D, .lst out) (stk [.ref a] [.val (.lst ds)]) L0 (flat (capV σ fr) (ρ'.drop nt)) (stk τ θ) (flat σ ρ2) (ff F)).trans ?_
      show ((V.ref a, OD.lst ds) :: (L0 ++ _)).Perm _
      exact List.perm_middle.symm
    have wfd : Wf (capV σ fr) (ρ'.drop nt) := ed ▸ R'.wf.drop
    obtain ⟨w6, wf6⟩ := unca_ok w5 wf2 wfd
    have w7 : Wd b H' ((.ref a, .lst ds) :: (stk (.ref D :: τ) (.val (.lst out) :: θ) ++ (flat σ ((unca ρ2 fr (ρ'.drop nt)).set i none) ++ ff F))) := Wd.offSlot (L1 := (.ref a, .lst ds) :: stk (.ref D :: τ) (.val (.lst out) :: θ)) w6 wf6 i
    exact Rel.back (τ := .ref D :: τ) (θ := .val (.lst out) :: θ) wf6 R.al R.wff ev w7
theorem pd_compB (hN : X.N[i]? = some x) (hv : Vis X.env.scope x) (hd : (x == ("__debug__" : Str)) = false := by decide) (hcd : (x == ("__classdict__" : Str)) = false := by decide) (hc : X.calm = true) (S : CompScope N nt fr X.N scope X.env.scope) (hs : ∀ y, foldedSetIterable (.Name x pos') X.env y = pure y := by intro _; rfl) (hg : ∀ c : CC, PDg (cxC X N scope c) nt tg dg) (ha : ∀ c : CC, PDc (cxC X N scope c) ifs elt dc) :
    PDe X (.ListComp elt [⟨tg, .Name x pos', ifs, 0⟩] scope pos) (dCompB i nt fr dg dc) := by
  obtain ⟨g, hg'⟩ := PDg.ex (K := X.K) (Y := fun c => cxC X N scope c) (fun _ => rfl) hg
  obtain ⟨tc, hc'⟩ := PDc.ex (K := X.K) (Y := fun c => cxC X N scope c) (fun _ => rfl) ha
  exact ⟨_, pe_comp hc S (pi_list (pe_var hN hv hd hcd)) (fun c => (hg' c).1) (fun c D => (hc' c).1 D) hs, snd_compB (fun c => (hg' c).2) fun c => (hc' c).2⟩
end
/-! walking -/
section
variable {i : Nat} {a : DE} {t : DA} {D : DEnds} {ρ : DEnv} {Q : DK} {ds : List PyData} {nt : Nat} {fr : List Nat} {g : DG} {act : DC}
theorem w_sorted (h : t ρ fun rs ρ1 => ∃ ds ns, datL ρ1 rs = some [.list ds] ∧ intsOf ds = some ns ∧ ns.length < 64 ∧ ∀ ns' : List Int, ns'.Perm ns → ns'.Pairwise (· ≤ ·) → Q (.val (.lst (ns'.map PyData.int))) ρ1) : dSorted t ρ Q := h
theorem w_compB (e : ρ[i]?.join = some (.lst ds)) (h : CompG ds (ρ.set i none) fr nt g act fun r ρ' => Q r (ρ'.set i (some (.lst ds)))) : dCompB i nt fr g act ρ Q := ⟨ds, e, h⟩
theorem k_any {es : List PyData} {bs : List Bool} {Q : PyData → Prop} (e : allB es = some bs) (h : Q (.bool (bs.any id))) : dAny [.list es] Q := ⟨es, bs, rfl, e, h⟩
end
end L2
namespace L2
open PySem PySem.Spec PyProof.Rows
/-! ### what stands at hand, reckoned step by step -/
section
variable {ρ ρ2 : DEnv} {r : OR} {rs : List OR} {x y : OD} {xs : List OD} {d : PyData} {ds : List PyData} {i : Nat} {k : Int} {c : CD} {cs : List CD}
theorem ev_frzV (e : x.dat = some d) : frz1 ρ (.val x) = some (d, ρ) := by simp only [frz1, e, Option.map_some]
theorem ev_frzR (e : ρ[i]?.join = some x) (ed : x.dat = some d) : frz1 ρ (.rf i) = some (d, ρ.set i (some (.fz d))) := by simp only [frz1, e, Option.bind_some, ed, Option.map_some]
theorem ev_frzN : frzL ρ [] = some ([], ρ) := rfl
theorem ev_frzC {ρ1 : DEnv} (h : frz1 ρ r = some (d, ρ1)) (t : frzL ρ1 rs = some (ds, ρ2)) : frzL ρ (r :: rs) = some (d :: ds, ρ2) := by simp only [frzL, h, Option.bind_some, t, Option.map_some]
theorem ev_ownV : own1 ρ (.val x) = some (x, ρ) := rfl
theorem ev_mvV : mv1 ρ (.val x) = some (x, ρ) := rfl
theorem ev_mvR (e : ρ[i]?.join = some x) : mv1 ρ (.rf i) = some (x, ρ.set i none) := by simp only [mv1, e, Option.map_some]
theorem ev_mapN {f : DEnv → OR → Option (OD × DEnv)} : mapR f ρ [] = some ([], ρ) := rfl
theorem ev_mapC {f : DEnv → OR → Option (OD × DEnv)} {ρ1 : DEnv} (h : f ρ r = some (x, ρ1)) (t : mapR f ρ1 rs = some (xs, ρ2)) : mapR f ρ (r :: rs) = some (x :: xs, ρ2) := by simp only [mapR, h, Option.bind_some, t, Option.map_some]
theorem ev_fzN : fzL [] = some [] := rfl
theorem ev_fzC (t : fzL xs = some ds) : fzL (.fz d :: xs) = some (d :: ds) := by simp only [fzL, t, Option.map_some]
theorem ev_cdN : cdL [] = some [] := rfl
theorem ev_cdC (h : x.cd = some c) (t : cdL xs = some cs) : cdL (x :: xs) = some (c :: cs) := by simp only [cdL, h, Option.bind_some, t, Option.map_some]
theorem ev_tupF (h : fzL xs = some ds) : mkTup xs = some (.fz (.tuple ds)) := by simp only [mkTup, h]
theorem ev_tupC (h : fzL xs = none) (t : cdL xs = some cs) : mkTup xs = some (.tup cs) := by simp only [mkTup, h, t, Option.map_some]
theorem ev_lstF (h : fzL xs = some ds) : mkLst xs = some (.lst ds) := by simp only [mkLst, h]
theorem ev_lstC (h : fzL xs = none) (t : cdL xs = some cs) : mkLst xs = some (.lsc cs) := by simp only [mkLst, h, t, Option.map_some]
theorem ev_datV (e : x.dat = some d) : datR ρ (.val x) = some d := e
theorem ev_datR (e : ρ[i]?.join = some x) (ed : x.dat = some d) : datR ρ (.rf i) = some d := by simp only [datR, e, Option.bind_some, ed]
theorem ev_dlN : datL ρ [] = some [] := rfl
theorem ev_dlC (h : datR ρ r = some d) (t : datL ρ rs = some ds) : datL ρ (r :: rs) = some (d :: ds) := by simp only [datL, h, Option.bind_some, t, Option.map_some]
theorem ev_itV (h : itemO x k = some y) : itemR ρ (.val x) k = some (y, ρ) := by simp only [itemR, h, Option.map_some]
theorem ev_lsV (e : listOf x = some ds) : lsR ρ (.val x) = some ds := by simp only [lsR, contR, Option.bind_some, e]
theorem ev_capN : capt ρ [] = some ([], ρ) := rfl
theorem ev_capF {js : List Nat} {inner : DEnv} (e : ρ[i]?.join = some x) (ed : x.dat = some d) (t : capt (ρ.set i (some (.fz d))) js = some (inner, ρ2)) : capt ρ (i :: js) = some (some (.fz d) :: inner, ρ2) := by
  cases x with
  | tape p n => cases ed
  | _ => simp only [capt, e, ed, Option.bind_some, t, Option.map_some]
end
end L2
namespace L2
open PySem PySem.Spec PyProof.Rows
/-! ### data of numbers, truths, texts, lists and tuples, so deep at most -/
def PlD : Nat → PyData → Prop
  | _, .none => True
  | _, .bool _ => True
  | _, .int _ => True
  | _, .str s => PyData.strOk s = true
  | n + 1, .list ds => ∀ d ∈ ds, PlD n d
  | n + 1, .tuple ds => ∀ d ∈ ds, PlD n d
  | _, _ => False
theorem PlD.all {P : PyData → Prop} : ∀ {ds : List PyData}, (∀ d ∈ ds, P d → d.canLay0 = true) → (∀ d ∈ ds, P d) → PyData.canLayAll0 ds = true
  | [], _, _ => rfl
  | d :: ds, h, a => by
    simp only [PyData.canLayAll0, Bool.and_eq_true]
    exact ⟨h d List.mem_cons_self (a d List.mem_cons_self), PlD.all (fun d hd => h d (List.mem_cons_of_mem _ hd)) fun d hd => a d (List.mem_cons_of_mem _ hd)⟩
theorem PlD.dep {n : Nat} : ∀ {ds : List PyData}, (∀ d ∈ ds, d.depth ≤ n) → PyData.depthAll ds ≤ n
  | [], _ => by simp [PyData.depthAll]
  | d :: ds, h => by
    have h1 := h d List.mem_cons_self
    have h2 := PlD.dep (ds := ds) fun d hd => h d (List.mem_cons_of_mem _ hd)
    simp only [PyData.depthAll]
    omega
theorem PlD.lay : ∀ {n : Nat} {d : PyData}, PlD n d → d.canLay0 = true ∧ d.depth ≤ n
  | n, .none, _ => ⟨rfl, by simp [PyData.depth]⟩
  | n, .bool _, _ => ⟨rfl, by simp [PyData.depth]⟩
  | n, .int _, _ => ⟨rfl, by simp [PyData.depth]⟩
  | n, .str s, h => by
    refine ⟨?_, by simp [PyData.depth]⟩
    cases n <;> simpa [PlD, PyData.canLay0] using h
  | 0, .list ds, h => by simp [PlD] at h
  | 0, .tuple ds, h => by simp [PlD] at h
  | n + 1, .list ds, h => by
    simp only [PlD] at h
    refine ⟨by simp only [PyData.canLay0]; exact PlD.all (P := PlD n) (fun d _ hd => hd.lay.1) h, ?_⟩
    have := PlD.dep (n := n) (ds := ds) fun d hd => (h d hd).lay.2
    simp only [PyData.depth]
    omega
  | n + 1, .tuple ds, h => by
    simp only [PlD] at h
    refine ⟨by simp only [PyData.canLay0]; exact PlD.all (P := PlD n) (fun d _ hd => hd.lay.1) h, ?_⟩
    have := PlD.dep (n := n) (ds := ds) fun d hd => (h d hd).lay.2
    simp only [PyData.depth]
    omega
  | 0, .dict _, h => by simp [PlD] at h
  | _ + 1, .dict _, h => by simp [PlD] at h
theorem PlD.shaped {n : Nat} {d : PyData} (h : PlD n d) (hn : n ≤ 20) : SeqAt.shaped d = true := by
  obtain ⟨h1, h2⟩ := h.lay
  unfold SeqAt.shaped
  rw [Bool.and_eq_true]
  exact ⟨h1, decide_eq_true (by omega)⟩
theorem PlD.map {α : Type} {f : α → PyData} {n : Nat} {xs : List α} (h : ∀ x ∈ xs, PlD n (f x)) : PlD (n + 1) (.list (xs.map f)) := by
  simp only [PlD]
  intro d hd
  obtain ⟨i, hi, rfl⟩ := List.mem_map.mp hd
  exact h i hi
theorem PlD.int (n : Nat) (i : Int) : PlD n (.int i) := by cases n <;> simp [PlD]
/-- a list and [] -/
theorem k_neNil {n : Nat} {ds : List PyData} {Q : PyData → Prop} (h : PlD n (.list ds)) (hn : n ≤ 20) (q : Q (.bool (!ds.isEmpty))) : dNeD (.list ds) (.list []) Q :=
  ⟨h.shaped hn, by decide +kernel, by
    have : PyData.eqv (.list ds) (.list []) = ds.isEmpty := by cases ds <;> simp [PyData.eqv, PyData.eqvAll]
    rw [this]; exact q⟩
theorem k_eqNil {n : Nat} {ds : List PyData} {Q : PyData → Prop} (h : PlD n (.list ds)) (hn : n ≤ 20) (q : Q (.bool ds.isEmpty)) : dEqD (.list ds) (.list []) Q :=
  ⟨h.shaped hn, by decide +kernel, by
    have : PyData.eqv (.list ds) (.list []) = ds.isEmpty := by cases ds <;> simp [PyData.eqv, PyData.eqvAll]
    rw [this]; exact q⟩
/-! ### names that are never changed again -/
section
variable {X : Cx} {K : PySem.W.Frag} {a b c e elt iter tg : Expr} {es ifs : List Expr} {da db : DE} {dt : DA} {dT : DT} {pos p : Pos} {x : Str} {N : List Str} {nt : Nat} {fr : List Nat} {scope : Scope} {di : DI} {dg : DG} {dc : DC}
def dSetF (i : Nat) (a : DE) : DS := fun D ρ => a ρ fun r ρ1 => ∃ d ρ2, frz1 ρ1 r = some (d, ρ2) ∧ i < ρ2.length ∧ D.nx (ρ2.set i (some (.fz d)))
theorem pds_setF {i : Nat} {pos' : Pos} (hN : X.N.Nodup) (hi : X.N[i]? = some x) (hx : Loc X.env.scope x) (hs : swapsWith e (some (.Name x pos')) pos.line X.env = pure false := by rfl) (hf : X.fn x = true ∨ X.env.scope.names.lookup x = some .local := by first | exact .inl rfl | exact .inr rfl | assumption) :
    PDe X e da → PDs X (.Assign [.Name x pos'] e pos) (dSetF i da)
  | ⟨_, h, s⟩ => ⟨_, ps_set hN hi hx h hs hf, fun b F σ H ρ τ θ Dd D hK n R h E => s b F σ H ρ τ θ _ _ hK R h fun v H1 r ρ1 R1 ⟨x, ρ2, e, hi, h1⟩ => E.nx _ H1 _ ((R1.frz1 e).store n hi) h1⟩
theorem pds_setCF {i : Nat} {y : Str} {py spos : Pos} (hN : X.N.Nodup) (hy : X.N[i]? = some y) (hl : X.env.scope.names.lookup y = some .local) (hc : X.calm = true) (S : CompScope N nt fr X.N scope X.env.scope) (hs : ∀ x, foldedSetIterable iter X.env x = pure x := by intro _; rfl)
    (hsw : swapsWith (.ListComp elt [⟨tg, iter, ifs, 0⟩] scope pos) (some (.Name y py)) spos.line X.env = pure true := by rfl)
    (hi : PDi X tg iter di) (hg : ∀ c : CC, PDg (cxC X N scope c) nt tg dg) (ha : ∀ c : CC, PDc (cxC X N scope c) ifs elt dc) : PDs X (.Assign [.Name y py] (.ListComp elt [⟨tg, iter, ifs, 0⟩] scope pos) spos) (dSetF i (dComp di nt fr dg dc)) := by
  obtain ⟨wi, h1, s1⟩ := hi
  obtain ⟨g, hg'⟩ := PDg.ex (K := X.K) (Y := fun c => cxC X N scope c) (fun _ => rfl) hg
  obtain ⟨tc, hc'⟩ := PDc.ex (K := X.K) (Y := fun c => cxC X N scope c) (fun _ => rfl) ha
  refine ⟨_, ps_setC hN hy hl hc S h1 (fun c => (hg' c).1) (fun c D => (hc' c).1 D) hs hsw, fun b F σ H ρ τ θ Dd D hK n R h E => ?_⟩
  exact snd_comp s1 (fun c => (hg' c).2) (fun c => (hc' c).2) b F σ H ρ τ θ _ _ hK R h fun v H1 r ρ1 R1 ⟨x, ρ2, e, hi, h1⟩ => E.nx _ H1 _ ((R1.frz1 e).store n hi) h1
end
end L2
namespace L2
open PySem PySem.Spec PyProof.Rows
/-! ### any([f(n) for n in x[k]]), x a tuple that goes on to own its list of numbers -/
section
variable {X : Cx} {K : PySem.W.Frag} {e elt : Expr} {pos p pos' spos cpos : Pos} {x y : Str} {i k : Nat} {N : List Str} {scope : Scope}
end
end L2
namespace L2
open PySem PySem.Spec PyProof.Rows
/-! ### xs[k] = .., xs in slot i -/
def dgSub (i : Nat) (kx : DE) : DG := fun x ρ Q => ∃ d, x.dat = some d ∧ (∃ ds, ρ[i]?.join = some (.lst ds)) ∧ kx ρ fun r ρ1 => ∃ z ds j, datR ρ1 r = some (.int z) ∧ ρ1[i]?.join = some (.lst ds) ∧ ixN ds.length z = some j ∧ Q (ρ1.set i (some (.lst (ds.set j d))))
section
variable {X : Cx} {K : PySem.W.Frag} {e : Expr} {da : DE} {pos pos' : Pos} {x : Str} {i m : Nat}
theorem pdg_sub (hN : X.N[i]? = some x) (hv : Vis X.env.scope x) (hm : X.N.length ≤ m) (hl : ∀ pins σ H s, Inv X pins σ H s → σ.length = X.N.length) (hd : (x == ("__debug__" : Str)) = false) (hcd : (x == ("__classdict__" : Str)) = false)
    (ha : ∀ v, assign (.Subscript (.Name x pos') e pos) X.env v = (do
      let ov ← holding [v] (eval (.Name x pos') X.env)
      let iv ← holding [v, ov] (eval e X.env)
      standAt pos
      holding [v, ov, iv] (setItem ov iv v)
      release [v, ov, iv] [])) : PDe X e da → PDg X m (.Subscript (.Name x pos') e pos) (dgSub i da)
  | ⟨te, h, s⟩ => ⟨fun v σ H Q => σ.length = X.N.length → gSub (tVar i) te rSetL v σ H Q, fun pins s σ H v u Q I r hh => pg_sub (pe_var hN hv hd hcd) h set_list ha pins s σ H v u Q I r (hh (hl _ _ _ _ I)), fun b F σ H ρ τ θ v x Qd Q hK n R ⟨d, e, ⟨ds0, e0⟩, h⟩ q hlen => by
    obtain ⟨a0, vs0, ev, h0, _, _⟩ := R.mutS e0
    refine ⟨.ref a0, ev, ?_⟩
    refine s b F σ H ρ (v :: τ) (.val x :: θ) _ _ hK R h fun v1 H1 r ρ1 R1 ⟨z, ds, j, e1, e2, e3, h1⟩ => ?_
    have hv1 := R1.dt e1
    cases hv1
    have R2 : Rel b F σ H1 ρ1 (v :: τ) (.val (.fz d) :: θ) := Rel.frz1 R1.drop (by simp only [L2.frz1, e]; rfl)
    obtain ⟨a, ws, ev', hH, hl, go⟩ := R2.mutS e2
    rw [ev] at ev'
    cases ev'
    have hle : ρ.length ≤ m := by rw [← R.wf.len, hlen]; exact hm
    have hle1 : ρ1.length ≤ m := by rw [← R1.wf.len, hlen]; exact hm
    refine ⟨a0, ws, z, j, rfl, rfl, hH, by rw [hl]; exact e3, ?_⟩
    refine q σ _ _ (Rel.drop (go (ws.set j v) (ds.set j d) fun S h1 h2 => FzA.set (h2 v d (by simp [stk])) j h1)) (fun k hk => ⟨rfl, ?_⟩) h1
    rw [List.getElem?_eq_none (by rw [List.length_set]; omega), List.getElem?_eq_none (by omega)]⟩
end
theorem w_gsub {i : Nat} {kx : DE} {x : OD} {d : PyData} {ρ : DEnv} {Q : DEnv → Prop} (e : x.dat = some d) (f : ∃ ds, ρ[i]?.join = some (.lst ds)) (h : kx ρ fun r ρ1 => ∃ z ds j, datR ρ1 r = some (.int z) ∧ ρ1[i]?.join = some (.lst ds) ∧ ixN ds.length z = some j ∧ Q (ρ1.set i (some (.lst (ds.set j d))))) : dgSub i kx x ρ Q := ⟨d, e, f, h⟩
end L2
namespace L2
/-! ### what there is, in one step -/
theorem x1_2 {α : Type} {A B : α → Prop} (a : α) (h0 : A a) (h1 : B a) : ∃ a, A a ∧ B a := ⟨a, h0, h1⟩
theorem x1_3 {α : Type} {A B C : α → Prop} (a : α) (h0 : A a) (h1 : B a) (h2 : C a) : ∃ a, A a ∧ B a ∧ C a := ⟨a, h0, h1, h2⟩
theorem x1_4 {α : Type} {A B C D : α → Prop} (a : α) (h0 : A a) (h1 : B a) (h2 : C a) (h3 : D a) : ∃ a, A a ∧ B a ∧ C a ∧ D a := ⟨a, h0, h1, h2, h3⟩
theorem x2_2 {α : Type} {β : Type} {A B : α → β → Prop} (a : α) (b : β) (h0 : A a b) (h1 : B a b) : ∃ a b, A a b ∧ B a b := ⟨a, b, h0, h1⟩
theorem x2_3 {α : Type} {β : Type} {A B C : α → β → Prop} (a : α) (b : β) (h0 : A a b) (h1 : B a b) (h2 : C a b) : ∃ a b, A a b ∧ B a b ∧ C a b := ⟨a, b, h0, h1, h2⟩
theorem x2_4 {α : Type} {β : Type} {A B C D : α → β → Prop} (a : α) (b : β) (h0 : A a b) (h1 : B a b) (h2 : C a b) (h3 : D a b) : ∃ a b, A a b ∧ B a b ∧ C a b ∧ D a b := ⟨a, b, h0, h1, h2, h3⟩
theorem x3_3 {α : Type} {β : Type} {γ : Type} {A B C : α → β → γ → Prop} (a : α) (b : β) (c : γ) (h0 : A a b c) (h1 : B a b c) (h2 : C a b c) : ∃ a b c, A a b c ∧ B a b c ∧ C a b c := ⟨a, b, c, h0, h1, h2⟩
theorem x3_4 {α : Type} {β : Type} {γ : Type} {A B C D : α → β → γ → Prop} (a : α) (b : β) (c : γ) (h0 : A a b c) (h1 : B a b c) (h2 : C a b c) (h3 : D a b c) : ∃ a b c, A a b c ∧ B a b c ∧ C a b c ∧ D a b c := ⟨a, b, c, h0, h1, h2, h3⟩
theorem x4_3 {α : Type} {β : Type} {γ : Type} {δ : Type} {A B C : α → β → γ → δ → Prop} (a : α) (b : β) (c : γ) (d : δ) (h0 : A a b c d) (h1 : B a b c d) (h2 : C a b c d) : ∃ a b c d, A a b c d ∧ B a b c d ∧ C a b c d := ⟨a, b, c, d, h0, h1, h2⟩
theorem x4_4 {α : Type} {β : Type} {γ : Type} {δ : Type} {A B C D : α → β → γ → δ → Prop} (a : α) (b : β) (c : γ) (d : δ) (h0 : A a b c d) (h1 : B a b c d) (h2 : C a b c d) (h3 : D a b c d) : ∃ a b c d, A a b c d ∧ B a b c d ∧ C a b c d ∧ D a b c d := ⟨a, b, c, d, h0, h1, h2, h3⟩
/-! ### what comes behind, under a name -/
def HE (P K : OR → DEnv → Prop) : Prop := ∀ r ρ, P r ρ → K r ρ
def HT (P K : Bool → DEnv → Prop) : Prop := ∀ r ρ, P r ρ → K r ρ
def HA (P K : List OR → DEnv → Prop) : Prop := ∀ r ρ, P r ρ → K r ρ
def HI (P K : List PyData → DEnv → Prop) : Prop := ∀ r ρ, P r ρ → K r ρ
theorem he_out {P K : OR → DEnv → Prop} {r : OR} {ρ : DEnv} (h : HE P K) (p : P r ρ) : K r ρ := h r ρ p
theorem ht_out {P K : Bool → DEnv → Prop} {r : Bool} {ρ : DEnv} (h : HT P K) (p : P r ρ) : K r ρ := h r ρ p
theorem ha_out {P K : List OR → DEnv → Prop} {r : List OR} {ρ : DEnv} (h : HA P K) (p : P r ρ) : K r ρ := h r ρ p
theorem hi_out {P K : List PyData → DEnv → Prop} {r : List PyData} {ρ : DEnv} (h : HI P K) (p : P r ρ) : K r ρ := h r ρ p
section
variable {ρ : DEnv} {D : DEnds} {n : Nat} {a : DE} {t : DT} {s1 s2 : DS} {da : DA}
theorem v_ret (h : ∀ K, HE (fun r ρ1 => ∃ x ρ2, mv1 ρ1 r = some (x, ρ2) ∧ D.rt x ρ2) K → a ρ K) : dRet a D ρ := h _ fun _ _ p => p
theorem v_ifS (h : ∀ K, HT (fun k ρ1 => if k = true then s1 D ρ1 else s2 D ρ1) K → t ρ K) : dIfS t s1 s2 D ρ := h _ fun _ _ p => p
theorem v_set (h : ∀ K, HE (fun r ρ1 => ∃ x ρ2, own1 ρ1 r = some (x, ρ2) ∧ n < ρ2.length ∧ D.nx (ρ2.set n (some x))) K → a ρ K) : dSet n a D ρ := h _ fun _ _ p => p
theorem v_setF (h : ∀ K, HE (fun r ρ1 => ∃ d ρ2, frz1 ρ1 r = some (d, ρ2) ∧ n < ρ2.length ∧ D.nx (ρ2.set n (some (.fz d)))) K → a ρ K) : dSetF n a D ρ := h _ fun _ _ p => p
theorem v_par {is : List Nat} (h : ∀ K, HA (fun rs ρ1 => ∃ xs ρ2, mapR own1 ρ1 rs = some (xs, ρ2) ∧ xs.length = is.length ∧ (∀ i ∈ is, i < ρ2.length) ∧ D.nx (setAll is xs ρ2)) K → da ρ K) : dPar is da D ρ := h _ fun _ _ p => p
theorem v_asg {g : DG} (h : ∀ K, HE (fun r ρ1 => ∃ x ρ2, own1 ρ1 r = some (x, ρ2) ∧ g x ρ2 D.nx) K → a ρ K) : dAsg a g D ρ := h _ fun _ _ p => p
theorem v_for {di : DI} {g : DG} (h : ∀ K, HI (fun ds ρ1 => ∃ Iv : Nat → DEnv → Prop, Iv 0 ρ1 ∧ (∀ k d ρ, ds[k]? = some d → Iv k ρ → g (.fz d) ρ fun ρ2 => s1 { D with nx := Iv (k + 1), ct := Iv (k + 1), bk := D.nx } ρ2) ∧ ∀ ρ, Iv ds.length ρ → D.nx ρ) K → di ρ K) : dFor di g s1 D ρ := h _ fun _ _ p => p
theorem v_app (e : ∃ ds, ρ[n]?.join = some (.lst ds)) (h : ∀ K, HE (fun r ρ1 => ∃ d ρ2 ds, frz1 ρ1 r = some (d, ρ2) ∧ ρ2[n]?.join = some (.lst ds) ∧ ds.length < 1000000 ∧ D.nx (ρ2.set n (some (.lst (ds ++ [d]))))) K → a ρ K) : dApp n a D ρ := ⟨e, h _ fun _ _ p => p⟩
end
end L2
set_option Elab.async false
set_option linter.all false
set_option maxRecDepth 100000
set_option maxHeartbeats 4000000
namespace Np
open PySem L2
def top (i : Nat) : Stmt := PySem.Challenge.pw_nearpool_k26_the_least_long_jumps.main.body.getD i (.Pass ⟨0, 0, 0, 0⟩)
abbrev s_is_great : Stmt := top 2
abbrev s_is_jump : Stmt := top 3
abbrev s_jumps_of : Stmt := top 4
abbrev s_falls : Stmt := top 5
abbrev s_size_of : Stmt := top 10
abbrev s_has_over : Stmt := top 11
abbrev s_first_word : Stmt := top 12
abbrev s_placed : Stmt := top 13
abbrev s_farthest : Stmt := top 15
abbrev s_too_short : Stmt := top 16
abbrev s_least_longs : Stmt := top 17
abbrev s_cell_at : Stmt := top 19
abbrev s_tape : Stmt := top 20
abbrev s_take : Stmt := top 21
abbrev s_great : Stmt := top 22
abbrev s_l_is_great : Stmt := top 25
abbrev s_size : Stmt := top 26
abbrev s_l_placed : Stmt := top 27
abbrev s_l_too_short : Stmt := top 28
abbrev s_jumpy : Stmt := top 29
abbrev s_same : Stmt := top 30
abbrev s_common : Stmt := top 31
abbrev s_law : Stmt := top 32
theorem sc_is_great : FnScope ["row"] ["row"] (defScope s_is_great) := ⟨rfl, rfl, rfl, by decide +kernel, rfl, by decide +kernel, by decide +kernel⟩
theorem sc_is_jump : FnScope ["row"] ["row"] (defScope s_is_jump) := ⟨rfl, rfl, rfl, by decide +kernel, rfl, by decide +kernel, by decide +kernel⟩
theorem sc_jumps_of : FnScope ["rows"] ["rows"] (defScope s_jumps_of) := ⟨rfl, rfl, rfl, by decide +kernel, rfl, by decide +kernel, by decide +kernel⟩
theorem sn_jumps_of_0 : CompOk ["at", "row"] 2 [] ["rows"] ((compsS 40 s_jumps_of).getD 0 noScope) (defScope s_jumps_of) := ⟨⟨rfl, by decide +kernel, by decide +kernel, rfl, compOut (by decide +kernel), by decide +kernel, by decide +kernel⟩, by decide +kernel⟩
theorem sc_falls : FnScope ["row"] ["row"] (defScope s_falls) := ⟨rfl, rfl, rfl, by decide +kernel, rfl, by decide +kernel, by decide +kernel⟩
theorem sc_size_of : FnScope ["rows", "longs", "at"] ["rows", "longs", "at"] (defScope s_size_of) := ⟨rfl, rfl, rfl, by decide +kernel, rfl, by decide +kernel, by decide +kernel⟩
theorem sc_has_over : FnScope ["rows", "gap"] ["rows", "gap"] (defScope s_has_over) := ⟨rfl, rfl, rfl, by decide +kernel, rfl, by decide +kernel, by decide +kernel⟩
theorem sc_first_word : FnScope ["rows", "gap", "place"] ["rows", "gap", "place"] (defScope s_first_word) := ⟨rfl, rfl, rfl, by decide +kernel, rfl, by decide +kernel, by decide +kernel⟩
theorem sc_placed : FnScope ["rows", "longs", "pools", "words", "places", "begins", "place", "gap"] ["rows", "longs", "pools"] (defScope s_placed) := ⟨rfl, rfl, rfl, by decide +kernel, rfl, by decide +kernel, by decide +kernel⟩
theorem sn_placed_0 : CompOk ["gap", "numbers"] 2 [] ["rows", "longs", "pools", "words", "places", "begins", "place", "gap"] ((compsS 40 s_placed).getD 0 noScope) (defScope s_placed) := ⟨⟨rfl, by decide +kernel, by decide +kernel, rfl, compOut (by decide +kernel), by decide +kernel, by decide +kernel⟩, by decide +kernel⟩
theorem sc_farthest : FnScope ["row", "hop"] ["row", "hop"] (defScope s_farthest) := ⟨rfl, rfl, rfl, by decide +kernel, rfl, by decide +kernel, by decide +kernel⟩
theorem sc_too_short : FnScope ["rows", "longs", "pools", "hop", "places", "begins", "end", "goals", "short"] ["rows", "longs", "pools", "hop"] (defScope s_too_short) := ⟨rfl, rfl, rfl, by decide +kernel, rfl, by decide +kernel, by decide +kernel⟩
theorem sn_too_short_0 : CompOk ["at", "longs"] 1 [1] ["rows", "longs", "pools", "hop", "places", "begins", "end", "goals", "short"] ((compsS 40 s_too_short).getD 0 noScope) (defScope s_too_short) := ⟨⟨rfl, by decide +kernel, by decide +kernel, rfl, compOut (by decide +kernel), by decide +kernel, by decide +kernel⟩, by decide +kernel⟩
theorem sn_too_short_1 : CompOk ["at", "hop", "rows", "goals", "places"] 1 [3, 0, 7, 4] ["rows", "longs", "pools", "hop", "places", "begins", "end", "goals", "short"] ((compsS 40 s_too_short).getD 1 noScope) (defScope s_too_short) := ⟨⟨rfl, by decide +kernel, by decide +kernel, rfl, compOut (by decide +kernel), by decide +kernel, by decide +kernel⟩, by decide +kernel⟩
theorem sc_least_longs : FnScope ["rows", "hop", "longs", "short"] ["rows", "hop"] (defScope s_least_longs) := ⟨rfl, rfl, rfl, by decide +kernel, rfl, by decide +kernel, by decide +kernel⟩
theorem sc_cell_at : FnScope ["_law_script", "_law_k"] ["_law_script", "_law_k"] (defScope s_cell_at) := ⟨rfl, rfl, rfl, by decide +kernel, rfl, by decide +kernel, by decide +kernel⟩
theorem sc_tape : FnScope ["_law_script", "_law_k", "_law_cell"] ["_law_script", "_law_k"] (defScope s_tape) := ⟨rfl, rfl, rfl, by decide +kernel, rfl, by decide +kernel, by decide +kernel⟩
theorem sc_take : FnScope ["_law_tape_here", "_law_many", "_law_found", "_law_once"] ["_law_tape_here", "_law_many"] (defScope s_take) := ⟨rfl, rfl, rfl, by decide +kernel, rfl, by decide +kernel, by decide +kernel⟩
theorem sc_great : FnScope ["_law_tape_here", "_law_way", "_law_any_one"] ["_law_tape_here"] (defScope s_great) := ⟨rfl, rfl, rfl, by decide +kernel, rfl, by decide +kernel, by decide +kernel⟩
theorem sc_l_is_great : FnScope ["_law_row"] ["_law_row"] (defScope s_l_is_great) := ⟨rfl, rfl, rfl, by decide +kernel, rfl, by decide +kernel, by decide +kernel⟩
theorem sc_size : FnScope ["_law_rows_here", "_law_longs_here", "_law_k"] ["_law_rows_here", "_law_longs_here", "_law_k"] (defScope s_size) := ⟨rfl, rfl, rfl, by decide +kernel, rfl, by decide +kernel, by decide +kernel⟩
theorem sc_l_placed : FnScope ["_law_rows_here", "_law_longs_here", "_law_pools", "_law_places", "_law_begins", "_law_place", "_law_gap", "_law_at", "_law_numbers"] ["_law_rows_here", "_law_longs_here", "_law_pools"] (defScope s_l_placed) := ⟨rfl, rfl, rfl, by decide +kernel, rfl, by decide +kernel, by decide +kernel⟩
theorem sc_l_too_short : FnScope ["_law_rows_here", "_law_longs_here", "_law_pools", "_law_hop", "_law_places", "_law_begins", "_law_end", "_law_goals", "_law_found", "_law_k", "_law_row", "_law_far"] ["_law_rows_here", "_law_longs_here", "_law_pools", "_law_hop"] (defScope s_l_too_short) := ⟨rfl, rfl, rfl, by decide +kernel, rfl, by decide +kernel, by decide +kernel⟩
theorem sc_jumpy : FnScope ["_law_tape_here", "_law_many", "_law_found", "_law_k", "_law_greats", "_law_turn", "_law_t"] ["_law_tape_here"] (defScope s_jumpy) := ⟨rfl, rfl, rfl, by decide +kernel, rfl, by decide +kernel, by decide +kernel⟩
theorem sn_jumpy_0 : CompOk ["_law_row"] 1 [] ["_law_tape_here", "_law_many", "_law_found", "_law_k", "_law_greats", "_law_turn", "_law_t"] ((compsS 40 s_jumpy).getD 0 noScope) (defScope s_jumpy) := ⟨⟨rfl, by decide +kernel, by decide +kernel, rfl, compOut (by decide +kernel), by decide +kernel, by decide +kernel⟩, by decide +kernel⟩
theorem sc_same : FnScope ["_law_found", "_law_due"] ["_law_found", "_law_due"] (defScope s_same) := ⟨rfl, rfl, rfl, by decide +kernel, rfl, by decide +kernel, by decide +kernel⟩
theorem sn_same_0 : CompOk ["_law_one", "_law_other"] 2 [] ["_law_found", "_law_due"] ((compsS 40 s_same).getD 0 noScope) (defScope s_same) := ⟨⟨rfl, by decide +kernel, by decide +kernel, rfl, compOut (by decide +kernel), by decide +kernel, by decide +kernel⟩, by decide +kernel⟩
theorem sc_common : FnScope ["_law_rows_here", "_law_hop", "_law_jumps", "_law_common_here", "_law_some", "_law_k", "_law_longs_here"] ["_law_rows_here", "_law_hop"] (defScope s_common) := ⟨rfl, rfl, rfl, by decide +kernel, rfl, by decide +kernel, by decide +kernel⟩
theorem sn_common_0 : CompOk ["_law_k", "_law_row"] 2 [] ["_law_rows_here", "_law_hop", "_law_jumps", "_law_common_here", "_law_some", "_law_k", "_law_longs_here"] ((compsS 40 s_common).getD 0 noScope) (defScope s_common) := ⟨⟨rfl, by decide +kernel, by decide +kernel, rfl, compOut (by decide +kernel), by decide +kernel, by decide +kernel⟩, by decide +kernel⟩
theorem sn_common_1 : CompOk ["_law_one", "_law_k"] 1 [5] ["_law_rows_here", "_law_hop", "_law_jumps", "_law_common_here", "_law_some", "_law_k", "_law_longs_here"] ((compsS 40 s_common).getD 1 noScope) (defScope s_common) := ⟨⟨rfl, by decide +kernel, by decide +kernel, rfl, compOut (by decide +kernel), by decide +kernel, by decide +kernel⟩, by decide +kernel⟩
theorem sn_common_2 : CompOk ["_law_k", "_law_longs_here"] 1 [6] ["_law_rows_here", "_law_hop", "_law_jumps", "_law_common_here", "_law_some", "_law_k", "_law_longs_here"] ((compsS 40 s_common).getD 2 noScope) (defScope s_common) := ⟨⟨rfl, by decide +kernel, by decide +kernel, rfl, compOut (by decide +kernel), by decide +kernel, by decide +kernel⟩, by decide +kernel⟩
theorem sn_common_3 : CompOk ["_law_k", "_law_longs_here"] 1 [6] ["_law_rows_here", "_law_hop", "_law_jumps", "_law_common_here", "_law_some", "_law_k", "_law_longs_here"] ((compsS 40 s_common).getD 3 noScope) (defScope s_common) := ⟨⟨rfl, by decide +kernel, by decide +kernel, rfl, compOut (by decide +kernel), by decide +kernel, by decide +kernel⟩, by decide +kernel⟩
theorem sc_law : FnScope ["_law_script", "_law_k", "_law_tape_here", "_law_rows_here", "_law_places", "_law_fars", "_law_hop", "_law_due", "_law_found", "_law_more"] ["_law_script"] (defScope s_law) := ⟨rfl, rfl, rfl, by decide +kernel, rfl, by decide +kernel, by decide +kernel⟩
theorem sn_law_0 : CompOk ["_law_k", "_law_row", "_law_places"] 2 [4] ["_law_script", "_law_k", "_law_tape_here", "_law_rows_here", "_law_places", "_law_fars", "_law_hop", "_law_due", "_law_found", "_law_more"] ((compsS 40 s_law).getD 0 noScope) (defScope s_law) := ⟨⟨rfl, by decide +kernel, by decide +kernel, rfl, compOut (by decide +kernel), by decide +kernel, by decide +kernel⟩, by decide +kernel⟩
theorem sn_law_1 : CompOk ["_law_k", "_law_found"] 1 [8] ["_law_script", "_law_k", "_law_tape_here", "_law_rows_here", "_law_places", "_law_fars", "_law_hop", "_law_due", "_law_found", "_law_more"] ((compsS 40 s_law).getD 1 noScope) (defScope s_law) := ⟨⟨rfl, by decide +kernel, by decide +kernel, rfl, compOut (by decide +kernel), by decide +kernel, by decide +kernel⟩, by decide +kernel⟩
structure Adr where
  f_is_great : Addr
  d_is_great : FuncData
  f_is_jump : Addr
  d_is_jump : FuncData
  f_jumps_of : Addr
  d_jumps_of : FuncData
  f_falls : Addr
  d_falls : FuncData
  f_size_of : Addr
  d_size_of : FuncData
  f_has_over : Addr
  d_has_over : FuncData
  f_first_word : Addr
  d_first_word : FuncData
  f_placed : Addr
  d_placed : FuncData
  f_farthest : Addr
  d_farthest : FuncData
  f_too_short : Addr
  d_too_short : FuncData
  f_least_longs : Addr
  d_least_longs : FuncData
  f_cell_at : Addr
  d_cell_at : FuncData
  f_tape : Addr
  d_tape : FuncData
  f_take : Addr
  d_take : FuncData
  f_great : Addr
  d_great : FuncData
  f_l_is_great : Addr
  d_l_is_great : FuncData
  f_size : Addr
  d_size : FuncData
  f_l_placed : Addr
  d_l_placed : FuncData
  f_l_too_short : Addr
  d_l_too_short : FuncData
  f_jumpy : Addr
  d_jumpy : FuncData
  f_same : Addr
  d_same : FuncData
  f_common : Addr
  d_common : FuncData
  f_law : Addr
  d_law : FuncData
structure Txt (K : PySem.W.Frag) (mg : Str → Option Value) (t : Adr) : Prop where
  F_is_great : Fun K "is_great" "is_great" s_is_great t.f_is_great t.d_is_great
  b_is_great : Binds K t.d_is_great ["row"] []
  m_is_great : mg "is_great" = some (.ref t.f_is_great)
  F_is_jump : Fun K "is_jump" "is_jump" s_is_jump t.f_is_jump t.d_is_jump
  b_is_jump : Binds K t.d_is_jump ["row"] []
  m_is_jump : mg "is_jump" = some (.ref t.f_is_jump)
  F_jumps_of : Fun K "jumps_of" "jumps_of" s_jumps_of t.f_jumps_of t.d_jumps_of
  b_jumps_of : Binds K t.d_jumps_of ["rows"] []
  m_jumps_of : mg "jumps_of" = some (.ref t.f_jumps_of)
  F_falls : Fun K "falls" "falls" s_falls t.f_falls t.d_falls
  b_falls : Binds K t.d_falls ["row"] []
  m_falls : mg "falls" = some (.ref t.f_falls)
  F_size_of : Fun K "size_of" "size_of" s_size_of t.f_size_of t.d_size_of
  b_size_of : Binds K t.d_size_of ["rows", "longs", "at"] []
  m_size_of : mg "size_of" = some (.ref t.f_size_of)
  F_has_over : Fun K "has_over" "has_over" s_has_over t.f_has_over t.d_has_over
  b_has_over : Binds K t.d_has_over ["rows", "gap"] []
  m_has_over : mg "has_over" = some (.ref t.f_has_over)
  F_first_word : Fun K "first_word" "first_word" s_first_word t.f_first_word t.d_first_word
  b_first_word : Binds K t.d_first_word ["rows", "gap", "place"] []
  m_first_word : mg "first_word" = some (.ref t.f_first_word)
  F_placed : Fun K "placed" "placed" s_placed t.f_placed t.d_placed
  b_placed : Binds K t.d_placed ["rows", "longs", "pools"] []
  m_placed : mg "placed" = some (.ref t.f_placed)
  F_farthest : Fun K "farthest" "farthest" s_farthest t.f_farthest t.d_farthest
  b_farthest : Binds K t.d_farthest ["row", "hop"] []
  m_farthest : mg "farthest" = some (.ref t.f_farthest)
  F_too_short : Fun K "too_short" "too_short" s_too_short t.f_too_short t.d_too_short
  b_too_short : Binds K t.d_too_short ["rows", "longs", "pools", "hop"] []
  m_too_short : mg "too_short" = some (.ref t.f_too_short)
  F_least_longs : Fun K "least_longs" "least_longs" s_least_longs t.f_least_longs t.d_least_longs
  b_least_longs : Binds K t.d_least_longs ["rows", "hop"] []
  m_least_longs : mg "least_longs" = some (.ref t.f_least_longs)
  F_cell_at : Fun K "_law_cell_at" "_law_cell_at" s_cell_at t.f_cell_at t.d_cell_at
  b_cell_at : Binds K t.d_cell_at ["_law_script", "_law_k"] []
  m_cell_at : mg "_law_cell_at" = some (.ref t.f_cell_at)
  F_tape : Fun K "_law_tape" "_law_tape" s_tape t.f_tape t.d_tape
  b_tape : Binds K t.d_tape ["_law_script", "_law_k"] []
  m_tape : mg "_law_tape" = some (.ref t.f_tape)
  F_take : Fun K "_law_take" "_law_take" s_take t.f_take t.d_take
  b_take : Binds K t.d_take ["_law_tape_here", "_law_many"] []
  m_take : mg "_law_take" = some (.ref t.f_take)
  F_great : Fun K "_law_great" "_law_great" s_great t.f_great t.d_great
  b_great : Binds K t.d_great ["_law_tape_here"] []
  m_great : mg "_law_great" = some (.ref t.f_great)
  F_l_is_great : Fun K "_law_is_great" "_law_is_great" s_l_is_great t.f_l_is_great t.d_l_is_great
  b_l_is_great : Binds K t.d_l_is_great ["_law_row"] []
  m_l_is_great : mg "_law_is_great" = some (.ref t.f_l_is_great)
  F_size : Fun K "_law_size" "_law_size" s_size t.f_size t.d_size
  b_size : Binds K t.d_size ["_law_rows_here", "_law_longs_here", "_law_k"] []
  m_size : mg "_law_size" = some (.ref t.f_size)
  F_l_placed : Fun K "_law_placed" "_law_placed" s_l_placed t.f_l_placed t.d_l_placed
  b_l_placed : Binds K t.d_l_placed ["_law_rows_here", "_law_longs_here", "_law_pools"] []
  m_l_placed : mg "_law_placed" = some (.ref t.f_l_placed)
  F_l_too_short : Fun K "_law_too_short" "_law_too_short" s_l_too_short t.f_l_too_short t.d_l_too_short
  b_l_too_short : Binds K t.d_l_too_short ["_law_rows_here", "_law_longs_here", "_law_pools", "_law_hop"] []
  m_l_too_short : mg "_law_too_short" = some (.ref t.f_l_too_short)
  F_jumpy : Fun K "_law_jumpy" "_law_jumpy" s_jumpy t.f_jumpy t.d_jumpy
  b_jumpy : Binds K t.d_jumpy ["_law_tape_here"] []
  m_jumpy : mg "_law_jumpy" = some (.ref t.f_jumpy)
  F_same : Fun K "_law_same" "_law_same" s_same t.f_same t.d_same
  b_same : Binds K t.d_same ["_law_found", "_law_due"] []
  m_same : mg "_law_same" = some (.ref t.f_same)
  F_common : Fun K "_law_common" "_law_common" s_common t.f_common t.d_common
  b_common : Binds K t.d_common ["_law_rows_here", "_law_hop"] []
  m_common : mg "_law_common" = some (.ref t.f_common)
  F_law : Fun K "law" "law" s_law t.f_law t.d_law
  b_law : Binds K t.d_law ["_law_script"] []
  m_law : mg "law" = some (.ref t.f_law)
  m_abs : mg "abs" = none
  m_all : mg "all" = none
  m_any : mg "any" = none
  m_bool : mg "bool" = none
  m_enumerate : mg "enumerate" = none
  m_int : mg "int" = none
  m_isinstance : mg "isinstance" = none
  m_len : mg "len" = none
  m_list : mg "list" = none
  m_max : mg "max" = none
  m_min : mg "min" = none
  m_range : mg "range" = none
  m_sorted : mg "sorted" = none
  m_str : mg "str" = none
  m_tuple : mg "tuple" = none
  m_zip : mg "zip" = none
  c_FARTHEST_NIL : ∃ tk, mg "FARTHEST_NIL" = some (.int 99 tk)
  c_GREATEST_SMALL : ∃ tk, mg "GREATEST_SMALL" = some (.int 99 tk)
  c_OVER_CELLS : ∃ tk, mg "OVER_CELLS" = some (.int 2 tk)
  c_WORD_CELLS : ∃ tk, mg "WORD_CELLS" = some (.int 2 tk)
local macro_rules | `(tactic| walk_at "np") => `(tactic| first
  | with_reducible first | apply rd_seq | apply rd_asg | apply rd_name | apply rd_ret | apply rd_drop | apply rd_ifS | apply rd_next | apply rd_test | apply rd_tB | apply rd_bl | apply rd_and | apply rd_or | apply rd_not | apply rd_andV | apply rd_orV | apply rd_notV | apply rd_isN | apply rd_if | apply rd_op | apply rd_un | apply rd_c | apply rd_I0 | apply rd_U | apply rd_eqI | apply rd_eqS | apply rd_eqB | apply rd_neI | apply rd_neS | apply rd_neB | apply rd_cons | apply rd_nil | apply rd_call | apply rd_cb | apply rd_tup | apply rd_lst | apply rd_sub | apply rd_bm | apply rd_bm0 | apply rd_par | apply rd_par3 | apply rd_two | apply rd_three | apply rd_gcons | apply rd_gnil | apply rd_emit | apply rd_ctest | apply rd_chain | apply rd_sl | apply rd_nopart | apply rd_part | apply rd_int | apply rd_cont | apply rd_retN | apply rd_eqN | apply rd_zip | apply rd_comp | apply rd_for | apply rd_rng1 | apply rd_rng2 | apply rd_ilist | apply rd_itup
  | ((with_reducible refine' rd_var ?hv ?_); (case hv => exact rfl))
  | ((with_reducible refine rd_I ?c ?_); (case c => first | exact ⟨by decide, by decide⟩ | exact ⟨by decide, by decide, by decide⟩ | exact .inl ⟨by omega, by omega⟩ | exact .inr ⟨by omega, by omega⟩ | exact ⟨by omega, by omega⟩ | (show (0 : Int) < _; omega)))
  | ((with_reducible refine' rd_ixL ?hs ?he ?_); (case hs => first | assumption | (apply SqL.of; assumption) | exact SqL.of upd_same); (case he => exact rfl))
  | ((with_reducible refine' rd_ixT ?hs ?he ?_); (case hs => first | assumption | (apply SqT.of; assumption) | exact SqT.of upd_same); (case he => exact rfl))
  | ((with_reducible refine' ⟨_, _, _, rfl, ?ty, ?kit, ?_⟩); (case ty => first | exact Ty.int _ | exact Ty.bl _ | exact Ty.str _ | exact Ty.non); (case kit => first | exact kit_same _ _ | exact kit_ib _ | exact kit_bi _ | exact kit_is _ | exact kit_sb _ | exact kit_si _ | exact kit_bs _ | exact kit_ns _ | exact kit_nb _ | exact kit_ni _ | exact kit_il _ | exact kit_it _ | exact kit_sl _ | exact kit_st _ | exact kit_bl _ | exact kit_bt _ | exact kit_nl _ | exact kit_nt _))
  | ((with_reducible refine' ⟨_, "list", _, rfl, ?ty, ?kit, ?_⟩); (case ty => (apply Ty.lst; assumption)); (case kit => first | exact kit_same _ _ | exact kit_lt _ | exact kit_li _ | exact kit_ls _ | exact kit_lb _))
  | ((with_reducible refine' ⟨_, "tuple", _, rfl, ?ty, ?kit, ?_⟩); (case ty => (apply Ty.tup; assumption)); (case kit => first | exact kit_same _ _ | exact kit_tl _ | exact kit_ti _ | exact kit_ts _ | exact kit_tb _))
  | refine ⟨_, rfl, ?_⟩
  | refine ⟨_, _, rfl, ?_⟩
  | refine Or.inr ⟨_, rfl, ?_⟩
  | ((with_reducible refine' ⟨_, _, rfl, Or.inl ?hs, ?_⟩); (case hs => first | assumption | (apply SqL.of; assumption) | exact SqL.of upd_same))
  | ((with_reducible refine' ⟨_, _, rfl, Or.inr ?hs, ?_⟩); (case hs => first | assumption | (apply SqT.of; assumption) | exact SqT.of upd_same)))
section
variable {P : Program} {w : World} {K : PySem.W.Frag} {mg : Str → Option Value} {base : Heap} {t : Adr}
/-! ### the tape -/
def spCell (K : PySem.W.Frag) : Sp := fun vs H Q _ => ∃ (a : Addr) (ns : List Int) (k : Int), vs = [.ref a, .int k] ∧ SqL K H a (ns.map V.int) ∧ 0 ≤ k ∧ ∀ i : Int, Q (.int i) H
theorem ok_cell_at (T : Txt K mg t) : FnOk P w K mg base CX0 1 t.f_cell_at t.d_cell_at ["_law_script", "_law_k"] (spCell K) := by
  refine T.F_cell_at.ok sc_cell_at (fun vs H Q E h => ?_) (fun cdv A outer s H vs Q E hr h => ?_)
  · obtain ⟨a, ns, k, rfl, _⟩ := h
    rfl
  · obtain ⟨a, ns, k, rfl, hS, h0, q⟩ := h
    refine ⟨_, (@pss_one _ _ _ (ps_ret (pe_ifExp (@pt_cmpR _ _ _ _ _ _ _ _ op_lt (pv 1) (@pe_callB _ _ _ _ _ _ _ _ _ call_len_seq rfl T.m_len bt_len (@pa_cons _ _ _ _ _ (pv 0) pa_nil (by rfl)) (by decide) (by first | rfl | decide) (by rfl) (by rfl)) (nomark _)) (@pe_ix _ _ _ _ _ _ _ ix_list (pv 0) (pv 1) (fun _ _ => rfl)) pe_int))), ?_⟩
    repeat walk_at "np"
    refine iteD (fun hlt => ?_) (fun _ => ?_)
    · repeat walk_at "np"
      rw [List.length_map] at hlt
      have e : (ns.map V.int)[k.toNat]? = some (.int ns[k.toNat]!) := by
        rw [List.getElem?_map, List.getElem?_eq_getElem (by omega)]
        simp [show k.toNat < ns.length by omega]
      refine rd_ixL hS (by rw [show k = ((k.toNat : Nat) : Int) by omega]; exact atI_nat e) ?_
      exact q _
    · repeat walk_at "np"
      exact q _

def spTape (K : PySem.W.Frag) : Sp := fun vs H Q _ => ∃ (a : Addr) (ns : List Int) (k : Int), vs = [.ref a, .int k] ∧ SqL K H a (ns.map V.int) ∧ 0 ≤ k ∧ k ≤ 1000 ∧
  ∀ p H', H p = none → Keep [] H H' → Tape H' p 0 → Q (.ref p) H'
theorem ok_tape (T : Txt K mg t) : FnOk P w K mg base CX0 2 t.f_tape t.d_tape ["_law_script", "_law_k"] (spTape K) := by
  have G_cell_at := ok_cell_at (P := P) (w := w) (base := base) T
  refine T.F_tape.ok sc_tape (fun vs H Q E h => ?_) (fun cdv A outer s H vs Q E hr h => ?_)
  · obtain ⟨a, ns, k, rfl, _⟩ := h
    rfl
  · obtain ⟨a, ns, k, rfl, hS, h0, h1, q⟩ := h
    refine ⟨_, (@pss_cons _ _ _ _ _ (@ps_set _ _ 2 _ _ _ _ sc_tape.nd rfl (Or.inl rfl) (@pe_call _ _ _ _ _ _ _ _ _ _ _ _ _ _ _ _ G_cell_at (hr.mono (by first | decide | omega)) rfl T.m_cell_at T.F_cell_at.kp T.b_cell_at .nil pass0 (@pa_cons _ _ _ _ _ (pv 0) (@pa_cons _ _ _ _ _ (pv 1) pa_nil (by rfl)) (by rfl)) (by first | rfl | decide) (by rfl) (by rfl)) (by rfl) (by first | exact Or.inl rfl | exact Or.inr rfl | assumption))
      (@pss_one _ _ _ (ps_ret (@pe_lst _ _ _ _ (@pa_cons _ _ _ _ _ (@pe_op _ _ _ _ _ _ _ _ op_mul (@pe_callB _ _ _ _ _ _ _ _ _ call_abs rfl T.m_abs bt_abs (@pa_cons _ _ _ _ _ (pv 2) pa_nil (by rfl)) (by decide) (by first | rfl | decide) (by rfl) (by rfl)) (@pe_callTy _ _ _ _ _ _ _ _ _ call_int1 rfl T.m_int bt_int (@pa_cons _ _ _ _ _ (@pe_cmpR _ _ _ _ _ _ _ _ op_ge (@pe_callB _ _ _ _ _ _ _ _ _ call_abs rfl T.m_abs bt_abs (@pa_cons _ _ _ _ _ (pv 2) pa_nil (by rfl)) (by decide) (by first | rfl | decide) (by rfl) (by rfl)) (@pe_op _ _ _ _ _ _ _ _ op_pow pe_int pe_int) (nomark _)) pa_nil (by rfl)) (by decide) (by first | rfl | decide) (by rfl) (by rfl))) (@pa_cons _ _ _ _ _ (@pe_op _ _ _ _ _ _ _ _ op_mod (@pe_op _ _ _ _ _ _ _ _ op_mul (@pe_op _ _ _ _ _ _ _ _ op_add (@pe_op _ _ _ _ _ _ _ _ op_add (@pe_op _ _ _ _ _ _ _ _ op_mod (pv 2) pe_int) (@pe_op _ _ _ _ _ _ _ _ op_mul pe_int (pv 1))) pe_int) pe_int) pe_int) (@pa_cons _ _ _ _ _ pe_int pa_nil (by rfl)) (by rfl)) (by rfl)))))), ?_⟩
    repeat walk_at "np"
    refine ⟨a, ns, k, rfl, hS, h0, fun i => ?_⟩
    repeat walk_at "np"
    refine ⟨small2 (by simp), fun p hp => ?_⟩
    refine q p _ hp (Keep.new (Keep.refl _ _) hp) ⟨_, _, _, upd_same, ?_, ?_, ?_, Int.le_refl _, Int.le_refl _⟩
    · split <;> split <;> omega
    · omega
    · omega

def spTake : Sp := fun vs H Q _ => ∃ (p : Addr) (many n : Int), vs = [.ref p, .int many] ∧ Tape H p n ∧ n ≤ 1000000000 ∧ 1 ≤ many ∧ many < 1073741824 ∧
  ∀ (r : Int) (H' : Hp), 0 ≤ r → r < many → Tape H' p (n + 1) → Keep [p] H H' → (∀ b, b ≠ p → H' b = H b) → Q (.int r) H'
theorem ok_take (T : Txt K mg t) : FnOk P w K mg base CX0 1 t.f_take t.d_take ["_law_tape_here", "_law_many"] spTake := by
  refine T.F_take.ok sc_take (fun vs H Q E h => ?_) (fun cdv A outer s H vs Q E hr h => ?_)
  · obtain ⟨p, many, n, rfl, _⟩ := h
    rfl
  · obtain ⟨p, many, n, rfl, ⟨a, b, c, hp, a0, b0, b1, c0, c1⟩, hn, m0, m1, q⟩ := h
    have kp : ∀ o, Keep [p] H (upd H p o) := fun o => Keep.put (Keep.refl _ _) (.inl (by simp))
    refine ⟨_, (@pss_cons _ _ _ _ _ (@ps_if _ _ _ _ _ _ _ _ (@pt_cmpR _ _ _ _ _ _ _ _ op_gt (@pe_ix _ _ _ _ _ _ _ ix_list (pv 0) pe_int (fun _ _ => rfl)) pe_int (nomark _))
        (@pss_cons _ _ _ _ _ (@ps_set _ _ 2 _ _ _ _ sc_take.nd rfl (Or.inl rfl) (@pe_op _ _ _ _ _ _ _ _ op_mod (@pe_ix _ _ _ _ _ _ _ ix_list (pv 0) pe_int (fun _ _ => rfl)) (pv 1)) (by rfl) (by first | exact Or.inl rfl | exact Or.inr rfl | assumption))
      (@pss_cons _ _ _ _ _ (ps_asg (@pe_op _ _ _ _ _ _ _ _ op_fdiv (@pe_ix _ _ _ _ _ _ _ ix_list (pv 0) pe_int (fun _ _ => rfl)) (pv 1)) (pg_sub (pv 0) pe_int set_list))
      (@pss_one _ _ _ (ps_ret (pv 2)))))
        pss_nil)
      (@pss_cons _ _ _ _ _ (ps_asg (@pe_op _ _ _ _ _ _ _ _ op_add (@pe_ix _ _ _ _ _ _ _ ix_list (pv 0) pe_int (fun _ _ => rfl)) pe_int) (pg_sub (pv 0) pe_int set_list))
      (@pss_cons _ _ _ _ _ (@ps_set _ _ 3 _ _ _ _ sc_take.nd rfl (Or.inl rfl) (@pe_op _ _ _ _ _ _ _ _ op_mod (@pe_op _ _ _ _ _ _ _ _ op_mul (@pe_op _ _ _ _ _ _ _ _ op_add (@pe_ix _ _ _ _ _ _ _ ix_list (pv 0) pe_int (fun _ _ => rfl)) (@pe_op _ _ _ _ _ _ _ _ op_mul pe_int (@pe_ix _ _ _ _ _ _ _ ix_list (pv 0) pe_int (fun _ _ => rfl)))) (@pe_op _ _ _ _ _ _ _ _ op_add pe_int (@pe_ix _ _ _ _ _ _ _ ix_list (pv 0) pe_int (fun _ _ => rfl)))) pe_int) (by rfl) (by first | exact Or.inl rfl | exact Or.inr rfl | assumption))
      (@pss_cons _ _ _ _ _ (ps_asg (@pe_op _ _ _ _ _ _ _ _ op_mod (@pe_op _ _ _ _ _ _ _ _ op_add (@pe_op _ _ _ _ _ _ _ _ op_mul (pv 3) (@pe_op _ _ _ _ _ _ _ _ op_add (@pe_op _ _ _ _ _ _ _ _ op_mod (pv 3) pe_int) pe_int)) (@pe_ix _ _ _ _ _ _ _ ix_list (pv 0) pe_int (fun _ _ => rfl))) pe_int) (pg_sub (pv 0) pe_int set_list))
      (@pss_one _ _ _ (ps_ret (@pe_op _ _ _ _ _ _ _ _ op_mod (@pe_op _ _ _ _ _ _ _ _ op_fdiv (@pe_op _ _ _ _ _ _ _ _ op_mod (@pe_op _ _ _ _ _ _ _ _ op_mul (@pe_ix _ _ _ _ _ _ _ ix_list (pv 0) pe_int (fun _ _ => rfl)) (@pe_op _ _ _ _ _ _ _ _ op_add (@pe_op _ _ _ _ _ _ _ _ op_mod (@pe_ix _ _ _ _ _ _ _ ix_list (pv 0) pe_int (fun _ _ => rfl)) pe_int) pe_int)) pe_int) pe_int) (pv 1)))))))), ?_⟩
    repeat walk_at "np"
    refine iteD (fun hlt => ?_) (fun hlt => ?_)
    · repeat walk_at "np"
      refine rd_setL hp rfl ?_
      repeat walk_at "np"
      refine q _ _ (Int.emod_nonneg _ (by omega)) (Int.emod_lt_of_pos _ (by omega)) ⟨_, _, _, upd_same, Int.ediv_nonneg a0 (by omega), b0, b1, c0, by omega⟩ (kp _) fun b hb => upd_ne hb
    · repeat walk_at "np"
      refine rd_setL hp rfl ?_
      repeat walk_at "np"
      refine rd_setL upd_same rfl ?_
      repeat walk_at "np"
      refine q _ _ (Int.emod_nonneg _ (by omega)) (Int.emod_lt_of_pos _ (by omega)) ⟨_, _, _, upd_same, a0, Int.emod_nonneg _ (by decide), Int.lt_trans (Int.emod_lt_of_pos _ (by decide)) (by decide), by omega, by omega⟩ (by rw [upd_upd]; exact kp _) fun b hb => by rw [upd_ne hb, upd_ne hb]

theorem iteDF {p : Prop} [Decidable p] {A B : Prop} (h : ¬ p) (q : B) : if decide p = true then A else B := by rw [decide_eq_false h]; exact iteF q
theorem iteDT {p : Prop} [Decidable p] {A B : Prop} (h : p) (q : A) : if decide p = true then A else B := by rw [decide_eq_true h]; exact iteT q
theorem iteBT {b : Bool} {A B : Prop} (h : b = true) (q : A) : if b = true then A else B := by rw [h]; exact iteT q
theorem iteBF {b : Bool} {A B : Prop} (h : b = false) (q : B) : if b = true then A else B := by rw [h]; exact iteF q
/-! ### the tape over data -/
def dsTape : DSp := fun t ds Q => ∃ (ns : List Int) (k : Int), t = none ∧ ds = [.list (ns.map PyData.int), .int k] ∧ 0 ≤ k ∧ k ≤ 1000 ∧ ∀ p, Q (.tape p 0) 0
theorem keep_kp {H H' : Hp} (k : Keep [] H H') (S : Addr → Prop) : Kp S H H' := ⟨fun b o h _ => k b o h (by simp), fun b h => by
  cases e : H b with
  | none => rfl
  | some o => rw [k b o e (by simp)] at h; cases h⟩
theorem D_tape (T : Txt K mg t) : FnD P w K mg base 2 t.f_tape t.d_tape ["_law_script", "_law_k"] dsTape := by
  refine ⟨(ok_tape T).imp fun vs H Q E h => ?_, fun t ds P R h ⟨ns, k, a, b, c, d, e⟩ => ⟨ns, k, a, b, c, d, fun p => h _ _ (e p)⟩⟩
  obtain ⟨S, tp, us, ds, rfl, al, nt, hf, hT, ns, k, ht, rfl, k0, k1, q⟩ := h
  cases tp with
  | some z => cases ht
  | none =>
    cases hf with
    | cons r t =>
      cases t with
      | cons r' t =>
        cases t
        cases r'
        obtain ⟨a, xs, rfl, hb, hx⟩ := r.list_inv
        rw [hx.ints_eq] at hb
        exact ⟨a, ns, k, rfl, hb.now, k0, k1, fun p H' hp kp tp => q p _ H' [p] (keep_kp kp _) (fun _ _ e => (by cases e)) ⟨rfl, rfl, tp⟩ (by simp) fun a ha => by rw [List.mem_singleton.mp ha]; exact hp⟩
def dsTake : DSp := fun t ds Q => ∃ n many : Int, t = some n ∧ ds = [.int many] ∧ n ≤ 1000000000 ∧ 1 ≤ many ∧ many < 1073741824 ∧ ∀ r, 0 ≤ r → r < many → Q (.fz (.int r)) (n + 1)
theorem D_take (T : Txt K mg t) : FnD P w K mg base 1 t.f_take t.d_take ["_law_tape_here", "_law_many"] dsTake := by
  refine ⟨(ok_take T).imp fun vs H Q E h => ?_, fun t ds P R h ⟨n, k, a, b, c, d, e, f⟩ => ⟨n, k, a, b, c, d, e, fun r h0 h1 => h _ _ (f r h0 h1)⟩⟩
  obtain ⟨S, tp, us, ds, rfl, al, nt, hf, hT, n, many, ht, rfl, n0, m0, m1, q⟩ := h
  cases tp with
  | none => cases ht
  | some z =>
    obtain ⟨p, n'⟩ := z
    cases ht
    obtain ⟨hp, sp⟩ := hT p _ rfl
    cases hf with
    | cons r t =>
      cases t
      cases r
      refine ⟨p, many, _, rfl, hp, n0, m0, m1, fun r H' r0 r1 tp kp off => q r r0 r1 _ H' [] ⟨fun b o h nb => kp b o h (by simp; intro e; exact nb ⟨_, by rw [e]⟩), fun b h => ?_⟩ (fun _ _ e => by cases e; exact tp) ⟨rfl, .int _⟩ (by simp) fun a ha => by cases ha⟩
      by_cases e : b = p
      · subst e
        obtain ⟨x, y, z, hx, _⟩ := tp
        rw [hx] at h; cases h
      · rw [off b e] at h; exact h

/-! ### _law_same: True of like data -/
def DOk : Nat → PyData → Prop
  | _, .none => True
  | _, .bool _ => True
  | _, .int _ => True
  | _, .str _ => True
  | n + 1, .list ds => ds.length ≤ 100000 ∧ ∀ d ∈ ds, DOk n d
  | n + 1, .tuple ds => ds.length ≤ 100000 ∧ ∀ d ∈ ds, DOk n d
  | _, _ => False
def spSame (K : PySem.W.Frag) (n : Nat) : Sp := fun vs H Q _ => ∃ (x y : V) (d : PyData), vs = [x, y] ∧ Dt K H x d ∧ Dt K H y d ∧ DOk n d ∧ ∀ H', Keep [] H H' → Q (.bl true) H'
theorem keep_dt {K : PySem.W.Frag} {H H' : Hp} (k : Keep [] H H') {x : V} {d : PyData} (h : Dt K H x d) : Dt K H' x d := h.mono k.same
theorem keep_sqL {K : PySem.W.Frag} {H H' : Hp} (k : Keep [] H H') {a : Addr} {xs : List V} (h : SqL K H a xs) : SqL K H' a xs := k.same.seq h
theorem keep_sqT {K : PySem.W.Frag} {H H' : Hp} (k : Keep [] H H') {a : Addr} {xs : List V} (h : SqT K H a xs) : SqT K H' a xs := k.same.tupS h
theorem rep_true (n : Nat) : (List.replicate n true).all id = true := by
  induction n with
  | zero => rfl
  | succ n ih => rw [List.replicate_succ, List.all_cons, ih]; rfl
/-- the whole of the comprehension over the two lists' pairs -/
theorem same_comp {K : PySem.W.Frag} {n : Nat} {H : Hp} {Q : Addr → Hp → Prop} {E : XK} {a b : ZS} {ds : List PyData} {σ : St} {sp : Sp} (hsp : ∀ vs H Q E, spSame K n vs H Q E → sp vs H Q E) (ha : a.ok K H) (hb : b.ok K H) (da : DtAll K H a.items ds) (db : DtAll K H b.items ds) (hz : ds.length ≤ 100000) (hd : ∀ d ∈ ds, DOk n d)
    (ka : ∀ H', Keep [] H H' → a.ok K H') (kb : ∀ H', Keep [] H H' → b.ok K H')
    (q : ∀ p H', Keep [] H H' → H' p = some (.lst (List.replicate ds.length (.bl true))) → Q p H') :
    ∀ (c : CC) D, H D = none → ∃ W : Nat → Nat → St → Hp → Prop, (∃ m, W 0 m (compSt 2 [] σ) (upd H D (.lst []))) ∧
      ∀ i m σ' H', W i m σ' H' → ((Itz K a b).stop i H' ∧ Q D H') ∨ ((Itz K a b).go i H' ∧ ∀ x H2, (Itz K a b).yld i H' x H2 → gTup K 2 (gCons (gName 0) (gCons (gName 1) gNil)) x σ' H2 fun σ3 H3 =>
        cEmit (tCall sp [] E (tCons (tVar 0) (tCons (tVar 1) tNil))) D σ3 H3 fun H4 => ∃ m', m' < m ∧ W (i + 1) m' σ3 H4) := by
  intro c D hD
  refine ⟨fun i m σ' H' => m = ds.length - i ∧ i ≤ ds.length ∧ (∃ u v, σ' = [u, v]) ∧ Keep [] H H' ∧ H' D = some (.lst (List.replicate i (.bl true))), ⟨_, rfl, Nat.zero_le _, ⟨_, _, rfl⟩, Keep.new (Keep.refl _ _) hD, upd_same⟩, ?_⟩
  rintro i m σ' H' ⟨rfl, hi, ⟨u, v, rfl⟩, kp, hDl⟩
  have la := da.length
  have lb := db.length
  by_cases hlt : i < ds.length
  · refine .inr ⟨⟨ka _ kp, kb _ kp, by omega, by omega⟩, ?_⟩
    rintro x H2 ⟨T, x1, y1, e1, e2, hT, rfl, rfl⟩
    obtain ⟨x1', f1, d1⟩ := da.get (List.getElem?_eq_getElem hlt)
    obtain ⟨y1', f2, d2⟩ := db.get (List.getElem?_eq_getElem hlt)
    rw [e1] at f1; cases f1
    rw [e2] at f2; cases f2
    have k2 : Keep [] H (upd H' T (.tup [x1, y1])) := Keep.new kp hT
    refine rd_gtup (SqT.of upd_same) rfl ?_
    repeat walk_at "np"
    refine hsp _ _ _ _ ⟨x1, y1, ds[i], rfl, keep_dt k2 d1, keep_dt k2 d2, hd _ (List.getElem_mem hlt), fun H3 k3 => ?_⟩
    have hDT : D ≠ T := fun e => by rw [e, hT] at hDl; cases hDl
    have hD3 : H3 D = some (.lst (List.replicate i (.bl true))) := k3 _ _ (by rw [upd_ne hDT]; exact hDl) (by simp)
    refine ⟨_, hD3, Nat.lt_of_lt_of_le (by rw [List.length_replicate]; omega) (by decide : 100001 ≤ sizeLine), _, Nat.sub_lt_sub_left hlt (Nat.lt_succ_self i), rfl, hlt, ⟨_, _, rfl⟩, Keep.put (k2.trans k3) (.inr hD), ?_⟩
    rw [upd_same, List.replicate_succ']
  · have e : i = ds.length := by omega
    subst e
    exact .inl ⟨⟨ka _ kp, kb _ kp, .inl (by omega)⟩, q D H' kp hDl⟩
theorem same_step (T : Txt K mg t) (n : Nat) (G_same : FnOk P w K mg base CX0 n t.f_same t.d_same ["_law_found", "_law_due"] (fun vs H Q E => ∃ m, n = m + 1 ∧ spSame K m vs H Q E)) :
    FnOk P w K mg base CX0 (n + 1) t.f_same t.d_same ["_law_found", "_law_due"] (spSame K n) := by
  refine T.F_same.ok sc_same (fun vs H Q E h => ?_) (fun cdv A outer s H vs Q E hr h => ?_)
  · obtain ⟨x, y, d, rfl, _⟩ := h
    rfl
  · obtain ⟨x, y, d, rfl, hx, hy, hd, q⟩ := h
    refine ⟨_, (@pss_cons _ _ _ _ _ (@ps_if _ _ _ _ _ _ _ _ (pt_val (@pe_callB _ _ _ _ _ _ _ _ _ (call_isi2 "list" "tuple") rfl T.m_isinstance bt_isinstance (@pa_cons _ _ _ _ _ (pv 1) (@pa_cons _ _ _ _ _ (@pe_tup _ _ _ _ _ (@pa_cons _ _ _ _ _ (pe_bltn (v := .ty "list") rfl T.m_list bt_list rfl) (@pa_cons _ _ _ _ _ (pe_bltn (v := .ty "tuple") rfl T.m_tuple bt_tuple rfl) pa_nil (by rfl)) (by rfl))) pa_nil (by rfl)) (by rfl)) (by decide) (by first | rfl | decide) (by rfl) (by rfl)))
        (@pss_cons _ _ _ _ _ (@ps_if _ _ _ _ _ _ _ _ (PW.pt (pw_or (@pt_cmpR _ _ _ _ _ _ _ _ op_ne (@pe_callB _ _ _ _ _ _ _ _ _ (call_isi "list") rfl T.m_isinstance bt_isinstance (@pa_cons _ _ _ _ _ (pv 0) (@pa_cons _ _ _ _ _ (pe_bltn (v := .ty "list") rfl T.m_list bt_list rfl) pa_nil (by rfl)) (by rfl)) (by decide) (by first | rfl | decide) (by rfl) (by rfl)) (@pe_callB _ _ _ _ _ _ _ _ _ (call_isi "list") rfl T.m_isinstance bt_isinstance (@pa_cons _ _ _ _ _ (pv 1) (@pa_cons _ _ _ _ _ (pe_bltn (v := .ty "list") rfl T.m_list bt_list rfl) pa_nil (by rfl)) (by rfl)) (by decide) (by first | rfl | decide) (by rfl) (by rfl)) (nomark _)) (pw_or1 (@pt_cmpR _ _ _ _ _ _ _ _ op_ne (@pe_callB _ _ _ _ _ _ _ _ _ (call_isi "tuple") rfl T.m_isinstance bt_isinstance (@pa_cons _ _ _ _ _ (pv 0) (@pa_cons _ _ _ _ _ (pe_bltn (v := .ty "tuple") rfl T.m_tuple bt_tuple rfl) pa_nil (by rfl)) (by rfl)) (by decide) (by first | rfl | decide) (by rfl) (by rfl)) (@pe_callB _ _ _ _ _ _ _ _ _ (call_isi "tuple") rfl T.m_isinstance bt_isinstance (@pa_cons _ _ _ _ _ (pv 1) (@pa_cons _ _ _ _ _ (pe_bltn (v := .ty "tuple") rfl T.m_tuple bt_tuple rfl) pa_nil (by rfl)) (by rfl)) (by decide) (by first | rfl | decide) (by rfl) (by rfl)) (nomark _)))))
        (@pss_one _ _ _ (ps_ret pe_bl))
        pss_nil)
      (@pss_cons _ _ _ _ _ (@ps_if _ _ _ _ _ _ _ _ (@pt_cmpR _ _ _ _ _ _ _ _ op_ne (@pe_callB _ _ _ _ _ _ _ _ _ call_len_seq rfl T.m_len bt_len (@pa_cons _ _ _ _ _ (pv 0) pa_nil (by rfl)) (by decide) (by first | rfl | decide) (by rfl) (by rfl)) (@pe_callB _ _ _ _ _ _ _ _ _ call_len_seq rfl T.m_len bt_len (@pa_cons _ _ _ _ _ (pv 1) pa_nil (by rfl)) (by decide) (by first | rfl | decide) (by rfl) (by rfl)) (nomark _))
        (@pss_one _ _ _ (ps_ret pe_bl))
        pss_nil)
      (@pss_one _ _ _ (ps_ret (@pe_callB _ _ _ _ _ _ _ _ _ (call_all rfl) rfl T.m_all bt_all (@pa_cons _ _ _ _ _ (pe_comp rfl sn_same_0.sc (pi_zip rfl T.m_zip (@pa_cons _ _ _ _ _ (pv 0) (@pa_cons _ _ _ _ _ (pv 1) pa_nil (by rfl)) (by rfl))) (fun _ => (pg_tup rfl (pgs_cons (pg_name (i := 0) sn_same_0.nd rfl (Or.inl rfl)) (pgs_cons (pg_name (i := 1) sn_same_0.nd rfl (Or.inl rfl)) pgs_nil)))) (fun _ _ => (act_plain (@pe_call _ _ _ _ _ _ _ _ _ _ _ _ _ _ _ _ G_same (hr.mono (by first | decide | omega)) rfl T.m_same T.F_same.kp T.b_same .nil pass0 (@pa_cons _ _ _ _ _ (pv 0) (@pa_cons _ _ _ _ _ (pv 1) pa_nil (by rfl)) (by rfl)) (by first | rfl | decide) (by rfl) (by rfl))))) pa_nil (by rfl)) (by decide) (by first | rfl | decide) (by rfl) (by rfl))))))
        pss_nil)
      (@pss_cons _ _ _ _ _ (@ps_if _ _ _ _ _ _ _ _ (PW.pt (pw_or (pt_cmp (pc_isN (pv 1))) (pw_or1 (pt_val (@pe_callB _ _ _ _ _ _ _ _ _ (call_isi "str") rfl T.m_isinstance bt_isinstance (@pa_cons _ _ _ _ _ (pv 1) (@pa_cons _ _ _ _ _ (pe_bltn (v := .ty "str") rfl T.m_str bt_str rfl) pa_nil (by rfl)) (by rfl)) (by decide) (by first | rfl | decide) (by rfl) (by rfl))))))
        (@pss_one _ _ _ (ps_ret (pe_and (@pe_cmpR _ _ _ _ _ _ _ _ op_eq (pv 0) (pv 1) (nomark _)) (pe_one (@pe_cmpR _ _ _ _ _ _ _ _ op_eq (@pe_callB _ _ _ _ _ _ _ _ _ (call_isi "str") rfl T.m_isinstance bt_isinstance (@pa_cons _ _ _ _ _ (pv 0) (@pa_cons _ _ _ _ _ (pe_bltn (v := .ty "str") rfl T.m_str bt_str rfl) pa_nil (by rfl)) (by rfl)) (by decide) (by first | rfl | decide) (by rfl) (by rfl)) (@pe_callB _ _ _ _ _ _ _ _ _ (call_isi "str") rfl T.m_isinstance bt_isinstance (@pa_cons _ _ _ _ _ (pv 1) (@pa_cons _ _ _ _ _ (pe_bltn (v := .ty "str") rfl T.m_str bt_str rfl) pa_nil (by rfl)) (by rfl)) (by decide) (by first | rfl | decide) (by rfl) (by rfl)) (nomark _))))))
        pss_nil)
      (@pss_cons _ _ _ _ _ (@ps_if _ _ _ _ _ _ _ _ (pt_val (@pe_callB _ _ _ _ _ _ _ _ _ (call_isi "bool") rfl T.m_isinstance bt_isinstance (@pa_cons _ _ _ _ _ (pv 1) (@pa_cons _ _ _ _ _ (pe_bltn (v := .ty "bool") rfl T.m_bool bt_bool rfl) pa_nil (by rfl)) (by rfl)) (by decide) (by first | rfl | decide) (by rfl) (by rfl)))
        (@pss_one _ _ _ (ps_ret (pe_and (@pe_callB _ _ _ _ _ _ _ _ _ (call_isi "bool") rfl T.m_isinstance bt_isinstance (@pa_cons _ _ _ _ _ (pv 0) (@pa_cons _ _ _ _ _ (pe_bltn (v := .ty "bool") rfl T.m_bool bt_bool rfl) pa_nil (by rfl)) (by rfl)) (by decide) (by first | rfl | decide) (by rfl) (by rfl)) (pe_one (@pe_cmpR _ _ _ _ _ _ _ _ op_eq (pv 0) (pv 1) (nomark _))))))
        pss_nil)
      (@pss_one _ _ _ (ps_ret (pe_and (@pe_callB _ _ _ _ _ _ _ _ _ (call_isi "int") rfl T.m_isinstance bt_isinstance (@pa_cons _ _ _ _ _ (pv 0) (@pa_cons _ _ _ _ _ (pe_bltn (v := .ty "int") rfl T.m_int bt_int rfl) pa_nil (by rfl)) (by rfl)) (by decide) (by first | rfl | decide) (by rfl) (by rfl)) (pe_and (pe_not (@pe_callB _ _ _ _ _ _ _ _ _ (call_isi "bool") rfl T.m_isinstance bt_isinstance (@pa_cons _ _ _ _ _ (pv 0) (@pa_cons _ _ _ _ _ (pe_bltn (v := .ty "bool") rfl T.m_bool bt_bool rfl) pa_nil (by rfl)) (by rfl)) (by decide) (by first | rfl | decide) (by rfl) (by rfl))) (pe_one (@pe_cmpR _ _ _ _ _ _ _ _ op_eq (pv 0) (pv 1) (nomark _)))))))))), ?_⟩
    repeat walk_at "np"
    refine ⟨small2 (by simp), fun p hp => ?_⟩
    have kp : Keep [] H (upd H p (.tup [.ty "list", .ty "tuple"])) := Keep.new (Keep.refl _ _) hp
    cases hx with
    | non =>
      cases hy
      refine ⟨_, _, _, _, rfl, upd_same, .non, kitAny_no _ (kit_nl _) (kit_nt _), ?_⟩
      repeat walk_at "np"
      exact q _ kp
    | bl b =>
      cases hy
      refine ⟨_, _, _, _, rfl, upd_same, .bl _, kitAny_no _ (kit_bl _) (kit_bt _), ?_⟩
      repeat walk_at "np"
      show Q (.bl (decide (b = b))) _
      rw [decide_eq_true rfl]
      exact q _ kp
    | int i =>
      cases hy
      refine ⟨_, _, _, _, rfl, upd_same, .int _, kitAny_no _ (kit_il _) (kit_it _), ?_⟩
      repeat walk_at "np"
      show Q (.bl (decide (i = i))) _
      rw [decide_eq_true rfl]
      exact q _ kp
    | str x =>
      cases hy
      refine ⟨_, _, _, _, rfl, upd_same, .str _, kitAny_no _ (kit_sl _) (kit_st _), ?_⟩
      repeat walk_at "np"
      refine iteD (fun _ => ?_) (fun h => absurd rfl h)
      repeat walk_at "np"
      exact q _ kp
    | @lst a xs ds ha da =>
      cases hy with
      | @lst b ys _ hb db =>
        cases n with
        | zero => exact hd.elim
        | succ n =>
          obtain ⟨hz, hd⟩ := hd
          have sa := keep_sqL kp ha
          have sb := keep_sqL kp hb
          refine ⟨_, _, _, _, rfl, upd_same, .lst sb, kitAny_yes _ (.inl (kit_same _ _)), ?_⟩
          repeat walk_at "np"
          have la := da.length
          have lb := db.length
          refine iteDN (fun h => absurd (by omega) h) (fun _ => ?_)
          repeat walk_at "np"
          refine ⟨.lst a xs, .lst b ys, rfl, sa, sb, ?_⟩
          refine same_comp (K := K) (n := n) (a := .lst a xs) (b := .lst b ys) (sp := fun vs H Q E => ∃ m, n + 1 = m + 1 ∧ spSame K m vs H Q E) (fun vs H Q E h => ⟨n, rfl, h⟩) sa sb (da.mono kp.same) (db.mono kp.same) hz hd (fun H' k' => keep_sqL k' sa) (fun H' k' => keep_sqL k' sb) fun r H' k' hr' => ?_
          repeat walk_at "np"
          refine ⟨r, List.replicate ds.length true, rfl, SqL.of (by rw [hr', List.map_replicate]), ?_⟩
          rw [rep_true]
          exact q _ (kp.trans k')
    | @tup a xs ds ha da =>
      cases hy with
      | @tup b ys _ hb db =>
        cases n with
        | zero => exact hd.elim
        | succ n =>
          obtain ⟨hz, hd⟩ := hd
          have sa := keep_sqT kp ha
          have sb := keep_sqT kp hb
          refine ⟨_, _, _, _, rfl, upd_same, .tup sb, kitAny_yes _ (.inr ⟨kit_tl _, kit_same _ _⟩), ?_⟩
          repeat walk_at "np"
          have la := da.length
          have lb := db.length
          refine iteDN (fun h => absurd (by omega) h) (fun _ => ?_)
          repeat walk_at "np"
          refine ⟨.tup a xs, .tup b ys, rfl, sa, sb, ?_⟩
          refine same_comp (K := K) (n := n) (a := .tup a xs) (b := .tup b ys) (sp := fun vs H Q E => ∃ m, n + 1 = m + 1 ∧ spSame K m vs H Q E) (fun vs H Q E h => ⟨n, rfl, h⟩) sa sb (da.mono kp.same) (db.mono kp.same) hz hd (fun H' k' => keep_sqT k' sa) (fun H' k' => keep_sqT k' sb) fun r H' k' hr' => ?_
          repeat walk_at "np"
          refine ⟨r, List.replicate ds.length true, rfl, SqL.of (by rw [hr', List.map_replicate]), ?_⟩
          rw [rep_true]
          exact q _ (kp.trans k')
theorem ok_same (T : Txt K mg t) : ∀ n : Nat, FnOk P w K mg base CX0 (n + 1) t.f_same t.d_same ["_law_found", "_law_due"] (spSame K n)
  | 0 => same_step T 0 ⟨fun _ _ _ _ ⟨_, e, _⟩ => (nomatch e), fun _ _ _ _ _ _ _ _ _ _ _ _ _ ⟨_, e, _⟩ => (nomatch e)⟩
  | n + 1 => same_step T (n + 1) ((ok_same T n).imp fun vs H Q E ⟨m, e, h⟩ => by cases e; exact h)
local macro_rules | `(tactic| walk_at "ev") => `(tactic| first
  | with_reducible exact ev_frzN | with_reducible exact ev_mapN | with_reducible exact ev_fzN | with_reducible exact ev_cdN | with_reducible exact ev_dlN | with_reducible exact ev_ownV | with_reducible exact ev_mvV
  | ((with_reducible refine' ev_frzV ?h); (case h => exact rfl)) | ((with_reducible refine' ev_frzR ?h ?t); (case h => exact rfl); (case t => exact rfl)) | ((with_reducible refine' ev_ownR ?h ?t); (case h => exact rfl); (case t => exact rfl)) | ((with_reducible refine' ev_mvR ?h); (case h => exact rfl))
  | ((with_reducible refine' ev_datV ?h); (case h => exact rfl)) | ((with_reducible refine' ev_datR ?h ?t); (case h => exact rfl); (case t => exact rfl))
  | ((with_reducible refine' ev_frzC ?h ?t); (case h => walk_at "ev"); (case t => walk_at "ev")) | ((with_reducible refine' ev_mapC ?h ?t); (case h => walk_at "ev"); (case t => walk_at "ev")) | ((with_reducible refine' ev_dlC ?h ?t); (case h => walk_at "ev"); (case t => walk_at "ev")) | ((with_reducible refine' ev_fzC ?h); (case h => walk_at "ev"))
  | ((with_reducible refine' ev_cdC ?h ?t); (case h => exact rfl); (case t => walk_at "ev"))
  | ((with_reducible refine' ev_tupF ?h); (case h => walk_at "ev")) | ((with_reducible refine' ev_tupC ?h ?t); (case h => exact rfl); (case t => walk_at "ev")) | ((with_reducible refine' ev_lstF ?h); (case h => walk_at "ev")) | ((with_reducible refine' ev_lstC ?h ?t); (case h => exact rfl); (case t => walk_at "ev"))
  | ((with_reducible refine' ev_lsV ?h); (case h => exact rfl)) | ((with_reducible refine' ev_lsR ?h ?t); (case h => exact rfl); (case t => exact rfl)) | ((with_reducible refine' ev_tpV ?h); (case h => exact rfl)) | ((with_reducible refine' ev_tpR ?h ?t); (case h => exact rfl); (case t => exact rfl))
  | with_reducible exact ev_capN | ((with_reducible refine' ev_capT ?h ?t); (case h => exact rfl); (case t => walk_at "ev")) | ((with_reducible refine' ev_capF ?h ?t ?u); (case h => exact rfl); (case t => exact rfl); (case u => walk_at "ev"))
  | ((with_reducible refine' ev_itV ?h); (case h => exact rfl)) | ((with_reducible refine' ev_itL ?h ?t); (case h => exact rfl); (case t => exact rfl)) | ((with_reducible refine' ev_itT ?h ?t ?u); (case h => exact rfl); (case t => exact rfl); (case u => exact rfl)) | ((with_reducible refine' ev_itC ?h ?t ?u); (case h => exact rfl); (case t => exact rfl); (case u => exact rfl)))
local macro_rules | `(tactic| walk_at "dp") => `(tactic| first
  | with_reducible first | apply w_seq | apply w_next | apply w_cont | apply w_brk | apply w_drop | apply w_retN | apply w_gnil | apply w_gcons | apply w_c | apply w_op | apply w_chain | apply w_isN | apply w_un | apply w_andV | apply w_orV | apply w_notV | apply w_test | apply w_tru | apply w_andT | apply w_orT | apply w_notT | apply w_if | apply w_nil | apply w_cons | apply w_tup | apply w_lst | apply w_ix | apply w_call | apply w_callB | apply w_cb | apply w_listOf | apply w_tupOf | apply w_cat | apply w_catT | apply w_slL | apply w_slT | apply w_noPart | apply w_part | apply w_rng1 | apply w_rng2 | apply w_itL | apply w_itT | apply w_enum | apply w_zip | apply w_compG | apply w_sorted | apply w_emit | apply w_emitIf | apply w_din | apply w_dput | apply w_dnew | apply w_dcomp | apply w_putP | apply k_I0 | apply k_eqI | apply k_eqS | apply k_neI | apply k_neS | apply k_eqB | apply k_neB | apply k_neg | apply k_abs | apply k_max | apply k_min
  | ((with_reducible first | apply v_set | apply v_setF | apply v_ret | apply v_ifS | apply v_par | apply v_asg | apply v_for); intro _ _)
  | ((with_reducible refine' v_app ?e ?_); (case e => exact ⟨_, rfl⟩); intro _ _)
  | ((with_reducible first | apply w_varF | apply w_callT | apply w_compB | apply w_augI | apply w_dget | apply k_len | apply k_int); exact rfl)
  | ((with_reducible first | apply w_ins | apply w_ext | apply w_pop | apply w_dget1); exact ⟨_, rfl⟩)
  | ((with_reducible refine' w_gname ?lt ?_); (case lt => exact lt_rfl rfl))
  | ((with_reducible refine' w_gsub ?e ?f ?_); (case e => exact rfl); (case f => exact ⟨_, rfl⟩))
  | ((with_reducible refine' w_gtup ?e ?l ?_); (case e => exact rfl); (case l => exact rfl); (try simp only [List.map_cons, List.map_nil, CD.od]))
  | ((with_reducible refine' w_glst ?e ?l ?_); (case e => exact rfl); (case l => exact rfl); (try simp only [List.map_cons, List.map_nil, CD.od]))
  | ((with_reducible refine' w_varR ?e ?n ?_); (case e => exact rfl); (case n => exact trivial))
  | ((with_reducible refine' w_appP ?e ?f ?g ?_); (case e => exact rfl); (case f => exact rfl); (case g => (((try simp only [List.length_map, List.length_append, List.length_cons, List.length_nil]); omega))))
  | ((with_reducible refine' w_clrP ?e ?f ?_); (case e => exact rfl); (case f => exact rfl))
  | ((with_reducible refine' k_inT ?f ?e ?_); (case f => exact rfl); (case e => exact memD_strs _ [_]))
  | ((with_reducible refine' k_inT ?f ?e ?_); (case f => exact rfl); (case e => exact memD_strs _ [_, _]))
  | ((with_reducible refine k_I ?c ?_); (case c => first | exact ⟨by decide, by decide⟩ | exact ⟨by decide, by decide, by decide⟩ | exact .inl ⟨by omega, by omega⟩ | exact .inr ⟨by omega, by omega⟩ | exact ⟨by omega, by omega⟩ | (show (0 : Int) < _; omega)))
  | ((with_reducible refine' x2_3 _ _ ?e1 ?e2 ?_); (case e1 => ((with_reducible show datR _ _ = some _); walk_at "ev")); (case e2 => walk_at "ev"))
  | ((with_reducible refine' x1_3 _ ?e1 ?e2 ?_); (case e1 => ((with_reducible show datR _ _ = some _); walk_at "ev")); (case e2 => exact lt_rfl rfl))
  | ((with_reducible refine' x1_2 _ ?e1 ?_); (case e1 => ((with_reducible show datR _ _ = some _); walk_at "ev")))
  | ((with_reducible refine' x1_4 _ ?e1 ?e2 ?e3 ?_); (case e1 => ((with_reducible show datL _ _ = some [PyData.int _]); walk_at "ev")); (case e2 => omega); (case e3 => omega))
  | ((with_reducible refine' x2_3 _ _ ?e1 ?e2 ?_); (case e1 => ((with_reducible show datL _ _ = some [PyData.int _, PyData.int _]); walk_at "ev")); (case e2 => exact ⟨by omega, by omega, by omega, by omega⟩))
  | ((with_reducible refine' x1_2 _ ?e1 ?_); (case e1 => ((with_reducible show datL _ _ = some _); walk_at "ev")))
  | refine ⟨_, rfl, (rfl : scD _ = true), ?_⟩
  | ((with_reducible refine' x2_4 _ _ ?e1 ?e2 ?e3 ?_); (case e1 => ((with_reducible show lsR _ _ = some _); walk_at "ev")); (case e2 => walk_at "ev"); (case e3 => first | exact le_rfl' rfl | ((try simp only [List.length_map, List.length_append, List.length_cons, List.length_nil]); omega)))
  | ((with_reducible refine' x1_2 _ ?e1 ?_); (case e1 => ((with_reducible show lsR _ _ = some _); walk_at "ev")))
  | ((with_reducible refine' x3_4 _ _ _ ?e1 ?e2 ?e3 ?_); (case e1 => ((with_reducible show datR _ _ = some _); walk_at "ev")); (case e2 => (show keyD _ = some _; exact rfl)); (case e3 => exact rfl))
  | ((with_reducible refine' x4_4 _ _ _ _ ?e1 ?e2 ?e3 ?_); (case e1 => ((with_reducible show datR _ _ = some _); walk_at "ev")); (case e2 => (show keyD _ = some _; exact rfl)); (case e3 => walk_at "ev"))
  | ((with_reducible refine' x2_3 _ _ ?e1 ?e2 ?_); (case e1 => ((with_reducible show frz1 _ _ = some _); walk_at "ev")); (case e2 => (show Option.isSome _ = true; exact rfl)))
  | ((with_reducible refine' x2_3 _ _ ?e1 ?e2 ?_); (case e1 => ((with_reducible show own1 _ _ = some _); walk_at "ev")); (case e2 => exact lt_rfl rfl))
  | ((with_reducible refine' x2_3 _ _ ?e1 ?e2 ?_); (case e1 => ((with_reducible show frz1 _ _ = some _); walk_at "ev")); (case e2 => exact lt_rfl rfl))
  | ((with_reducible refine' x2_2 _ _ ?e1 ?_); (case e1 => ((with_reducible show own1 _ _ = some _); walk_at "ev")))
  | ((with_reducible refine' x2_2 _ _ ?e1 ?_); (case e1 => ((with_reducible show mv1 _ _ = some _); walk_at "ev")))
  | ((with_reducible refine' x2_2 _ _ ?e1 ?_); (case e1 => ((with_reducible show frz1 _ _ = some _); walk_at "ev")))
  | ((with_reducible refine' x2_4 _ _ ?e1 ?e2 ?e3 ?_); (case e1 => ((with_reducible show mapR own1 _ _ = some _); walk_at "ev")); (case e2 => exact rfl); (case e3 => repeat (first | exact all_lt_nil | refine all_lt_cons (lt_rfl rfl) ?_)))
  | ((with_reducible refine' x3_4 _ _ _ ?e1 ?e2 ?e3 ?_); (case e1 => ((with_reducible show mapR _ _ _ = some _); walk_at "ev")); (case e2 => walk_at "ev"); (case e3 => exact le_rfl' rfl))
  | ((with_reducible refine' x3_3 _ _ _ ?e1 ?e2 ?_); (case e1 => ((with_reducible show datR _ _ = some _); walk_at "ev")); (case e2 => walk_at "ev"))
  | ((with_reducible refine' x2_2 _ _ ?e1 ?_); (case e1 => ((with_reducible show frzL _ _ = some _); walk_at "ev")))
  | ((with_reducible refine' x4_3 _ _ _ _ ?e1 ?e2 ?_); (case e1 => ((with_reducible show frzL _ _ = some _); walk_at "ev")); (case e2 => exact rfl))
  | ((with_reducible refine' x7_4 _ _ _ _ _ _ _ ?e1 ?e2 ?e3 ?_); (case e1 => ((with_reducible show frzL _ _ = some _); walk_at "ev")); (case e2 => exact rfl); (case e3 => exact rfl))
  | refine ⟨_, _, (rfl : [_] = [_]), (rfl : Option.bind _ _ = some _), ?_⟩
  | refine ⟨_, (rfl : PyData.bool _ = PyData.bool _), ?_⟩
  | ((with_reducible refine' x2_3 _ _ ?e1 ?e2 ?_); (case e1 => ((with_reducible show datR _ _ = some _); walk_at "ev")); (case e2 => (show truD _ = some _; exact rfl)))
  | ((with_reducible refine' iteDF ?h ?_); (case h => decide +kernel))
  | ((with_reducible refine' iteDT ?h ?_); (case h => decide +kernel))
  | ((with_reducible refine' iteBT ?h ?_); (case h => first | exact rfl | decide +kernel))
  | ((with_reducible refine' iteBF ?h ?_); (case h => first | exact rfl | decide +kernel))
  | ((with_reducible refine' he_out ?h ?_); (case h => assumption)) | ((with_reducible refine' ht_out ?h ?_); (case h => assumption)) | ((with_reducible refine' ha_out ?h ?_); (case h => assumption)) | ((with_reducible refine' hi_out ?h ?_); (case h => assumption)))
local macro_rules | `(tactic| walk_at "dn") => `(tactic| (try simp only [setAll, unca, List.drop_succ_cons, List.drop_zero, List.map_cons, List.map_nil, List.cons_append, List.nil_append, List.length_cons, List.length_nil, Nat.reduceAdd, Nat.reduceSub, List.reduceReplicate, List.set_cons_succ, List.set_cons_zero]))
local macro_rules | `(tactic| walk_at "dg") => `(tactic| first
  | with_reducible first | apply w_gnil | apply w_gcons
  | ((with_reducible refine' w_gname ?lt ?_); (case lt => exact lt_rfl rfl))
  | ((with_reducible refine' w_gsub ?e ?f ?_); (case e => exact rfl); (case f => exact ⟨_, rfl⟩))
  | ((with_reducible refine' w_gtup ?e ?l ?_); (case e => exact rfl); (case l => exact rfl); (try simp only [List.map_cons, List.map_nil, CD.od]))
  | ((with_reducible refine' w_glst ?e ?l ?_); (case e => exact rfl); (case l => exact rfl); (try simp only [List.map_cons, List.map_nil, CD.od])))

/-! ### rows as data -/
inductive Rw where
  | set (r : Nat) (n : Int)
  | sum (r s : Nat)
  | less (r s : Nat)
  | tell (r : Nat)
  | go (t : Nat)
  | nil (r t : Nat)
  | stop
def rowD : Rw → List PyData
  | .set r n => [.str "set", .int r, .int n]
  | .sum r s => [.str "sum", .int r, .int s]
  | .less r s => [.str "less", .int r, .int s]
  | .tell r => [.str "tell", .int r]
  | .go t => [.str "go", .int t]
  | .nil r t => [.str "nil", .int r, .int t]
  | .stop => [.str "stop"]
def RowOk (many : Nat) : Rw → Prop
  | .set r n => r < 5 ∧ 0 ≤ n ∧ n < 100000000
  | .sum r s => r < 5 ∧ s < 5
  | .less r s => r < 5 ∧ s < 5
  | .tell r => r < 5
  | .go t => t ≤ many
  | .nil r t => r < 5 ∧ t ≤ many
  | .stop => True
abbrev rowT (r : Rw) : PyData := .tuple (rowD r)
def rowsD (rs : List Rw) : PyData := .list (rs.map rowT)
def isGr : Rw → Bool
  | .set _ n => decide (99 < n)
  | _ => false
def fallsR : Rw → Bool
  | .go _ => false
  | .stop => false
  | _ => true
def intsD (ns : List Nat) : PyData := .list (ns.map fun (n : Nat) => PyData.int n)

/-! ### places -/
theorem D_is_great (T : Txt K mg t) : FnD P w K mg base 1 t.f_is_great t.d_is_great ["row"] (mkP (fun r => [rowT r]) (fun _ => True) fun r => .fz (.bool (isGr r))) := by
  obtain ⟨tk, hc_GREATEST_SMALL⟩ := T.c_GREATEST_SMALL
  refine T.F_is_great.okP sc_is_great (fun _ => rfl) fun cdv A outer s H E hr r _ Q q => ⟨_, (pdss_one (pds_ret (pd_and (pd_cmp op_eq sr_eq (nomark _) (pd_ix (fun _ _ => rfl) (pdv 0) pd_int) pd_str) (pd_one (pd_cmp op_gt sr_B (nomark _) (pd_ix (fun _ _ => rfl) (pdv 0) pd_int) (pd_glob (v := .int 99) (d := .int 99) rfl hc_GREATEST_SMALL ⟨_, rfl⟩ (.int _))))))), ?_⟩
  cases r <;> (repeat walk_at "dp") <;> exact q
theorem D_falls (T : Txt K mg t) : FnD P w K mg base 1 t.f_falls t.d_falls ["row"] (mkP (fun r => [rowT r]) (fun _ => True) fun r => .fz (.bool (fallsR r))) := by
  refine T.F_falls.okP sc_falls (fun _ => rfl) fun cdv A outer s H E hr r _ Q q => ⟨_, (pdss_one (pds_ret (pd_and (pd_cmp op_ne sr_ne (nomark _) (pd_ix (fun _ _ => rfl) (pdv 0) pd_int) pd_str) (pd_one (pd_cmp op_ne sr_ne (nomark _) (pd_ix (fun _ _ => rfl) (pdv 0) pd_int) pd_str))))), ?_⟩
  cases r <;> (repeat walk_at "dp") <;> exact q
theorem item_rows {ρ : DEnv} {rs : List Rw} {i : Nat} {r : Rw} (h : rs[i]? = some r) : itemR ρ (.val (.fz (rowsD rs))) (i : Int) = some (.fz (rowT r), ρ) := by
  simp only [itemR, rowsD, itemO]
  rw [atI_nat (v := rowT r) (by rw [List.getElem?_map, h]; rfl)]; rfl
theorem memD_nats (i : Nat) (ns : List Nat) : memD (.int (i : Int)) (ns.map fun (n : Nat) => PyData.int n) = some (decide (i ∈ ns)) := by
  have e : (ns.map fun (n : Nat) => PyData.int n) = (ns.map fun (n : Nat) => (n : Int)).map PyData.int := by rw [List.map_map]; rfl
  rw [e, memD_ints]
  congr 1
  simp [Int.ofNat_inj]
def sizeR (rs : List Rw) (lo : List Nat) (i : Nat) : Nat := if isGr (rs.getD i .stop) || decide (i ∈ lo) then 2 else 1
theorem getD_of {rs : List Rw} {i : Nat} {r : Rw} (h : rs[i]? = some r) : rs.getD i .stop = r := by rw [List.getD_eq_getElem?_getD, h]; rfl
theorem get_of {rs : List Rw} {i : Nat} (h : i < rs.length) : rs[i]? = some (rs.getD i .stop) := by rw [List.getD_eq_getElem?_getD, List.getElem?_eq_getElem h]; rfl
theorem D_size_of (T : Txt K mg t) : FnD P w K mg base 2 t.f_size_of t.d_size_of ["rows", "longs", "at"] (mkP (fun (a : List Rw × List Nat × Nat) => [rowsD a.1, intsD a.2.1, .int a.2.2]) (fun a => a.2.2 < a.1.length) fun a => .fz (.int (sizeR a.1 a.2.1 a.2.2))) := by
  have G_is_great := D_is_great (P := P) (w := w) (base := base) T
  refine T.F_size_of.okP sc_size_of (fun _ => rfl) fun cdv A outer s H E hr ⟨rs, lo, i⟩ hi Q q => ⟨_, (pdss_one (pds_ret (pd_if (PDw.pt (pdw_or (pdt_val (by intro _; rfl) (pd_callB G_is_great (hr.mono (by first | decide | omega)) rfl T.m_is_great T.F_is_great.kp T.b_is_great (by decide) (by rfl) (by rfl) (pda_cons (by rfl) (pd_ix (fun _ _ => rfl) (pdv 0) (pdv 2)) pda_nil))) (pdw_or1 (pdt_cmp op_in_seq sr_in (by with_unfolding_all rfl) (pdv 2) (pdv 1))))) pd_int pd_int))), ?_⟩
  repeat walk_at "dp"
  refine ⟨_, _, _, rfl, item_rows (get_of hi), ?_⟩
  repeat walk_at "dp"
  refine ⟨rs.getD i .stop, rfl, rfl, trivial, ?_⟩
  repeat walk_at "dp"
  refine iteB (fun hg => ?_) (fun hg => ?_)
  · repeat walk_at "dp"
    have : sizeR rs lo i = 2 := by unfold sizeR; rw [hg]; rfl
    rw [this] at q
    exact q
  · repeat walk_at "dp"
    refine k_inL rfl (memD_nats i lo) ?_
    repeat walk_at "dp"
    refine iteD (fun hm => ?_) (fun hm => ?_)
    · repeat walk_at "dp"
      have : sizeR rs lo i = 2 := by unfold sizeR; rw [hg, decide_eq_true hm]; rfl
      rw [this] at q
      exact q
    · repeat walk_at "dp"
      have : sizeR rs lo i = 1 := by unfold sizeR; rw [hg, decide_eq_false hm]; rfl
      rw [this] at q
      exact q
def overR (rs : List Rw) (g : Nat) : Bool := g == 0 || fallsR (rs.getD (g - 1) .stop)
theorem D_has_over (T : Txt K mg t) : FnD P w K mg base 2 t.f_has_over t.d_has_over ["rows", "gap"] (mkP (fun (a : List Rw × Nat) => [rowsD a.1, .int a.2]) (fun a => a.2 ≤ a.1.length) fun a => .fz (.bool (overR a.1 a.2))) := by
  have G_falls := D_falls (P := P) (w := w) (base := base) T
  refine T.F_has_over.okP sc_has_over (fun _ => rfl) fun cdv A outer s H E hr ⟨rs, g⟩ hi Q q => ⟨_, (pdss_one (pds_ret (pd_or (pd_cmp op_eq sr_eq (nomark _) (pdv 1) pd_int) (pd_one (pd_callB G_falls (hr.mono (by first | decide | omega)) rfl T.m_falls T.F_falls.kp T.b_falls (by decide) (by rfl) (by rfl) (pda_cons (by rfl) (pd_ix (fun _ _ => rfl) (pdv 0) (pd_sub (pdv 1) pd_int)) pda_nil)))))), ?_⟩
  repeat walk_at "dp"
  refine iteD (fun hg => ?_) (fun hg => ?_)
  · have : overR rs g = true := by have : g = 0 := by omega
                                   subst this; rfl
    simp only [this] at q
    repeat walk_at "dp"
    exact q
  · obtain ⟨j, rfl⟩ : ∃ j, g = j + 1 := ⟨g - 1, by omega⟩
    repeat walk_at "dp"
    rw [show ((j + 1 : Nat) : Int) - 1 = (j : Int) by omega]
    have hi : j + 1 ≤ rs.length := hi
    refine ⟨_, _, _, rfl, item_rows (get_of (i := j) (by omega)), ?_⟩
    repeat walk_at "dp"
    refine ⟨rs.getD j .stop, rfl, rfl, trivial, ?_⟩
    repeat walk_at "dp"
    exact q
def firstW (rs : List Rw) (g place : Nat) : Nat := (if overR rs g then place + 2 else place) + 2 - (if overR rs g then place + 2 else place) % 2
theorem D_first_word (T : Txt K mg t) : FnD P w K mg base 3 t.f_first_word t.d_first_word ["rows", "gap", "place"] (mkP (fun (a : List Rw × Nat × Nat) => [rowsD a.1, .int a.2.1, .int a.2.2]) (fun a => a.2.1 ≤ a.1.length) fun a => .fz (.int (firstW a.1 a.2.1 a.2.2))) := by
  have G_has_over := D_has_over (P := P) (w := w) (base := base) T
  obtain ⟨tk, hc_OVER_CELLS⟩ := T.c_OVER_CELLS
  refine T.F_first_word.okP sc_first_word (fun _ => rfl) fun cdv A outer s H E hr ⟨rs, g, place⟩ hi Q q => ⟨_, (pdss_cons (pds_if (pdt_val (by intro _; rfl) (pd_callB G_has_over (hr.mono (by first | decide | omega)) rfl T.m_has_over T.F_has_over.kp T.b_has_over (by decide) (by rfl) (by rfl) (pda_cons (by rfl) (pdv 0) (pda_cons (by rfl) (pdv 1) pda_nil))))
        (pdss_one (pds_augI (i := 2) sc_first_word.nd rfl (Or.inl rfl) ip_add (by first | exact Or.inl rfl | exact Or.inr rfl | assumption) (pd_glob (v := .int 2) (d := .int 2) rfl hc_OVER_CELLS ⟨_, rfl⟩ (.int _))))
        pdss_nil)
      (pdss_one (pds_ret (pd_sub (pd_add (pdv 2) pd_int) (pd_mod (pdv 2) pd_int))))), ?_⟩
  repeat walk_at "dp"
  refine ⟨(rs, g), rfl, rfl, hi, ?_⟩
  repeat walk_at "dp"
  refine iteB (fun hg => ?_) (fun hg => ?_)
  · repeat walk_at "dp"
    have : ((firstW rs g place : Nat) : Int) = (place : Int) + 2 + 2 - ((place : Int) + 2) % 2 := by
      unfold firstW
      simp only [show overR rs g = true from hg, if_true]
      omega
    simp only [this] at q
    exact q
  · repeat walk_at "dp"
    have : ((firstW rs g place : Nat) : Int) = (place : Int) + 2 - (place : Int) % 2 := by
      unfold firstW
      simp only [show overR rs g = false from hg, Bool.false_eq_true, if_false]
      omega
    simp only [this] at q
    exact q
structure Pool where
  g : Nat
  ns : List Int
def poolT (p : Pool) : PyData := .tuple [.int p.g, .tuple (p.ns.map PyData.int)]
def poolsD (ps : List Pool) : PyData := .list (ps.map poolT)
/-- how many words the pool at a gap has -/
def wLast (ps : List Pool) (g : Int) : Option PyData := (ps.reverse.find? fun p => decide ((p.g : Int) = g)).map fun p => .int p.ns.length
theorem wLast_snoc (ps : List Pool) (p : Pool) (g : Int) : wLast (ps ++ [p]) g = if g = p.g then some (.int p.ns.length) else wLast ps g := by
  unfold wLast
  rw [List.reverse_append]
  simp only [List.reverse_cons, List.reverse_nil, List.nil_append, List.singleton_append, List.find?_cons]
  by_cases h : (p.g : Int) = g
  · simp [h]
  · have : ¬ g = p.g := fun z => h z.symm
    simp [h, this]
def wAt (ps : List Pool) (g : Nat) : Option Nat := (ps.find? fun p => p.g == g).map (·.ns.length)
def Rising (ps : List Pool) : Prop := ps.Pairwise fun p q => p.g < q.g
theorem wLast_at {ps : List Pool} (h : Rising ps) (g : Nat) : wLast ps g = (wAt ps g).map fun (n : Nat) => PyData.int n := by
  induction ps with
  | nil => rfl
  | cons p ps ih =>
    obtain ⟨h1, h2⟩ := List.pairwise_cons.mp h
    have ih := ih h2
    unfold wLast wAt at ih ⊢
    rw [List.reverse_cons, List.find?_append, List.find?_cons]
    by_cases e : p.g = g
    · have none : ps.reverse.find? (fun p => decide ((p.g : Int) = (g : Int))) = none := by
        rw [List.find?_eq_none]
        intro q hq
        have := h1 q (List.mem_reverse.mp hq)
        simp; omega
      rw [none]
      simp [e]
    · have e2 : ¬ ((p.g : Int) = g) := by omega
      rw [List.find?_cons, show (p.g == g) = false by simp [e]]
      simp only [e2, decide_false, List.find?_nil, Option.or_none]
      exact ih
/-- the place behind a gap whose front is at a place -/
def gapEnd (rs : List Rw) (ps : List Pool) (g place : Nat) : Nat := match wAt ps g with
  | some n => firstW rs g place + 2 * n
  | none => place
def plc (rs : List Rw) (lo : List Nat) (ps : List Pool) : Nat → Nat
  | 0 => 0
  | g + 1 => gapEnd rs ps g (plc rs lo ps g) + if g < rs.length then sizeR rs lo g else 0
def rowPl (rs : List Rw) (lo : List Nat) (ps : List Pool) (g : Nat) : Nat := gapEnd rs ps g (plc rs lo ps g)
def beginsTo (rs : List Rw) (lo : List Nat) (ps : List Pool) (k : Nat) : List Nat := (List.range k).filterMap fun g => (wAt ps g).map fun _ => firstW rs g (plc rs lo ps g)
def natsD (ns : List Nat) : List PyData := ns.map fun (n : Nat) => PyData.int n
def placesM (rs : List Rw) (lo : List Nat) (ps : List Pool) : List Nat := (List.range rs.length).map (rowPl rs lo ps)
def placedO (rs : List Rw) (lo : List Nat) (ps : List Pool) : OD := .tup [.lst (natsD (placesM rs lo ps)), .lst (natsD (beginsTo rs lo ps (rs.length + 1))), .fz (.int (rowPl rs lo ps rs.length))]
theorem beginsTo_le (rs : List Rw) (lo : List Nat) (ps : List Pool) (k : Nat) : (beginsTo rs lo ps k).length ≤ k := by
  have := List.length_filterMap_le (fun g => (wAt ps g).map fun _ => firstW rs g (plc rs lo ps g)) (List.range k)
  rw [List.length_range] at this
  exact this
theorem natsD_len (ns : List Nat) : (natsD ns).length = ns.length := by simp [natsD]
theorem D_placed (T : Txt K mg t) : FnD P w K mg base 4 t.f_placed t.d_placed ["rows", "longs", "pools"] (mkP (fun (a : List Rw × List Nat × List Pool) => [rowsD a.1, intsD a.2.1, poolsD a.2.2]) (fun a => Rising a.2.2 ∧ a.1.length ≤ 1000 ∧ a.2.2.length ≤ 2000) fun a => placedO a.1 a.2.1 a.2.2) := by
  have G_first_word := D_first_word (P := P) (w := w) (base := base) T
  have G_size_of := D_size_of (P := P) (w := w) (base := base) T
  obtain ⟨tk, hc_WORD_CELLS⟩ := T.c_WORD_CELLS
  refine T.F_placed.okP sc_placed (fun _ => rfl) fun cdv A outer s H E hr ⟨rs, lo, ps⟩ ⟨hps, hrs, hpl⟩ Q q => ?_
  have hu1 := hu_of hr
  dsimp only at hps hrs hpl q ⊢
  refine ⟨_, (pdss_cons (pds_setDC (i := 3) sc_placed.nd rfl rfl rfl sn_placed_0.sc (by intro _; rfl) (by rfl) (pdi_list (pdv 2)) (fun _ => (pdg_tup (n := 2) rfl (by rfl) (by rfl) (pdgs_cons (by rfl) (pdg_name (m := 2) (i := 0) sn_placed_0.nd rfl (Or.inl rfl) (by decide)) (pdgs_cons (by rfl) (pdg_name (m := 2) (i := 1) sn_placed_0.nd rfl (Or.inl rfl) (by decide)) pdgs_nil)))) (fun _ => (pdcd_plain hu1 (pdv 0) (pd_callb call_len sc_len rfl T.m_len bt_len (by decide) (by decide) (by rfl) (by rfl) (pda_cons (by rfl) (pdv 1) pda_nil)))))
      (pdss_cons (pds_set (i := 4) sc_placed.nd rfl (Or.inl rfl) (by rfl) (by first | exact Or.inl rfl | exact Or.inr rfl | assumption) (pd_lst hOwn pda_nil))
      (pdss_cons (pds_set (i := 5) sc_placed.nd rfl (Or.inl rfl) (by rfl) (by first | exact Or.inl rfl | exact Or.inr rfl | assumption) (pd_lst hOwn pda_nil))
      (pdss_cons (pds_set (i := 6) sc_placed.nd rfl (Or.inl rfl) (by rfl) (by first | exact Or.inl rfl | exact Or.inr rfl | assumption) pd_int)
      (pdss_cons (pds_for PassesOwn.never rfl (by intro _; rfl) (pdi_range1 rfl T.m_range (by rfl) (pda_cons (by rfl) (pd_add (pd_callb call_len sc_len rfl T.m_len bt_len (by decide) (by decide) (by rfl) (by rfl) (pda_cons (by rfl) (pdv 0) pda_nil)) pd_int) pda_nil)) (pdg_name (m := 8) (i := 7) sc_placed.nd rfl (Or.inl rfl) (by decide))
        (pdss_cons (pds_if (pdt_din (i := 3) hu1 rfl (by first | exact Or.inl rfl | exact Or.inr (Or.inl rfl) | exact Or.inr (Or.inr rfl)) (by decide) (by decide) (by with_unfolding_all rfl) (pdv 7))
        (pdss_cons (pds_app (i := 5) rfl (by first | exact Or.inl rfl | exact Or.inr (Or.inl rfl) | exact Or.inr (Or.inr rfl)) (by decide) (by decide) (by rfl) (by rfl) (by rfl) (by rfl) (by rfl) (by rfl) (pd_callB G_first_word (hr.mono (by first | decide | omega)) rfl T.m_first_word T.F_first_word.kp T.b_first_word (by decide) (by rfl) (by rfl) (pda_cons (by rfl) (pdv 0) (pda_cons (by rfl) (pdv 7) (pda_cons (by rfl) (pdv 6) pda_nil)))))
      (pdss_one (pds_set (i := 6) sc_placed.nd rfl (Or.inl rfl) (by rfl) (by first | exact Or.inl rfl | exact Or.inr rfl | assumption) (pd_add (pd_ix (fun _ _ => rfl) (pdv 5) (pd_neg pd_int)) (pd_mul (pd_glob (v := .int 2) (d := .int 2) rfl hc_WORD_CELLS ⟨_, rfl⟩ (.int _)) (pd_dget (i := 3) hu1 rfl (by first | exact Or.inl rfl | exact Or.inr (Or.inl rfl) | exact Or.inr (Or.inr rfl)) (fun _ _ => rfl) (by decide) (by decide) (pdv 7)))))))
        pdss_nil)
      (pdss_one (pds_if (pdt_cmp op_lt sr_B (nomark _) (pdv 7) (pd_callb call_len sc_len rfl T.m_len bt_len (by decide) (by decide) (by rfl) (by rfl) (pda_cons (by rfl) (pdv 0) pda_nil)))
        (pdss_cons (pds_app (i := 4) rfl (by first | exact Or.inl rfl | exact Or.inr (Or.inl rfl) | exact Or.inr (Or.inr rfl)) (by decide) (by decide) (by rfl) (by rfl) (by rfl) (by rfl) (by rfl) (by rfl) (pdv 6))
      (pdss_one (pds_augI (i := 6) sc_placed.nd rfl (Or.inl rfl) ip_add (by first | exact Or.inl rfl | exact Or.inr rfl | assumption) (pd_callB G_size_of (hr.mono (by first | decide | omega)) rfl T.m_size_of T.F_size_of.kp T.b_size_of (by decide) (by rfl) (by rfl) (pda_cons (by rfl) (pdv 0) (pda_cons (by rfl) (pdv 1) (pda_cons (by rfl) (pdv 7) pda_nil)))))))
        pdss_nil))))
      (pdss_one (pds_ret (pd_tup hMv (pda_cons (by rfl) (pdv 4) (pda_cons (by rfl) (pdv 5) (pda_cons (by rfl) (pdv 6) pda_nil))))))))))), ?_⟩
  repeat walk_at "dp"
  refine ⟨by simp; omega, [], _, rfl, fun k out ρ => (∀ g : Int, valD out (.inl g) = wLast (ps.take k) g) ∧ ∃ x y, ρ = [x, y], ⟨fun g => rfl, none, none, rfl⟩, ?_, ?_⟩
  · rintro k d out ρ hd ⟨ho, x, y, rfl⟩
    rw [List.getElem?_map] at hd
    obtain ⟨p, hp, rfl⟩ := Option.map_eq_some_iff.mp hd
    unfold poolT
    repeat walk_at "dp"
    refine ⟨fun g => ?_, _, _, rfl⟩
    show valD (putD out _ _) _ = _
    rw [valD_put, List.take_succ, hp]
    show _ = wLast (ps.take k ++ [p]) g
    rw [wLast_snoc]
    by_cases e : g = p.g
    · subst e; simp
    · rw [if_neg e, if_neg (by intro z; exact e (Sum.inl.inj z)), ho]
  · rintro out ρ ⟨ho, x, y, rfl⟩
    rw [List.length_map, List.take_length] at ho
    have hw : ∀ g : Nat, valD out (.inl (g : Int)) = (wAt ps g).map fun (n : Nat) => PyData.int n := fun g => by rw [ho, wLast_at hps]
    repeat walk_at "dp"
    simp only [List.length_map]
    refine ⟨by omega, by omega, ?_⟩
    rw [show ((rs.length : Int) + 1).toNat = rs.length + 1 by omega]
    repeat walk_at "dp"
    refine l_rng0 (fun k ρ => ∃ x7, ρ = [some (.fz (rowsD rs)), some (.fz (intsD lo)), some (.fz (poolsD ps)), some (.dic out), some (.lst (natsD ((List.range (min k rs.length)).map (rowPl rs lo ps)))), some (.lst (natsD (beginsTo rs lo ps k))), some (.fz (.int (plc rs lo ps k : Nat))), x7]) ⟨none, ?_⟩ ?_ ?_
    · rw [Nat.zero_min]; rfl
    · rintro k ρ hk ⟨x7, rfl⟩
      have hk' : k ≤ rs.length := by omega
      have bs : beginsTo rs lo ps (k + 1) = beginsTo rs lo ps k ++ (match wAt ps k with | some _ => [firstW rs k (plc rs lo ps k)] | none => []) := by
        unfold beginsTo
        rw [List.range_succ, List.filterMap_append, List.filterMap_cons, List.filterMap_nil]
        cases wAt ps k <;> rfl
      refine ⟨lt_rfl rfl, w_cut (fun ρ => ρ = [some (.fz (rowsD rs)), some (.fz (intsD lo)), some (.fz (poolsD ps)), some (.dic out), some (.lst (natsD ((List.range (min k rs.length)).map (rowPl rs lo ps)))), some (.lst (natsD (beginsTo rs lo ps (k + 1)))), some (.fz (.int (rowPl rs lo ps k : Nat))), some (.fz (.int (k : Nat)))]) ?_ ?_⟩
      · repeat walk_at "dp"
        rw [if_neg Bool.false_ne_true, hw k]
        cases hwk : wAt ps k with
        | none =>
          repeat walk_at "dp"
          have e : rowPl rs lo ps k = plc rs lo ps k := by unfold rowPl gapEnd; rw [hwk]
          rw [bs, hwk, e, List.append_nil]
          rfl
        | some nw =>
          repeat walk_at "dp"
          refine ⟨(rs, k, plc rs lo ps k), rfl, rfl, hk', ?_⟩
          repeat walk_at "dp"
          refine ⟨_, _, _, rfl, rfl, by rw [natsD_len]; have := beginsTo_le rs lo ps k; omega, ?_⟩
          repeat walk_at "dp"
          refine ⟨_, _, _, rfl, item_rfL rfl (atI_last _ _), ?_⟩
          repeat walk_at "dp"
          refine ⟨_, _, _, _, rfl, rfl, rfl, (hw k).trans (by rw [hwk]; rfl), ?_⟩
          repeat walk_at "dp"
          have e : rowPl rs lo ps k = firstW rs k (plc rs lo ps k) + 2 * nw := by unfold rowPl gapEnd; rw [hwk]
          rw [bs, hwk, e]
          simp [natsD]
      · rintro ρ rfl
        repeat walk_at "dp"
        rw [List.length_map]
        refine iteD (fun hlt => ?_) (fun hge => ?_)
        · repeat walk_at "dp"
          refine ⟨_, _, _, rfl, rfl, by rw [natsD_len]; simp; omega, ?_⟩
          repeat walk_at "dp"
          refine ⟨(rs, lo, k), rfl, rfl, by simp only; omega, ?_⟩
          repeat walk_at "dp"
          have e1 : min (k + 1) rs.length = min k rs.length + 1 := by omega
          have e2 : min k rs.length = k := by omega
          have e3 : ((plc rs lo ps (k + 1) : Nat) : Int) = (rowPl rs lo ps k : Nat) + (sizeR rs lo k : Nat) := by
            show ((gapEnd rs ps k (plc rs lo ps k) + _ : Nat) : Int) = _
            rw [if_pos (by omega)]
            rfl
          exact ⟨_, by rw [e1, List.range_succ, List.map_append, e2, e3]; simp [natsD]; rfl⟩
        · repeat walk_at "dp"
          have e1 : min (k + 1) rs.length = min k rs.length := by omega
          have e3 : plc rs lo ps (k + 1) = rowPl rs lo ps k := by
            show gapEnd rs ps k (plc rs lo ps k) + _ = _
            rw [if_neg (by omega)]
            rfl
          exact ⟨_, by rw [e1, e3]⟩
    · rintro ρ ⟨x7, rfl⟩
      repeat walk_at "dp"
      have e1 : min (rs.length + 1) rs.length = rs.length := by omega
      have e2 : plc rs lo ps (rs.length + 1) = rowPl rs lo ps rs.length := by
        show gapEnd rs ps _ (plc rs lo ps _) + _ = _
        rw [if_neg (by omega)]
        rfl
      rw [e1, e2]
      exact q
/-! ### the law's numbers and rows -/
theorem D_great (T : Txt K mg t) : FnD P w K mg base 2 t.f_great t.d_great ["_law_tape_here"] (mkT (fun (_ : Unit) => []) (fun _ => True) (fun _ => 4) fun _ x => ∃ g : Int, x = .fz (.int g) ∧ 100 ≤ g ∧ g < 100000000) := by
  have G_take := D_take (P := P) (w := w) (base := base) T
  refine T.F_great.okT sc_great (fun _ => rfl) fun cdv A outer s H E hr p _ n _ hn Q q => ⟨_, (pdss_cons (pds_set (i := 1) sc_great.nd rfl (Or.inl rfl) (by rfl) (by first | exact Or.inl rfl | exact Or.inr rfl | assumption) (pd_callT (j := 0) rfl (by first | exact Or.inl rfl | exact Or.inr (Or.inl rfl) | exact Or.inr (Or.inr rfl)) G_take (hr.mono (by first | decide | omega)) rfl T.m_take T.F_take.kp T.b_take (by decide) (by decide) (by decide) (by rfl) (by rfl) (pda_cons (by rfl) pd_int pda_nil)))
      (pdss_cons (pds_set (i := 2) sc_great.nd rfl (Or.inl rfl) (by rfl) (by first | exact Or.inl rfl | exact Or.inr rfl | assumption) (pd_add pd_int (pd_callT (j := 0) rfl (by first | exact Or.inl rfl | exact Or.inr (Or.inl rfl) | exact Or.inr (Or.inr rfl)) G_take (hr.mono (by first | decide | omega)) rfl T.m_take T.F_take.kp T.b_take (by decide) (by decide) (by decide) (by rfl) (by rfl) (pda_cons (by rfl) pd_int pda_nil))))
      (pdss_one (pds_ret (pd_ix (fun _ _ => rfl) (pd_lst hOwn (pda_cons (by rfl) (pd_ix (fun _ _ => rfl) (pd_lst hOwn (pda_cons (by rfl) pd_int (pda_cons (by rfl) pd_int (pda_cons (by rfl) pd_int (pda_cons (by rfl) pd_int (pda_cons (by rfl) pd_int pda_nil)))))) (pd_callT (j := 0) rfl (by first | exact Or.inl rfl | exact Or.inr (Or.inl rfl) | exact Or.inr (Or.inr rfl)) G_take (hr.mono (by first | decide | omega)) rfl T.m_take T.F_take.kp T.b_take (by decide) (by decide) (by decide) (by rfl) (by rfl) (pda_cons (by rfl) pd_int pda_nil))) (pda_cons (by rfl) (pd_add pd_int (pd_callT (j := 0) rfl (by first | exact Or.inl rfl | exact Or.inr (Or.inl rfl) | exact Or.inr (Or.inr rfl)) G_take (hr.mono (by first | decide | omega)) rfl T.m_take T.F_take.kp T.b_take (by decide) (by decide) (by decide) (by rfl) (by rfl) (pda_cons (by rfl) pd_int pda_nil))) (pda_cons (by rfl) (pdv 2) (pda_cons (by rfl) pd_int pda_nil))))) (pdv 1)))))), ?_⟩
  repeat walk_at "dp"
  (refine ⟨_, _, rfl, rfl, by omega, by first | decide | omega, by first | decide | omega, ?_⟩; intro r1 a1 b1; walk_at "dn"; repeat walk_at "dp")
  (refine ⟨_, _, rfl, rfl, by omega, by first | decide | omega, by first | decide | omega, ?_⟩; intro r2 a2 b2; walk_at "dn"; repeat walk_at "dp")
  (refine ⟨_, _, rfl, rfl, by omega, by first | decide | omega, by first | decide | omega, ?_⟩; intro r3 a3 b3; walk_at "dn"; repeat walk_at "dp")
  obtain ⟨g, hg, g0, g1⟩ : ∃ g : Int, atI [PyData.int 100, .int 101, .int 12345, .int 10000, .int 9999] r3 = some (.int g) ∧ 100 ≤ g ∧ g < 100000000 := by
    obtain rfl | rfl | rfl | rfl | rfl : r3 = 0 ∨ r3 = 1 ∨ r3 = 2 ∨ r3 = 3 ∨ r3 = 4 := by omega
    all_goals exact ⟨_, rfl, by decide, by decide⟩
  refine ⟨_, _, _, rfl, item_vlst hg, ?_⟩
  repeat walk_at "dp"
  (refine ⟨_, _, rfl, rfl, by omega, by first | decide | omega, by first | decide | omega, ?_⟩; intro r4 a4 b4; walk_at "dn"; repeat walk_at "dp")
  obtain ⟨g', hg', g0', g1'⟩ : ∃ g' : Int, atI [PyData.int g, .int (100 + r4), .int (100 + r2), .int 99999999] r1 = some (.int g') ∧ 100 ≤ g' ∧ g' < 100000000 := by
    obtain rfl | rfl | rfl | rfl : r1 = 0 ∨ r1 = 1 ∨ r1 = 2 ∨ r1 = 3 := by omega
    all_goals exact ⟨_, rfl, by omega, by omega⟩
  refine ⟨_, _, _, rfl, item_vlst hg', ?_⟩
  repeat walk_at "dp"
  exact q _ _ _ rfl ⟨_, rfl, g0', g1'⟩ (by omega) (by omega)
def isJ : Rw → Bool
  | .go _ => true
  | .nil _ _ => true
  | _ => false
/-- the rows' numbers, with a way to tell -/
def ixOf (P : Rw → Bool) (rs : List Rw) (k : Nat) : List Nat := (List.range k).filter fun i => P (rs.getD i .stop)
theorem ixOf_succ (P : Rw → Bool) (rs : List Rw) (k : Nat) : ixOf P rs (k + 1) = ixOf P rs k ++ if P (rs.getD k .stop) then [k] else [] := by
  unfold ixOf
  rw [List.range_succ, List.filter_append, List.filter_cons, List.filter_nil]
theorem ixOf_lt {P : Rw → Bool} {rs : List Rw} {k i : Nat} (h : i ∈ ixOf P rs k) : i < k ∧ P (rs.getD i .stop) = true := by
  have := List.mem_filter.mp h
  exact ⟨List.mem_range.mp this.1, this.2⟩
theorem ixOf_up (P : Rw → Bool) (rs : List Rw) (k : Nat) : (ixOf P rs k).Pairwise (· < ·) := List.Pairwise.filter _ List.pairwise_lt_range
theorem ixOf_le (P : Rw → Bool) (rs : List Rw) (k : Nat) : (ixOf P rs k).length ≤ k := by
  have := List.length_filter_le (fun i => P (rs.getD i .stop)) (List.range k)
  rw [List.length_range] at this
  exact this
theorem D_l_is_great (T : Txt K mg t) : FnD P w K mg base 1 t.f_l_is_great t.d_l_is_great ["_law_row"] (mkP (fun r => [rowT r]) (fun _ => True) fun r => .fz (.bool (isGr r))) := by
  refine T.F_l_is_great.okP sc_l_is_great (fun _ => rfl) fun cdv A outer s H E hr r _ Q q => ⟨_, (pdss_one (pds_ret (pd_and (pd_cmp op_eq sr_eq (nomark _) (pd_ix (fun _ _ => rfl) (pdv 0) pd_int) pd_str) (pd_one (pd_cmp op_gt sr_B (nomark _) (pd_ix (fun _ _ => rfl) (pdv 0) pd_int) pd_int))))), ?_⟩
  cases r <;> (repeat walk_at "dp") <;> exact q
theorem D_size (T : Txt K mg t) : FnD P w K mg base 2 t.f_size t.d_size ["_law_rows_here", "_law_longs_here", "_law_k"] (mkP (fun (a : List Rw × List Nat × Nat) => [rowsD a.1, intsD a.2.1, .int a.2.2]) (fun a => a.2.2 < a.1.length) fun a => .fz (.int (sizeR a.1 a.2.1 a.2.2))) := by
  have G_l_is_great := D_l_is_great (P := P) (w := w) (base := base) T
  refine T.F_size.okP sc_size (fun _ => rfl) fun cdv A outer s H E hr ⟨rs, lo, i⟩ hi Q q => ⟨_, (pdss_one (pds_ret (pd_if (PDw.pt (pdw_or (pdt_val (by intro _; rfl) (pd_callB G_l_is_great (hr.mono (by first | decide | omega)) rfl T.m_l_is_great T.F_l_is_great.kp T.b_l_is_great (by decide) (by rfl) (by rfl) (pda_cons (by rfl) (pd_ix (fun _ _ => rfl) (pdv 0) (pdv 2)) pda_nil))) (pdw_or1 (pdt_cmp op_in_seq sr_in (by with_unfolding_all rfl) (pdv 2) (pdv 1))))) pd_int pd_int))), ?_⟩
  repeat walk_at "dp"
  refine ⟨_, _, _, rfl, item_rows (get_of hi), ?_⟩
  repeat walk_at "dp"
  refine ⟨rs.getD i .stop, rfl, rfl, trivial, ?_⟩
  repeat walk_at "dp"
  refine iteB (fun hg => ?_) (fun hg => ?_)
  · repeat walk_at "dp"
    have : sizeR rs lo i = 2 := by unfold sizeR; rw [hg]; rfl
    rw [this] at q
    exact q
  · repeat walk_at "dp"
    refine k_inL rfl (memD_nats i lo) ?_
    repeat walk_at "dp"
    refine iteD (fun hm => ?_) (fun hm => ?_)
    · repeat walk_at "dp"
      have : sizeR rs lo i = 2 := by unfold sizeR; rw [hg, decide_eq_true hm]; rfl
      rw [this] at q
      exact q
    · repeat walk_at "dp"
      have : sizeR rs lo i = 1 := by unfold sizeR; rw [hg, decide_eq_false hm]; rfl
      rw [this] at q
      exact q
theorem wAt_snoc (ps : List Pool) (p : Pool) (g : Nat) : wAt (ps ++ [p]) g = (wAt ps g).or (if p.g = g then some p.ns.length else none) := by
  unfold wAt
  rw [List.find?_append]
  cases ps.find? fun p => p.g == g with
  | some x => rfl
  | none =>
    by_cases e : p.g = g
    · simp [e]
    · simp [e]
theorem wAt_none {ps : List Pool} {g : Nat} (h : ∀ p ∈ ps, p.g ≠ g) : wAt ps g = none := by
  unfold wAt
  rw [List.find?_eq_none.mpr fun p hp => by simpa using h p hp]
  rfl
theorem D_l_placed (T : Txt K mg t) : FnD P w K mg base 3 t.f_l_placed t.d_l_placed ["_law_rows_here", "_law_longs_here", "_law_pools"] (mkP (fun (a : List Rw × List Nat × List Pool) => [rowsD a.1, intsD a.2.1, poolsD a.2.2]) (fun a => Rising a.2.2 ∧ a.1.length ≤ 1000 ∧ a.2.2.length ≤ 2000) fun a => placedO a.1 a.2.1 a.2.2) := by
  have G_size := D_size (P := P) (w := w) (base := base) T
  refine T.F_l_placed.okP sc_l_placed (fun _ => rfl) fun cdv A outer s H E hr ⟨rs, lo, ps⟩ ⟨hps, hrs, hpl⟩ Q q => ?_
  dsimp only at hps hrs hpl q ⊢
  refine ⟨_, (pdss_cons (pds_par3 (i := 3) (j := 4) (k := 5) rfl sc_l_placed.nd rfl rfl rfl (by decide) (by decide) (by decide) rfl rfl rfl rfl (by rfl) (pda_cons (by rfl) (pd_lst hOwn pda_nil) (pda_cons (by rfl) (pd_lst hOwn pda_nil) (pda_cons (by rfl) pd_int pda_nil))))
      (pdss_cons (pds_for PassesOwn.never rfl (by intro _; rfl) (pdi_range1 rfl T.m_range (by rfl) (pda_cons (by rfl) (pd_add (pd_callb call_len sc_len rfl T.m_len bt_len (by decide) (by decide) (by rfl) (by rfl) (pda_cons (by rfl) (pdv 0) pda_nil)) pd_int) pda_nil)) (pdg_name (m := 9) (i := 6) sc_l_placed.nd rfl (Or.inl rfl) (by decide))
        (pdss_cons (pds_for PassesOwn.never rfl (by intro _; rfl) (pdi_list (pdv 2)) (pdg_tup (n := 2) rfl (by rfl) (by rfl) (pdgs_cons (by rfl) (pdg_name (m := 9) (i := 7) sc_l_placed.nd rfl (Or.inl rfl) (by decide)) (pdgs_cons (by rfl) (pdg_name (m := 9) (i := 8) sc_l_placed.nd rfl (Or.inl rfl) (by decide)) pdgs_nil)))
        (pdss_one (pds_if (pdt_cmp op_eq sr_eq (nomark _) (pdv 7) (pdv 6))
        (pdss_cons (pds_set (i := 5) sc_l_placed.nd rfl (Or.inl rfl) (by rfl) (by first | exact Or.inl rfl | exact Or.inr rfl | assumption) (pd_add (pdv 5) (pd_mul pd_int (pd_callt call_int1 sc_int rfl T.m_int bt_int (by decide) (by decide) (by rfl) (by rfl) (pda_cons (by rfl) (pd_or (pd_cmp op_eq sr_eq (nomark _) (pdv 6) pd_int) (pd_one (pd_cmp op_notIn_seq sr_in (by with_unfolding_all rfl) (pd_ix (fun _ _ => rfl) (pd_ix (fun _ _ => rfl) (pdv 0) (pd_sub (pdv 6) pd_int)) pd_int) (pd_tup hOwn (pda_cons (by rfl) pd_str (pda_cons (by rfl) pd_str pda_nil)))))) pda_nil)))))
      (pdss_cons (pds_set (i := 5) sc_l_placed.nd rfl (Or.inl rfl) (by rfl) (by first | exact Or.inl rfl | exact Or.inr rfl | assumption) (pd_sub (pd_add (pdv 5) pd_int) (pd_mod (pdv 5) pd_int)))
      (pdss_cons (pds_app (i := 4) rfl (by first | exact Or.inl rfl | exact Or.inr (Or.inl rfl) | exact Or.inr (Or.inr rfl)) (by decide) (by decide) (by rfl) (by rfl) (by rfl) (by rfl) (by rfl) (by rfl) (pdv 5))
      (pdss_one (pds_set (i := 5) sc_l_placed.nd rfl (Or.inl rfl) (by rfl) (by first | exact Or.inl rfl | exact Or.inr rfl | assumption) (pd_add (pdv 5) (pd_mul pd_int (pd_callb call_len sc_len rfl T.m_len bt_len (by decide) (by decide) (by rfl) (by rfl) (pda_cons (by rfl) (pdv 8) pda_nil)))))))))
        pdss_nil)))
      (pdss_one (pds_if (pdt_cmp op_lt sr_B (nomark _) (pdv 6) (pd_callb call_len sc_len rfl T.m_len bt_len (by decide) (by decide) (by rfl) (by rfl) (pda_cons (by rfl) (pdv 0) pda_nil)))
        (pdss_cons (pds_app (i := 3) rfl (by first | exact Or.inl rfl | exact Or.inr (Or.inl rfl) | exact Or.inr (Or.inr rfl)) (by decide) (by decide) (by rfl) (by rfl) (by rfl) (by rfl) (by rfl) (by rfl) (pdv 5))
      (pdss_one (pds_set (i := 5) sc_l_placed.nd rfl (Or.inl rfl) (by rfl) (by first | exact Or.inl rfl | exact Or.inr rfl | assumption) (pd_add (pdv 5) (pd_callB G_size (hr.mono (by first | decide | omega)) rfl T.m_size T.F_size.kp T.b_size (by decide) (by rfl) (by rfl) (pda_cons (by rfl) (pdv 0) (pda_cons (by rfl) (pdv 1) (pda_cons (by rfl) (pdv 6) pda_nil))))))))
        pdss_nil))))
      (pdss_one (pds_ret (pd_tup hMv (pda_cons (by rfl) (pdv 3) (pda_cons (by rfl) (pdv 4) (pda_cons (by rfl) (pdv 5) pda_nil)))))))), ?_⟩
  repeat walk_at "dp"
  simp only [List.length_map]
  walk_at "dn"
  refine ⟨by omega, by omega, ?_⟩
  rw [show ((rs.length : Int) + 1).toNat = rs.length + 1 by omega]
  repeat walk_at "dp"
  refine l_rng0 (fun k ρ => ∃ x6 x7 x8, ρ = [some (.fz (rowsD rs)), some (.fz (intsD lo)), some (.fz (poolsD ps)), some (.lst (natsD ((List.range (min k rs.length)).map (rowPl rs lo ps)))), some (.lst (natsD (beginsTo rs lo ps k))), some (.fz (.int (plc rs lo ps k : Nat))), x6, x7, x8]) ⟨none, none, none, ?_⟩ ?_ ?_
  · rw [Nat.zero_min]; rfl
  · rintro k ρ hk ⟨x6, x7, x8, rfl⟩
    have hk' : k ≤ rs.length := by omega
    have bs : beginsTo rs lo ps (k + 1) = beginsTo rs lo ps k ++ (match wAt ps k with | some _ => [firstW rs k (plc rs lo ps k)] | none => []) := by
      unfold beginsTo
      rw [List.range_succ, List.filterMap_append, List.filterMap_cons, List.filterMap_nil]
      cases wAt ps k <;> rfl
    refine ⟨lt_rfl rfl, w_cut (fun ρ => ∃ x7 x8, ρ = [some (.fz (rowsD rs)), some (.fz (intsD lo)), some (.fz (poolsD ps)), some (.lst (natsD ((List.range (min k rs.length)).map (rowPl rs lo ps)))), some (.lst (natsD (beginsTo rs lo ps (k + 1)))), some (.fz (.int (rowPl rs lo ps k : Nat))), some (.fz (.int (k : Nat))), x7, x8]) ?_ ?_⟩
    · repeat walk_at "dp"
      walk_at "dn"
      refine l_map (f := poolT) (xs := ps) (fun j ρ => ∃ x7 x8, ρ = [some (.fz (rowsD rs)), some (.fz (intsD lo)), some (.fz (poolsD ps)), some (.lst (natsD ((List.range (min k rs.length)).map (rowPl rs lo ps)))), some (.lst (natsD (beginsTo rs lo ps k ++ (match wAt (ps.take j) k with | some _ => [firstW rs k (plc rs lo ps k)] | none => [])))), some (.fz (.int (gapEnd rs (ps.take j) k (plc rs lo ps k) : Nat))), some (.fz (.int (k : Nat))), x7, x8]) ⟨x7, x8, ?_⟩ ?_ ?_
      · simp only [List.take_zero, List.append_nil, gapEnd, wAt, List.find?_nil, Option.map_none]
      · rintro j pl ρ hj ⟨x7, x8, rfl⟩
        have et : ps.take (j + 1) = ps.take j ++ [pl] := by rw [List.take_succ, hj]; rfl
        unfold poolT
        repeat walk_at "dp"
        refine iteD (fun hgk => ?_) (fun hgk => ?_)
        · have hgk' : pl.g = k := by omega
          have hn0 : wAt (ps.take j) k = none := by
            refine wAt_none fun p hp e => ?_
            obtain ⟨i, hi⟩ := List.mem_iff_getElem?.mp hp
            have hij : i < j := by
              have := (List.getElem?_eq_some_iff.mp hi).1
              rw [List.length_take] at this
              omega
            rw [List.getElem?_take_of_lt hij] at hi
            have := List.pairwise_iff_getElem.mp hps i j (List.getElem?_eq_some_iff.mp hi).1 (List.getElem?_eq_some_iff.mp hj).1 hij
            rw [(List.getElem?_eq_some_iff.mp hi).2, (List.getElem?_eq_some_iff.mp hj).2] at this
            omega
          have hw1 : wAt (ps.take (j + 1)) k = some pl.ns.length := by rw [et, wAt_snoc, hn0, if_pos hgk']; rfl
          have hg0 : gapEnd rs (ps.take j) k (plc rs lo ps k) = plc rs lo ps k := by unfold gapEnd; rw [hn0]
          rw [hg0, hw1, hn0]
          have hg1 : gapEnd rs (ps.take (j + 1)) k (plc rs lo ps k) = firstW rs k (plc rs lo ps k) + 2 * pl.ns.length := by unfold gapEnd; rw [hw1]
          rw [hg1]
          generalize plc rs lo ps k = pk
          refine w_cut (fun ρ => ρ = [some (.fz (rowsD rs)), some (.fz (intsD lo)), some (.fz (poolsD ps)), some (.lst (natsD ((List.range (min k rs.length)).map (rowPl rs lo ps)))), some (.lst (natsD (beginsTo rs lo ps k))), some (.fz (.int ((if overR rs k then pk + 2 else pk : Nat) : Nat))), some (.fz (.int (k : Nat))), some (.fz (.int pl.g)), some (.fz (.tuple (pl.ns.map PyData.int)))]) ?_ ?_
          · rw [List.append_nil]
            walk_at "dn"
            repeat walk_at "dp"
            refine iteD (fun h0 => ?_) (fun h0 => ?_)
            · repeat walk_at "dp"
              have ho : overR rs k = true := by have : k = 0 := by omega
                                                subst this; rfl
              rw [ho]
              rfl
            · obtain ⟨i, rfl⟩ : ∃ i, k = i + 1 := ⟨k - 1, by omega⟩
              repeat walk_at "dp"
              rw [show ((i + 1 : Nat) : Int) - 1 = (i : Int) by omega]
              refine ⟨_, _, _, rfl, item_rows (get_of (i := i) (by omega)), ?_⟩
              have ho : overR rs (i + 1) = fallsR (rs.getD i .stop) := rfl
              cases hgd : rs.getD i .stop <;> (repeat walk_at "dp") <;> (rw [ho, hgd]; rfl)
          · rintro ρ rfl
            repeat walk_at "dp"
            refine ⟨_, _, _, rfl, rfl, by rw [natsD_len]; have := beginsTo_le rs lo ps k; omega, ?_⟩
            repeat walk_at "dp"
            have ef : ((firstW rs k pk : Nat) : Int) = ((if overR rs k = true then pk + 2 else pk : Nat) : Int) + 2 - ((if overR rs k = true then pk + 2 else pk : Nat) : Int) % 2 := by
              unfold firstW
              generalize (if overR rs k = true then pk + 2 else pk : Nat) = y
              omega
            refine ⟨some (.fz (.int pl.g)), some (.fz (.tuple (pl.ns.map PyData.int))), ?_⟩
            rw [Int.natCast_add, Int.natCast_mul, ef]
            simp [natsD, ef]
        · have hgk' : pl.g ≠ k := by omega
          have hw1 : wAt (ps.take (j + 1)) k = wAt (ps.take j) k := by rw [et, wAt_snoc, if_neg hgk', Option.or_none]
          have hg1 : gapEnd rs (ps.take (j + 1)) k (plc rs lo ps k) = gapEnd rs (ps.take j) k (plc rs lo ps k) := by unfold gapEnd; rw [hw1]
          repeat walk_at "dp"
          exact ⟨_, _, by rw [hw1, hg1]; rfl⟩
      · rintro ρ ⟨x7, x8, rfl⟩
        rw [List.take_length]
        exact ⟨_, _, by rw [bs]; rfl⟩
    · rintro ρ ⟨x7, x8, rfl⟩
      repeat walk_at "dp"
      rw [List.length_map]
      refine iteD (fun hlt => ?_) (fun hge => ?_)
      · repeat walk_at "dp"
        refine ⟨_, _, _, rfl, rfl, by rw [natsD_len]; simp; omega, ?_⟩
        repeat walk_at "dp"
        refine ⟨(rs, lo, k), rfl, rfl, by simp only; omega, ?_⟩
        repeat walk_at "dp"
        have e1 : min (k + 1) rs.length = min k rs.length + 1 := by omega
        have e2 : min k rs.length = k := by omega
        have e3 : ((plc rs lo ps (k + 1) : Nat) : Int) = (rowPl rs lo ps k : Nat) + (sizeR rs lo k : Nat) := by
          show ((gapEnd rs ps k (plc rs lo ps k) + _ : Nat) : Int) = _
          rw [if_pos (by omega)]
          rfl
        exact ⟨_, _, _, by rw [e1, List.range_succ, List.map_append, e2, e3]; simp [natsD]; exact ⟨rfl, rfl, rfl⟩⟩
      · repeat walk_at "dp"
        have e1 : min (k + 1) rs.length = min k rs.length := by omega
        have e3 : plc rs lo ps (k + 1) = rowPl rs lo ps k := by
          show gapEnd rs ps k (plc rs lo ps k) + _ = _
          rw [if_neg (by omega)]
          rfl
        exact ⟨_, _, _, by rw [e1, e3]⟩
  · rintro ρ ⟨x6, x7, x8, rfl⟩
    repeat walk_at "dp"
    have e1 : min (rs.length + 1) rs.length = rs.length := by omega
    have e2 : plc rs lo ps (rs.length + 1) = rowPl rs lo ps rs.length := by
      show gapEnd rs ps _ (plc rs lo ps _) + _ = _
      rw [if_neg (by omega)]
      rfl
    rw [e1, e2]
    exact q
theorem D_same (T : Txt K mg t) (n : Nat) : FnD P w K mg base (n + 1) t.f_same t.d_same ["_law_found", "_law_due"] (mkP (fun d => [d, d]) (DOk n) fun _ => .fz (.bool true)) := by
  refine ⟨(ok_same T n).imp fun vs H Q E h => ?_, mkP_mono⟩
  obtain ⟨S, tp, us, ds, rfl, al, nt, hf, hT, d, ht, rfl, hd, q⟩ := h
  cases tp with
  | some z => cases ht
  | none =>
    cases hf with
    | cons r t =>
      cases t with
      | cons r' t =>
        cases t
        exact ⟨_, _, d, rfl, r.dt, r'.dt, hd, fun H' kp => q _ H' [] (keep_kp kp _) (fun _ _ e => (by cases e)) ⟨rfl, .bl _⟩ (by simp) fun a ha => (by cases ha)⟩
theorem DOk.map {α : Type} {f : α → PyData} {n : Nat} {xs : List α} (hl : xs.length ≤ 100000) (h : ∀ x ∈ xs, DOk n (f x)) : DOk (n + 1) (.list (xs.map f)) := by
  refine ⟨by rw [List.length_map]; exact hl, fun d hd => ?_⟩
  obtain ⟨i, hi, rfl⟩ := List.mem_map.mp hd
  exact h i hi
theorem DOk.int (n : Nat) (i : Int) : DOk n (.int i) := by cases n <;> trivial
theorem DOk.nats (n : Nat) (ns : List Nat) (hl : ns.length ≤ 100000) : DOk (n + 1) (.list (natsD ns)) := DOk.map hl fun _ _ => DOk.int _ _
abbrev grs (rs : List Rw) : List Nat := ixOf isGr rs rs.length
theorem pl_nats (n : Nat) (ns : List Nat) : PlD (n + 1) (.list (natsD ns)) := PlD.map fun x _ => PlD.int _ _
theorem natsD_snoc (l : List Nat) (a : Nat) : natsD (l ++ [a]) = natsD l ++ [PyData.int a] := by simp [natsD]
theorem natsD_ints (l : List Nat) : natsD l = (l.map fun (n : Nat) => (n : Int)).map PyData.int := by simp [natsD]
theorem sorted_nats {ns : List Int} {gs : List Nat} (gn : gs.Nodup) (pm : ns.Perm (gs.map fun (n : Nat) => (n : Int))) (pw : ns.Pairwise (· ≤ ·)) : ∃ gs' : List Nat, ns = gs'.map (fun (n : Nat) => (n : Int)) ∧ gs'.Perm gs ∧ gs'.Pairwise (· < ·) := by
  have nn : ∀ i ∈ ns, 0 ≤ i := fun i hi => by
    obtain ⟨g, _, rfl⟩ := List.mem_map.mp (pm.mem_iff.mp hi)
    omega
  have e1 : (ns.map Int.toNat).map (fun (n : Nat) => (n : Int)) = ns := by
    rw [List.map_map]
    conv => rhs; rw [← List.map_id ns]
    exact List.map_congr_left fun i hi => Int.toNat_of_nonneg (nn i hi)
  have e2 : (ns.map Int.toNat).Perm gs := by
    have := pm.map Int.toNat
    rw [List.map_map] at this
    have e : gs.map (Int.toNat ∘ fun (n : Nat) => (n : Int)) = gs := by
      conv => rhs; rw [← List.map_id gs]
      exact List.map_congr_left fun i _ => by simp
    rw [e] at this
    exact this
  refine ⟨ns.map Int.toNat, e1.symm, e2, ?_⟩
  have nd : (ns.map Int.toNat).Nodup := e2.nodup_iff.mpr gn
  have le : (ns.map Int.toNat).Pairwise (· ≤ ·) := List.pairwise_map.mpr (pw.imp fun h => Int.toNat_le_toNat h)
  exact (le.and nd).imp fun ⟨h1, h2⟩ => Nat.lt_of_le_of_ne h1 h2
theorem D_is_jump (T : Txt K mg t) : FnD P w K mg base 1 t.f_is_jump t.d_is_jump ["row"] (mkP (fun r => [rowT r]) (fun _ => True) fun r => .fz (.bool (isJ r))) := by
  refine T.F_is_jump.okP sc_is_jump (fun _ => rfl) fun cdv A outer s H E hr r _ Q q => ⟨_, (pdss_one (pds_ret (pd_or (pd_cmp op_eq sr_eq (nomark _) (pd_ix (fun _ _ => rfl) (pdv 0) pd_int) pd_str) (pd_one (pd_cmp op_eq sr_eq (nomark _) (pd_ix (fun _ _ => rfl) (pdv 0) pd_int) pd_str))))), ?_⟩
  cases r <;> (repeat walk_at "dp") <;> exact q
theorem D_jumps_of (T : Txt K mg t) : FnD P w K mg base 2 t.f_jumps_of t.d_jumps_of ["rows"] (mkP (fun (rs : List Rw) => [rowsD rs]) (fun rs => rs.length ≤ 1000) fun rs => .lst (natsD (ixOf isJ rs rs.length))) := by
  have G_is_jump := D_is_jump (P := P) (w := w) (base := base) T
  refine T.F_jumps_of.okP sc_jumps_of (fun _ => rfl) fun cdv A outer s H E hr rs hrs Q q => ⟨_, (pdss_one (pds_ret (pd_comp rfl sn_jumps_of_0.sc (by intro _; rfl) (pdi_enum rfl T.m_enumerate (by rfl) (pda_cons (by rfl) (pdv 0) pda_nil)) (fun _ => (pdg_tup (n := 2) rfl (by rfl) (by rfl) (pdgs_cons (by rfl) (pdg_name (m := 2) (i := 0) sn_jumps_of_0.nd rfl (Or.inl rfl) (by decide)) (pdgs_cons (by rfl) (pdg_name (m := 2) (i := 1) sn_jumps_of_0.nd rfl (Or.inl rfl) (by decide)) pdgs_nil)))) (fun _ => (pdc_test (pdt_val (by intro _; rfl) (pd_callB G_is_jump (hr.mono (by first | decide | omega)) rfl T.m_is_jump T.F_is_jump.kp T.b_is_jump (by decide) (by rfl) (by rfl) (pda_cons (by rfl) (pdv 1) pda_nil))) (pdv 0)))))), ?_⟩
  repeat walk_at "dp"
  refine' c_enum (f := rowT) (xs := rs) (fun k out ρ => out = natsD (ixOf isJ rs k) ∧ ∃ x y, ρ = [x, y]) ?hn ?hc ?h0 ?hs ?hf
  case hn => omega
  case hc => walk_at "ev"
  case h0 => exact ⟨rfl, none, none, rfl⟩
  case hs =>
    rintro k r out ρ hk ⟨rfl, x, y, rfl⟩
    have eg : rs.getD k .stop = r := getD_of hk
    rw [ixOf_succ, eg]
    repeat walk_at "dp"
    refine ⟨r, rfl, rfl, trivial, ?_⟩
    repeat walk_at "dp"
    refine iteB (fun h => ?_) (fun h => ?_) <;> (repeat walk_at "dp") <;> exact ⟨by simp [natsD, h], _, _, rfl⟩
  case hf =>
    rintro out ρ ⟨rfl, x, y, rfl⟩
    repeat walk_at "dp"
    exact q
def farth (r : Rw) (hop : Int) : Int := match r with
  | .nil _ _ => if 99 < hop then 99 else hop
  | _ => hop
theorem D_farthest (T : Txt K mg t) : FnD P w K mg base 1 t.f_farthest t.d_farthest ["row", "hop"] (mkP (fun (a : Rw × Int) => [rowT a.1, .int a.2]) (fun _ => True) fun a => .fz (.int (farth a.1 a.2))) := by
  obtain ⟨tk, hc_FARTHEST_NIL⟩ := T.c_FARTHEST_NIL
  refine T.F_farthest.okP sc_farthest (fun _ => rfl) fun cdv A outer s H E hr ⟨r, hop⟩ _ Q q => ⟨_, (pdss_one (pds_ret (pd_if (pdt_cmp op_eq sr_eq (nomark _) (pd_ix (fun _ _ => rfl) (pdv 0) pd_int) pd_str) (pd_callb (call_min2 rfl) sc_min rfl T.m_min bt_min (by decide) (by decide) (by rfl) (by rfl) (pda_cons (by rfl) (pdv 1) (pda_cons (by rfl) (pd_glob (v := .int 99) (d := .int 99) rfl hc_FARTHEST_NIL ⟨_, rfl⟩ (.int _)) pda_nil))) (pdv 1)))), ?_⟩
  cases r <;> (repeat walk_at "dp") <;> exact q
def goalOf : Rw → Nat
  | .go t => t
  | .nil _ t => t
  | _ => 0
def goalsM (rs : List Rw) (lo : List Nat) (ps : List Pool) : List Nat := (List.range (rs.length + 1)).map (rowPl rs lo ps)
theorem goalsM_eq (rs : List Rw) (lo : List Nat) (ps : List Pool) : natsD (placesM rs lo ps) ++ [PyData.int (rowPl rs lo ps rs.length)] = natsD (goalsM rs lo ps) := by
  unfold goalsM placesM natsD
  rw [List.range_succ, List.map_append, List.map_append]
  rfl
theorem natsD_get {ns : List Nat} {i n : Nat} (h : ns[i]? = some n) : (natsD ns)[i]? = some (.int n) := by unfold natsD; rw [List.getElem?_map, h]; rfl
theorem goalsM_get (rs : List Rw) (lo : List Nat) (ps : List Pool) {i : Nat} (h : i ≤ rs.length) : (goalsM rs lo ps)[i]? = some (rowPl rs lo ps i) := by
  unfold goalsM
  rw [List.getElem?_map, List.getElem?_range (by omega)]; rfl
theorem placesM_get (rs : List Rw) (lo : List Nat) (ps : List Pool) {i : Nat} (h : i < rs.length) : (placesM rs lo ps)[i]? = some (rowPl rs lo ps i) := by
  unfold placesM
  rw [List.getElem?_map, List.getElem?_range (by omega)]; rfl
def absI (z : Int) : Int := if z < 0 then -z else z
def farOf (rs : List Rw) (lo : List Nat) (ps : List Pool) (i : Nat) : Int := absI ((rowPl rs lo ps (goalOf (rs.getD i .stop)) : Int) - rowPl rs lo ps i)
def isShort (rs : List Rw) (lo : List Nat) (ps : List Pool) (hop : Int) (i : Nat) : Bool := decide (i ∉ lo) && decide (farth (rs.getD i .stop) hop < farOf rs lo ps i)
def tooS (rs : List Rw) (lo : List Nat) (ps : List Pool) (hop : Int) (k : Nat) : List Nat := (ixOf isJ rs k).filter (isShort rs lo ps hop)
theorem row_last {r : Rw} (h : isJ r = true) : atI (rowD r) (-1) = some (.int (goalOf r)) := by
  cases r <;> first | cases h; done | rfl
theorem goal_le {rs : List Rw} {i : Nat} (hok : ∀ r ∈ rs, RowOk rs.length r) (hi : i < rs.length) : goalOf (rs.getD i .stop) ≤ rs.length := by
  have := hok _ (List.mem_of_getElem? (get_of hi))
  cases e : rs.getD i .stop <;> rw [e] at this <;> simp only [goalOf, RowOk] at * <;> omega
theorem natsD_filt (P : Nat → Bool) (l : List Nat) (k i : Nat) (h : l[k]? = some i) : natsD ((l.take (k + 1)).filter P) = natsD ((l.take k).filter P) ++ if P i then [.int i] else [] := by
  rw [List.take_succ, h]
  simp only [Option.toList, List.filter_append, List.filter_cons, List.filter_nil]
  cases P i <;> simp [natsD]
theorem D_too_short (T : Txt K mg t) : FnD P w K mg base 5 t.f_too_short t.d_too_short ["rows", "longs", "pools", "hop"] (mkP (fun (a : List Rw × List Nat × List Pool × Int) => [rowsD a.1, intsD a.2.1, poolsD a.2.2.1, .int a.2.2.2]) (fun a => Rising a.2.2.1 ∧ a.1.length ≤ 1000 ∧ a.2.2.1.length ≤ 2000 ∧ ∀ r ∈ a.1, RowOk a.1.length r) fun a => .lst (natsD (tooS a.1 a.2.1 a.2.2.1 a.2.2.2 a.1.length))) := by
  have G_placed := D_placed (P := P) (w := w) (base := base) T
  have G_jumps_of := D_jumps_of (P := P) (w := w) (base := base) T
  have G_farthest := D_farthest (P := P) (w := w) (base := base) T
  refine T.F_too_short.okP sc_too_short (fun _ => rfl) fun cdv A outer s H E hr ⟨rs, lo, ps, hop⟩ ⟨hps, hrs, hpl, hok⟩ Q q => ?_
  dsimp only at hps hrs hpl hok q ⊢
  refine ⟨_, (pdss_cons (pds_asg (by rfl) (by rfl) (by rfl) (pd_call G_placed (hr.mono (by first | decide | omega)) rfl T.m_placed T.F_placed.kp T.b_placed (by decide) (by rfl) (by rfl) (pda_cons (by rfl) (pdv 0) (pda_cons (by rfl) (pdv 1) (pda_cons (by rfl) (pdv 2) pda_nil)))) (pdg_tup (n := 3) rfl (by rfl) (by rfl) (pdgs_cons (by rfl) (pdg_name (m := 9) (i := 4) sc_too_short.nd rfl (Or.inr rfl) (by decide)) (pdgs_cons (by rfl) (pdg_name (m := 9) (i := 5) sc_too_short.nd rfl (Or.inl rfl) (by decide)) (pdgs_cons (by rfl) (pdg_name (m := 9) (i := 6) sc_too_short.nd rfl (Or.inl rfl) (by decide)) pdgs_nil)))))
      (pdss_cons (pds_set (i := 7) sc_too_short.nd rfl (Or.inr rfl) (by rfl) (by first | exact Or.inl rfl | exact Or.inr rfl | assumption) (pd_cat (pdv 4) (pd_lst hOwn (pda_cons (by rfl) (pdv 6) pda_nil))))
      (pdss_cons (pds_setC (i := 8) sc_too_short.nd rfl rfl rfl sn_too_short_0.sc (by intro _; rfl) (by rfl) (pdi_list (pd_call G_jumps_of (hr.mono (by first | decide | omega)) rfl T.m_jumps_of T.F_jumps_of.kp T.b_jumps_of (by decide) (by rfl) (by rfl) (pda_cons (by rfl) (pdv 0) pda_nil))) (fun _ => (pdg_name (m := 1) (i := 0) sn_too_short_0.nd rfl (Or.inl rfl) (by decide))) (fun _ => (pdc_test (pdt_cmp op_notIn_seq sr_in (by with_unfolding_all rfl) (pdv 0) (pdv 1)) (pdv 0))))
      (pdss_one (pds_ret (pd_comp rfl sn_too_short_1.sc (by intro _; rfl) (pdi_list (pdv 8)) (fun _ => (pdg_name (m := 1) (i := 0) sn_too_short_1.nd rfl (Or.inl rfl) (by decide))) (fun _ => (pdc_test (pdt_cmp op_gt sr_B (nomark _) (pd_callb call_abs sc_abs rfl T.m_abs bt_abs (by decide) (by decide) (by rfl) (by rfl) (pda_cons (by rfl) (pd_sub (pd_ix (fun _ _ => rfl) (pdv 3) (pd_ix (fun _ _ => rfl) (pd_ix (fun _ _ => rfl) (pdv 2) (pdv 0)) (pd_neg pd_int))) (pd_ix (fun _ _ => rfl) (pdv 4) (pdv 0))) pda_nil)) (pd_callB G_farthest (hr.mono (by first | decide | omega)) rfl T.m_farthest T.F_farthest.kp T.b_farthest (by decide) (by rfl) (by rfl) (pda_cons (by rfl) (pd_ix (fun _ _ => rfl) (pdv 2) (pdv 0)) (pda_cons (by rfl) (pdv 1) pda_nil)))) (pdv 0))))))))), ?_⟩
  repeat walk_at "dp"
  refine ⟨(rs, lo, ps), rfl, rfl, ⟨hps, hrs, hpl⟩, ?_⟩
  dsimp only [placedO]
  repeat walk_at "dp"
  walk_at "dn"
  refine ⟨_, _, rfl, rfl, by rw [natsD_len]; unfold placesM; simp; omega, ?_⟩
  rw [goalsM_eq]
  repeat walk_at "dp"
  refine ⟨rs, rfl, rfl, hrs, ?_⟩
  repeat walk_at "dp"
  have hlj : (ixOf isJ rs rs.length).length ≤ rs.length := ixOf_le _ _ _
  refine' c_map (f := fun (n : Nat) => PyData.int n) (xs := ixOf isJ rs rs.length) (fun k out ρ => out = natsD (((ixOf isJ rs rs.length).take k).filter fun i => decide (i ∉ lo)) ∧ ∃ x, ρ = [x, some (.fz (intsD lo))]) ?hn ?hc ?h0 ?hs ?hf
  case hn => omega
  case hc => walk_at "ev"
  case h0 => exact ⟨rfl, none, rfl⟩
  case hs =>
    rintro k i out ρ hk ⟨rfl, x, rfl⟩
    rw [natsD_filt _ _ _ _ hk]
    repeat walk_at "dp"
    refine k_inL rfl (memD_nats i lo) ?_
    repeat walk_at "dp"
    refine iteB (fun h => ?_) (fun h => ?_)
    · have hv : i ∉ lo := by simpa using h
      repeat walk_at "dp"
      exact ⟨by rw [decide_eq_true hv]; rfl, _, rfl⟩
    · have hv : ¬ i ∉ lo := by simpa using h
      repeat walk_at "dp"
      exact ⟨by rw [decide_eq_false hv]; rfl, _, rfl⟩
  case hf =>
    rintro out ρ ⟨rfl, x, rfl⟩
    rw [List.take_length]
    walk_at "dn"
    repeat walk_at "dp"
    have hlf : ((ixOf isJ rs rs.length).filter fun i => decide (i ∉ lo)).length ≤ rs.length := Nat.le_trans (List.length_filter_le _ _) hlj
    refine' c_map (f := fun (n : Nat) => PyData.int n) (xs := (ixOf isJ rs rs.length).filter fun i => decide (i ∉ lo)) (fun k out ρ => out = natsD ((((ixOf isJ rs rs.length).filter fun i => decide (i ∉ lo)).take k).filter fun i => decide (farth (rs.getD i .stop) hop < farOf rs lo ps i)) ∧ ∃ x, ρ = [x, some (.fz (.int hop)), some (.fz (rowsD rs)), some (.fz (.list (natsD (goalsM rs lo ps)))), some (.fz (.list (natsD (placesM rs lo ps))))]) ?hn ?hc ?h0 ?hs ?hf
    case hn => omega
    case hc => walk_at "ev"
    case h0 => exact ⟨rfl, none, rfl⟩
    case hs =>
      rintro k i out ρ hk ⟨rfl, x, rfl⟩
      rw [natsD_filt _ _ _ _ hk]
      obtain ⟨hi, hj⟩ := ixOf_lt (List.mem_filter.mp (List.mem_of_getElem? hk)).1
      repeat walk_at "dp"
      refine ⟨_, _, _, rfl, item_rows (get_of hi), ?_⟩
      repeat walk_at "dp"
      refine ⟨_, _, _, rfl, item_tup (row_last hj), ?_⟩
      repeat walk_at "dp"
      refine ⟨_, _, _, rfl, item_lst (atI_nat (natsD_get (goalsM_get rs lo ps (goal_le hok hi)))), ?_⟩
      repeat walk_at "dp"
      refine ⟨_, _, _, rfl, item_lst (atI_nat (natsD_get (placesM_get rs lo ps hi))), ?_⟩
      repeat walk_at "dp"
      refine ⟨_, _, _, rfl, item_rows (get_of hi), ?_⟩
      repeat walk_at "dp"
      refine ⟨(rs.getD i .stop, hop), rfl, rfl, trivial, ?_⟩
      repeat walk_at "dp"
      refine iteD (fun h => ?_) (fun h => ?_)
      · have hv : farth (rs.getD i .stop) hop < farOf rs lo ps i := h
        repeat walk_at "dp"
        exact ⟨by rw [decide_eq_true hv]; rfl, _, rfl⟩
      · have hv : ¬ farth (rs.getD i .stop) hop < farOf rs lo ps i := h
        repeat walk_at "dp"
        exact ⟨by rw [decide_eq_false hv]; rfl, _, rfl⟩
    case hf =>
      rintro out ρ ⟨rfl, x, rfl⟩
      rw [List.take_length]
      have e : tooS rs lo ps hop rs.length = ((ixOf isJ rs rs.length).filter fun i => decide (i ∉ lo)).filter fun i => decide (farth (rs.getD i .stop) hop < farOf rs lo ps i) := by
        unfold tooS isShort
        rw [List.filter_filter]
        congr 1
        funext i
        rw [Bool.and_comm]
      rw [e] at q
      walk_at "dn"
      repeat walk_at "dp"
      exact q
theorem tooS_succ (rs : List Rw) (lo : List Nat) (ps : List Pool) (hop : Int) (k : Nat) : tooS rs lo ps hop (k + 1) = tooS rs lo ps hop k ++ if isJ (rs.getD k .stop) && isShort rs lo ps hop k then [k] else [] := by
  unfold tooS
  rw [ixOf_succ, List.filter_append]
  cases isJ (rs.getD k .stop) <;> simp [List.filter_cons]
theorem max_far (a b : Int) {i : Decidable (b - a > a - b)} : @ite Int (b - a > a - b) i (b - a) (a - b) = absI (a - b) := by unfold absI; split <;> split <;> omega
theorem tooS_le (rs : List Rw) (lo : List Nat) (ps : List Pool) (hop : Int) (k : Nat) : (tooS rs lo ps hop k).length ≤ k := Nat.le_trans (List.length_filter_le _ _) (ixOf_le _ _ _)
theorem D_l_too_short (T : Txt K mg t) : FnD P w K mg base 4 t.f_l_too_short t.d_l_too_short ["_law_rows_here", "_law_longs_here", "_law_pools", "_law_hop"] (mkP (fun (a : List Rw × List Nat × List Pool × Int) => [rowsD a.1, intsD a.2.1, poolsD a.2.2.1, .int a.2.2.2]) (fun a => Rising a.2.2.1 ∧ a.1.length ≤ 1000 ∧ a.2.2.1.length ≤ 2000 ∧ ∀ r ∈ a.1, RowOk a.1.length r) fun a => .lst (natsD (tooS a.1 a.2.1 a.2.2.1 a.2.2.2 a.1.length))) := by
  have G_l_placed := D_l_placed (P := P) (w := w) (base := base) T
  refine T.F_l_too_short.okP sc_l_too_short (fun _ => rfl) fun cdv A outer s H E hr ⟨rs, lo, ps, hop⟩ ⟨hps, hrs, hpl, hok⟩ Q q => ?_
  dsimp only at hps hrs hpl hok q ⊢
  refine ⟨_, (pdss_cons (pds_asg (by rfl) (by rfl) (by rfl) (pd_call G_l_placed (hr.mono (by first | decide | omega)) rfl T.m_l_placed T.F_l_placed.kp T.b_l_placed (by decide) (by rfl) (by rfl) (pda_cons (by rfl) (pdv 0) (pda_cons (by rfl) (pdv 1) (pda_cons (by rfl) (pdv 2) pda_nil)))) (pdg_tup (n := 3) rfl (by rfl) (by rfl) (pdgs_cons (by rfl) (pdg_name (m := 12) (i := 4) sc_l_too_short.nd rfl (Or.inl rfl) (by decide)) (pdgs_cons (by rfl) (pdg_name (m := 12) (i := 5) sc_l_too_short.nd rfl (Or.inl rfl) (by decide)) (pdgs_cons (by rfl) (pdg_name (m := 12) (i := 6) sc_l_too_short.nd rfl (Or.inl rfl) (by decide)) pdgs_nil)))))
      (pdss_cons (pds_par (i := 7) (j := 8) rfl sc_l_too_short.nd rfl rfl (by decide) rfl rfl rfl (by rfl) (pda_cons (by rfl) (pd_cat (pdv 4) (pd_lst hOwn (pda_cons (by rfl) (pdv 6) pda_nil))) (pda_cons (by rfl) (pd_lst hOwn pda_nil) pda_nil)))
      (pdss_cons (pds_for PassesOwn.never rfl (by intro _; rfl) (pdi_enum rfl T.m_enumerate (by rfl) (pda_cons (by rfl) (pdv 0) pda_nil)) (pdg_tup (n := 2) rfl (by rfl) (by rfl) (pdgs_cons (by rfl) (pdg_name (m := 12) (i := 9) sc_l_too_short.nd rfl (Or.inl rfl) (by decide)) (pdgs_cons (by rfl) (pdg_name (m := 12) (i := 10) sc_l_too_short.nd rfl (Or.inl rfl) (by decide)) pdgs_nil)))
        (pdss_one (pds_if (PDw.pt (pdw_and (pdt_cmp op_in_seq sr_in (by with_unfolding_all rfl) (pd_ix (fun _ _ => rfl) (pdv 10) pd_int) (pd_tup hOwn (pda_cons (by rfl) pd_str (pda_cons (by rfl) pd_str pda_nil)))) (pdw_and1 (pdt_cmp op_notIn_seq sr_in (by with_unfolding_all rfl) (pdv 9) (pdv 1)))))
        (pdss_cons (pds_set (i := 11) sc_l_too_short.nd rfl (Or.inl rfl) (by rfl) (by first | exact Or.inl rfl | exact Or.inr rfl | assumption) (pd_callb (call_max2 rfl) sc_max rfl T.m_max bt_max (by decide) (by decide) (by rfl) (by rfl) (pda_cons (by rfl) (pd_sub (pd_ix (fun _ _ => rfl) (pdv 7) (pd_ix (fun _ _ => rfl) (pdv 10) (pd_neg pd_int))) (pd_ix (fun _ _ => rfl) (pdv 4) (pdv 9))) (pda_cons (by rfl) (pd_sub (pd_ix (fun _ _ => rfl) (pdv 4) (pdv 9)) (pd_ix (fun _ _ => rfl) (pdv 7) (pd_ix (fun _ _ => rfl) (pdv 10) (pd_neg pd_int)))) pda_nil))))
      (pdss_one (pds_if (PDw.pt (pdw_or (pdt_cmp op_gt sr_B (nomark _) (pdv 11) (pdv 3)) (pdw_or1 (PDw.pt (pdw_and (pdt_cmp op_eq sr_eq (nomark _) (pd_ix (fun _ _ => rfl) (pdv 10) pd_int) pd_str) (pdw_and1 (pdt_cmp op_gt sr_B (nomark _) (pdv 11) pd_int)))))))
        (pdss_one (pds_app (i := 8) rfl (by first | exact Or.inl rfl | exact Or.inr (Or.inl rfl) | exact Or.inr (Or.inr rfl)) (by decide) (by decide) (by rfl) (by rfl) (by rfl) (by rfl) (by rfl) (by rfl) (pdv 9)))
        pdss_nil)))
        pdss_nil)))
      (pdss_one (pds_ret (pdv 8)))))), ?_⟩
  repeat walk_at "dp"
  refine ⟨(rs, lo, ps), rfl, rfl, ⟨hps, hrs, hpl⟩, ?_⟩
  dsimp only [placedO]
  repeat walk_at "dp"
  walk_at "dn"
  refine ⟨_, _, rfl, rfl, by rw [natsD_len]; unfold placesM; simp; omega, ?_⟩
  rw [goalsM_eq]
  repeat walk_at "dp"
  walk_at "dn"
  refine l_enum (f := rowT) (xs := rs) (fun k ρ => ∃ (x9 x10 x11 : Option OD), ρ = [some (.fz (rowsD rs)), some (.fz (intsD lo)), some (.fz (poolsD ps)), some (.fz (.int hop)), some (.lst (natsD (placesM rs lo ps))), some (.lst (natsD (beginsTo rs lo ps (rs.length + 1)))), some (.fz (.int (rowPl rs lo ps rs.length))), some (.lst (natsD (goalsM rs lo ps))), some (.lst (natsD (tooS rs lo ps hop k))), x9, x10, x11]) ⟨none, none, none, rfl⟩ ?_ ?_
  · rintro k r ρ hk ⟨x9, x10, x11, rfl⟩
    have hlt : k < rs.length := (List.getElem?_eq_some_iff.mp hk).1
    have eg : rs.getD k .stop = r := getD_of hk
    have hgl := goal_le hok hlt
    rw [tooS_succ]
    rw [eg] at hgl ⊢
    have hle := tooS_le rs lo ps hop k
    have main : ∀ (far : Int) (x : Option OD), True := fun _ _ => trivial
    cases hj : isJ r with
    | false =>
      rw [Bool.false_and, if_neg Bool.false_ne_true, List.append_nil]
      repeat walk_at "dg"
      walk_at "dn"
      cases r <;> first | (cases hj; done) | ((repeat walk_at "dp"); exact ⟨_, _, _, rfl⟩)
    | true =>
      have hfar : farOf rs lo ps k = absI ((rowPl rs lo ps (goalOf r) : Int) - rowPl rs lo ps k) := by unfold farOf; rw [eg]
      have hlast := row_last hj
      have hsh : isShort rs lo ps hop k = (decide (k ∉ lo) && decide (farth r hop < farOf rs lo ps k)) := by unfold isShort; rw [eg]
      rw [Bool.true_and]
      rw [hfar] at hsh
      generalize isShort rs lo ps hop k = b at hsh ⊢
      cases r with
      | go g =>
        have hsh : b = (decide (k ∉ lo) && decide (farth (.go g) hop < absI ((rowPl rs lo ps g : Int) - rowPl rs lo ps k))) := hsh
        repeat walk_at "dg"
        walk_at "dn"
        repeat walk_at "dp"
        refine k_inL rfl (memD_nats k lo) ?_
        repeat walk_at "dp"
        refine iteB (fun h => ?_) (fun h => ?_)
        · have hv : k ∉ lo := by simpa using h
          repeat walk_at "dp"
          refine ⟨_, _, _, rfl, item_rfL rfl (atI_nat (natsD_get (goalsM_get rs lo ps hgl))), ?_⟩
          repeat walk_at "dp"
          refine ⟨_, _, _, rfl, item_rfL rfl (atI_nat (natsD_get (placesM_get rs lo ps hlt))), ?_⟩
          walk_at "dn"
          repeat walk_at "dp"
          refine ⟨_, _, _, rfl, item_rfL rfl (atI_nat (natsD_get (placesM_get rs lo ps hlt))), ?_⟩
          repeat walk_at "dp"
          refine ⟨_, _, _, rfl, item_rfL rfl (atI_nat (natsD_get (goalsM_get rs lo ps hgl))), ?_⟩
          walk_at "dn"
          repeat walk_at "dp"
          refine iteD (fun h2 => ?_) (fun h2 => ?_) <;> rw [max_far] at h2
          · repeat walk_at "dp"
            walk_at "dn"
            refine ⟨_, _, _, rfl, rfl, by rw [natsD_len]; omega, ?_⟩
            have hb : b = true := by rw [hsh, decide_eq_true hv, decide_eq_true (show farth (.go g) hop < absI ((rowPl rs lo ps g : Int) - rowPl rs lo ps k) from h2), Bool.true_and]
            subst hb
            exact ⟨some (.fz (.int k)), some (.fz (rowT (.go g))), some (.fz (.int _)), by rw [if_pos rfl, natsD_snoc]; rfl⟩
          · repeat walk_at "dp"
            walk_at "dn"
            have hb : b = false := by rw [hsh, decide_eq_false (show ¬ farth (.go g) hop < absI ((rowPl rs lo ps g : Int) - rowPl rs lo ps k) from h2), Bool.and_false]
            subst hb
            exact ⟨some (.fz (.int k)), some (.fz (rowT (.go g))), some (.fz (.int _)), by rw [if_neg Bool.false_ne_true, List.append_nil]⟩
        · have hv : ¬ k ∉ lo := by simpa using h
          have hb : b = false := by rw [hsh, decide_eq_false hv, Bool.false_and]
          subst hb
          repeat walk_at "dp"
          exact ⟨some (.fz (.int k)), some (.fz (rowT (.go g))), x11, by simp⟩
      | nil a g =>
        have hsh : b = (decide (k ∉ lo) && decide (farth (.nil a g) hop < absI ((rowPl rs lo ps g : Int) - rowPl rs lo ps k))) := hsh
        repeat walk_at "dg"
        walk_at "dn"
        repeat walk_at "dp"
        refine k_inL rfl (memD_nats k lo) ?_
        repeat walk_at "dp"
        refine iteB (fun h => ?_) (fun h => ?_)
        · have hv : k ∉ lo := by simpa using h
          repeat walk_at "dp"
          refine ⟨_, _, _, rfl, item_rfL rfl (atI_nat (natsD_get (goalsM_get rs lo ps hgl))), ?_⟩
          repeat walk_at "dp"
          refine ⟨_, _, _, rfl, item_rfL rfl (atI_nat (natsD_get (placesM_get rs lo ps hlt))), ?_⟩
          walk_at "dn"
          repeat walk_at "dp"
          refine ⟨_, _, _, rfl, item_rfL rfl (atI_nat (natsD_get (placesM_get rs lo ps hlt))), ?_⟩
          repeat walk_at "dp"
          refine ⟨_, _, _, rfl, item_rfL rfl (atI_nat (natsD_get (goalsM_get rs lo ps hgl))), ?_⟩
          walk_at "dn"
          repeat walk_at "dp"
          refine iteD (fun h2 => ?_) (fun h2 => ?_) <;> rw [max_far] at h2
          · repeat walk_at "dp"
            walk_at "dn"
            refine ⟨_, _, _, rfl, rfl, by rw [natsD_len]; omega, ?_⟩
            have hb : b = true := by rw [hsh, decide_eq_true hv, decide_eq_true (show farth (.nil a g) hop < absI ((rowPl rs lo ps g : Int) - rowPl rs lo ps k) from by unfold farth; dsimp only; split <;> omega), Bool.true_and]
            subst hb
            exact ⟨some (.fz (.int k)), some (.fz (rowT (.nil a g))), some (.fz (.int _)), by rw [if_pos rfl, natsD_snoc]; rfl⟩
          · repeat walk_at "dp"
            refine iteD (fun h3 => ?_) (fun h3 => ?_) <;> rw [max_far] at h3
            · repeat walk_at "dp"
              walk_at "dn"
              refine ⟨_, _, _, rfl, rfl, by rw [natsD_len]; omega, ?_⟩
              have hb : b = true := by rw [hsh, decide_eq_true hv, decide_eq_true (show farth (.nil a g) hop < absI ((rowPl rs lo ps g : Int) - rowPl rs lo ps k) from by unfold farth; dsimp only; split <;> omega), Bool.true_and]
              subst hb
              exact ⟨some (.fz (.int k)), some (.fz (rowT (.nil a g))), some (.fz (.int _)), by rw [if_pos rfl, natsD_snoc]; rfl⟩
            · repeat walk_at "dp"
              walk_at "dn"
              have hb : b = false := by rw [hsh, decide_eq_false (show ¬ farth (.nil a g) hop < absI ((rowPl rs lo ps g : Int) - rowPl rs lo ps k) from by unfold farth; dsimp only; split <;> omega), Bool.and_false]
              subst hb
              exact ⟨some (.fz (.int k)), some (.fz (rowT (.nil a g))), some (.fz (.int _)), by rw [if_neg Bool.false_ne_true, List.append_nil]⟩
        · have hv : ¬ k ∉ lo := by simpa using h
          have hb : b = false := by rw [hsh, decide_eq_false hv, Bool.false_and]
          subst hb
          repeat walk_at "dp"
          exact ⟨some (.fz (.int k)), some (.fz (rowT (.nil a g))), x11, by simp⟩
      | _ => cases hj
  · rintro ρ ⟨x9, x10, x11, rfl⟩
    repeat walk_at "dp"
    exact q
def JumpyPost (x : OD) : Prop := ∃ rs : List Rw, x = .lst (rs.map rowT) ∧ rs.length ≤ 120 ∧ (grs rs).length ≤ 60 ∧ (∀ r ∈ rs, RowOk rs.length r) ∧ (rs.filter isJ).length ≤ 6 ∧ 0 < (rs.filter isJ).length
theorem filt_take {α : Type} (P : α → Bool) (l : List α) (k : Nat) (a : α) (h : l[k]? = some a) : (l.take (k + 1)).filter P = (l.take k).filter P ++ if P a then [a] else [] := by
  rw [List.take_succ, h]
  simp only [Option.toList, List.filter_append, List.filter_cons, List.filter_nil]
theorem grs_count (rs : List Rw) : (grs rs).length = (rs.filter isGr).length := by
  have : ∀ k, k ≤ rs.length → (ixOf isGr rs k).length = ((rs.take k).filter isGr).length := by
    intro k
    induction k with
    | zero => intro _; rfl
    | succ k ih =>
      intro hk
      rw [ixOf_succ, filt_take isGr rs k (rs.getD k .stop) (get_of (by omega)), List.length_append, List.length_append, ih (by omega)]
      cases isGr (rs.getD k .stop) <;> rfl
  rw [show grs rs = ixOf isGr rs rs.length from rfl, this _ (Nat.le_refl _), List.take_length]
theorem set_count (rs : List Rw) (k : Nat) (r : Rw) (h : isGr r = false) : ((rs.set k r).filter isGr).length ≤ (rs.filter isGr).length := by
  induction rs generalizing k with
  | nil => simp
  | cons a rs ih =>
    cases k with
    | zero => simp only [List.set_cons_zero, List.filter_cons, h, Bool.false_eq_true, if_false]; split <;> simp
    | succ k =>
      simp only [List.set_cons_succ, List.filter_cons]
      have := ih k
      split <;> simp <;> omega
theorem set_one (P : Rw → Bool) (rs : List Rw) (k : Nat) (r : Rw) : ((rs.set k r).filter P).length ≤ (rs.filter P).length + 1 := by
  induction rs generalizing k with
  | nil => simp
  | cons a rs ih =>
    cases k with
    | zero => simp only [List.set_cons_zero, List.filter_cons]; split <;> split <;> simp <;> omega
    | succ k =>
      simp only [List.set_cons_succ, List.filter_cons]
      have := ih k
      split <;> simp <;> omega
theorem set_pos (P : Rw → Bool) (rs : List Rw) (k : Nat) (r : Rw) (h : P r = true) (hk : k < rs.length) : 0 < ((rs.set k r).filter P).length := by
  apply List.length_pos_of_mem (a := r)
  exact List.mem_filter.mpr ⟨List.mem_set hk r, h⟩
theorem set_ok {M : Nat} {rs : List Rw} {k : Nat} {r : Rw} (ok : ∀ r ∈ rs, RowOk M r) (h : RowOk M r) : ∀ r' ∈ rs.set k r, RowOk M r' := fun r' hr => (List.mem_or_eq_of_mem_set hr).elim (ok r') fun e => e ▸ h
theorem ixN_nat {n k : Nat} (h : k < n) : ixN n (k : Int) = some k := by
  unfold ixN
  simp [h]
theorem D_jumpy (T : Txt K mg t) : FnD P w K mg base 3 t.f_jumpy t.d_jumpy ["_law_tape_here"] (mkT (fun (_ : Unit) => []) (fun _ => True) (fun _ => 2000) fun _ => JumpyPost) := by
  have G_take := D_take (P := P) (w := w) (base := base) T
  have G_great := D_great (P := P) (w := w) (base := base) T
  have G_l_is_great := D_l_is_great (P := P) (w := w) (base := base) T
  refine T.F_jumpy.okT sc_jumpy (fun _ => rfl) fun cdv A outer s H E hr p _ n _ hn Q q => ⟨_, (pdss_cons (pds_set (i := 1) sc_jumpy.nd rfl (Or.inl rfl) (by rfl) (by first | exact Or.inl rfl | exact Or.inr rfl | assumption) (pd_add pd_int (pd_callT (j := 0) rfl (by first | exact Or.inl rfl | exact Or.inr (Or.inl rfl) | exact Or.inr (Or.inr rfl)) G_take (hr.mono (by first | decide | omega)) rfl T.m_take T.F_take.kp T.b_take (by decide) (by decide) (by decide) (by rfl) (by rfl) (pda_cons (by rfl) (pd_ix (fun _ _ => rfl) (pd_lst hOwn (pda_cons (by rfl) pd_int (pda_cons (by rfl) pd_int pda_nil))) (pd_callT (j := 0) rfl (by first | exact Or.inl rfl | exact Or.inr (Or.inl rfl) | exact Or.inr (Or.inr rfl)) G_take (hr.mono (by first | decide | omega)) rfl T.m_take T.F_take.kp T.b_take (by decide) (by decide) (by decide) (by rfl) (by rfl) (pda_cons (by rfl) pd_int pda_nil))) pda_nil))))
      (pdss_cons (pds_if (pdt_cmp op_eq sr_eq (nomark _) (pd_callT (j := 0) rfl (by first | exact Or.inl rfl | exact Or.inr (Or.inl rfl) | exact Or.inr (Or.inr rfl)) G_take (hr.mono (by first | decide | omega)) rfl T.m_take T.F_take.kp T.b_take (by decide) (by decide) (by decide) (by rfl) (by rfl) (pda_cons (by rfl) pd_int pda_nil)) pd_int)
        (pdss_one (pds_set (i := 1) sc_jumpy.nd rfl (Or.inl rfl) (by rfl) (by first | exact Or.inl rfl | exact Or.inr rfl | assumption) pd_int))
        pdss_nil)
      (pdss_cons (pds_set (i := 2) sc_jumpy.nd rfl (Or.inl rfl) (by rfl) (by first | exact Or.inl rfl | exact Or.inr rfl | assumption) (pd_lst hOwn pda_nil))
      (pdss_cons (pds_for PassesOwn.never rfl (by intro _; rfl) (pdi_range1 rfl T.m_range (by rfl) (pda_cons (by rfl) (pdv 1) pda_nil)) (pdg_name (m := 7) (i := 3) sc_jumpy.nd rfl (Or.inl rfl) (by decide))
        (pdss_cons (pds_set (i := 4) sc_jumpy.nd rfl (Or.inl rfl) (by rfl) (by first | exact Or.inl rfl | exact Or.inr rfl | assumption) (pd_callb call_len sc_len rfl T.m_len bt_len (by decide) (by decide) (by rfl) (by rfl) (pda_cons (by rfl) (pd_compB (i := 2) rfl (by first | exact Or.inl rfl | exact Or.inr (Or.inl rfl) | exact Or.inr (Or.inr rfl)) (by decide) (by decide) rfl sn_jumpy_0.sc (by intro _; rfl)  (fun _ => (pdg_name (m := 1) (i := 0) sn_jumpy_0.nd rfl (Or.inl rfl) (by decide))) (fun _ => (pdc_test (pdt_val (by intro _; rfl) (pd_callB G_l_is_great (hr.mono (by first | decide | omega)) rfl T.m_l_is_great T.F_l_is_great.kp T.b_l_is_great (by decide) (by rfl) (by rfl) (pda_cons (by rfl) (pdv 0) pda_nil))) (pdv 0)))) pda_nil)))
      (pdss_one (pds_if (PDw.pt (pdw_and (pdt_cmp op_eq sr_eq (nomark _) (pd_callT (j := 0) rfl (by first | exact Or.inl rfl | exact Or.inr (Or.inl rfl) | exact Or.inr (Or.inr rfl)) G_take (hr.mono (by first | decide | omega)) rfl T.m_take T.F_take.kp T.b_take (by decide) (by decide) (by decide) (by rfl) (by rfl) (pda_cons (by rfl) (pd_ix (fun _ _ => rfl) (pd_lst hOwn (pda_cons (by rfl) pd_int (pda_cons (by rfl) pd_int pda_nil))) (pd_callT (j := 0) rfl (by first | exact Or.inl rfl | exact Or.inr (Or.inl rfl) | exact Or.inr (Or.inr rfl)) G_take (hr.mono (by first | decide | omega)) rfl T.m_take T.F_take.kp T.b_take (by decide) (by decide) (by decide) (by rfl) (by rfl) (pda_cons (by rfl) pd_int pda_nil))) pda_nil)) pd_int) (pdw_and1 (pdt_cmp op_lt sr_B (nomark _) (pdv 4) (pd_fdiv (pdv 1) pd_int)))))
        (pdss_one (pds_app (i := 2) rfl (by first | exact Or.inl rfl | exact Or.inr (Or.inl rfl) | exact Or.inr (Or.inr rfl)) (by decide) (by decide) (by rfl) (by rfl) (by rfl) (by rfl) (by rfl) (by rfl) (pd_tup hOwn (pda_cons (by rfl) pd_str (pda_cons (by rfl) (pd_callT (j := 0) rfl (by first | exact Or.inl rfl | exact Or.inr (Or.inl rfl) | exact Or.inr (Or.inr rfl)) G_take (hr.mono (by first | decide | omega)) rfl T.m_take T.F_take.kp T.b_take (by decide) (by decide) (by decide) (by rfl) (by rfl) (pda_cons (by rfl) pd_int pda_nil)) (pda_cons (by rfl) (pd_callT (j := 0) rfl (by first | exact Or.inl rfl | exact Or.inr (Or.inl rfl) | exact Or.inr (Or.inr rfl)) G_great (hr.mono (by first | decide | omega)) rfl T.m_great T.F_great.kp T.b_great (by decide) (by decide) (by decide) (by rfl) (by rfl) pda_nil) pda_nil))))))
        (pdss_one (pds_app (i := 2) rfl (by first | exact Or.inl rfl | exact Or.inr (Or.inl rfl) | exact Or.inr (Or.inr rfl)) (by decide) (by decide) (by rfl) (by rfl) (by rfl) (by rfl) (by rfl) (by rfl) (pd_ix (fun _ _ => rfl) (pd_lst hOwn (pda_cons (by rfl) (pd_tup hOwn (pda_cons (by rfl) pd_str (pda_cons (by rfl) pd_int pda_nil))) (pda_cons (by rfl) (pd_tup hOwn (pda_cons (by rfl) pd_str (pda_cons (by rfl) pd_int (pda_cons (by rfl) pd_int pda_nil)))) (pda_cons (by rfl) (pd_tup hOwn (pda_cons (by rfl) pd_str (pda_cons (by rfl) pd_int (pda_cons (by rfl) pd_int pda_nil)))) pda_nil)))) (pd_callT (j := 0) rfl (by first | exact Or.inl rfl | exact Or.inr (Or.inl rfl) | exact Or.inr (Or.inr rfl)) G_take (hr.mono (by first | decide | omega)) rfl T.m_take T.F_take.kp T.b_take (by decide) (by decide) (by decide) (by rfl) (by rfl) (pda_cons (by rfl) pd_int pda_nil)))))))))
      (pdss_cons (pds_for PassesOwn.never rfl (by intro _; rfl) (pdi_range1 rfl T.m_range (by rfl) (pda_cons (by rfl) (pd_add pd_int (pd_callT (j := 0) rfl (by first | exact Or.inl rfl | exact Or.inr (Or.inl rfl) | exact Or.inr (Or.inr rfl)) G_take (hr.mono (by first | decide | omega)) rfl T.m_take T.F_take.kp T.b_take (by decide) (by decide) (by decide) (by rfl) (by rfl) (pda_cons (by rfl) pd_int pda_nil))) pda_nil)) (pdg_name (m := 7) (i := 5) sc_jumpy.nd rfl (Or.inl rfl) (by decide))
        (pdss_cons (pds_par (i := 3) (j := 6) rfl sc_jumpy.nd rfl rfl (by decide) rfl rfl rfl (by rfl) (pda_cons (by rfl) (pd_callT (j := 0) rfl (by first | exact Or.inl rfl | exact Or.inr (Or.inl rfl) | exact Or.inr (Or.inr rfl)) G_take (hr.mono (by first | decide | omega)) rfl T.m_take T.F_take.kp T.b_take (by decide) (by decide) (by decide) (by rfl) (by rfl) (pda_cons (by rfl) (pdv 1) pda_nil)) (pda_cons (by rfl) (pd_callT (j := 0) rfl (by first | exact Or.inl rfl | exact Or.inr (Or.inl rfl) | exact Or.inr (Or.inr rfl)) G_take (hr.mono (by first | decide | omega)) rfl T.m_take T.F_take.kp T.b_take (by decide) (by decide) (by decide) (by rfl) (by rfl) (pda_cons (by rfl) (pd_add (pdv 1) pd_int) pda_nil)) pda_nil)))
      (pdss_one (pds_asg (by rfl) (by rfl) (by rfl) (pd_ix (fun _ _ => rfl) (pd_lst hOwn (pda_cons (by rfl) (pd_tup hOwn (pda_cons (by rfl) pd_str (pda_cons (by rfl) (pdv 6) pda_nil))) (pda_cons (by rfl) (pd_tup hOwn (pda_cons (by rfl) pd_str (pda_cons (by rfl) (pd_callT (j := 0) rfl (by first | exact Or.inl rfl | exact Or.inr (Or.inl rfl) | exact Or.inr (Or.inr rfl)) G_take (hr.mono (by first | decide | omega)) rfl T.m_take T.F_take.kp T.b_take (by decide) (by decide) (by decide) (by rfl) (by rfl) (pda_cons (by rfl) pd_int pda_nil)) (pda_cons (by rfl) (pdv 6) pda_nil)))) pda_nil))) (pd_callT (j := 0) rfl (by first | exact Or.inl rfl | exact Or.inr (Or.inl rfl) | exact Or.inr (Or.inr rfl)) G_take (hr.mono (by first | decide | omega)) rfl T.m_take T.F_take.kp T.b_take (by decide) (by decide) (by decide) (by rfl) (by rfl) (pda_cons (by rfl) pd_int pda_nil))) (pdg_sub (m := 7) (i := 2) rfl (by first | exact Or.inl rfl | exact Or.inr (Or.inl rfl) | exact Or.inr (Or.inr rfl)) (le_rfl' rfl) (fun _ _ _ _ I => I.len) (by decide) (by decide) (by intro _; rfl) (pdv 3))))))
      (pdss_cons (pds_if (pdt_cmp op_eq sr_eq (nomark _) (pdv 1) pd_int)
        (pdss_one (pds_asg (by rfl) (by rfl) (by rfl) (pd_tup hOwn (pda_cons (by rfl) (pd_tup hOwn (pda_cons (by rfl) pd_str (pda_cons (by rfl) pd_int pda_nil))) (pda_cons (by rfl) (pd_tup hOwn (pda_cons (by rfl) pd_str (pda_cons (by rfl) pd_int (pda_cons (by rfl) pd_int pda_nil)))) pda_nil))) (pdg_tup (n := 2) rfl (by rfl) (by rfl) (pdgs_cons (by rfl) (pdg_sub (m := 7) (i := 2) rfl (by first | exact Or.inl rfl | exact Or.inr (Or.inl rfl) | exact Or.inr (Or.inr rfl)) (le_rfl' rfl) (fun _ _ _ _ I => I.len) (by decide) (by decide) (by intro _; rfl) pd_int) (pdgs_cons (by rfl) (pdg_sub (m := 7) (i := 2) rfl (by first | exact Or.inl rfl | exact Or.inr (Or.inl rfl) | exact Or.inr (Or.inr rfl)) (le_rfl' rfl) (fun _ _ _ _ I => I.len) (by decide) (by decide) (by intro _; rfl) pd_int) pdgs_nil)))))
        pdss_nil)
      (pdss_one (pds_ret (pdv 2))))))))), ?_⟩
  refine w_cut (fun ρ => ∃ (M : Nat) (m : Int), 20 ≤ M ∧ M ≤ 120 ∧ n ≤ m ∧ m ≤ n + 2 ∧ ρ = [some (.tape p m), some (.fz (.int M)), none, none, none, none, none]) ?_ ?_
  · repeat walk_at "dp"
    (refine ⟨_, _, rfl, rfl, by omega, by first | decide | omega, by first | decide | omega, ?_⟩; intro r1 a1 b1; walk_at "dn"; repeat walk_at "dp")
    obtain ⟨g, hg, g0, g1⟩ : ∃ g : Int, atI [PyData.int 20, .int 81] r1 = some (.int g) ∧ 1 ≤ g ∧ g ≤ 81 := by
      obtain rfl | rfl : r1 = 0 ∨ r1 = 1 := by omega
      all_goals exact ⟨_, rfl, by decide, by decide⟩
    refine ⟨_, _, _, rfl, item_vlst hg, ?_⟩
    repeat walk_at "dp"
    (refine ⟨_, _, rfl, rfl, by omega, by first | decide | omega, by first | decide | omega, ?_⟩; intro r2 a2 b2; walk_at "dn"; repeat walk_at "dp")
    exact ⟨(20 + r2).toNat, n + 1 + 1, by omega, by omega, by omega, by omega, by rw [Int.toNat_of_nonneg (by omega)]; rfl⟩
  rintro ρ ⟨M1, m1, hM0, hM1, m10, m11, rfl⟩
  refine w_cut (fun ρ => ∃ (M : Nat) (m : Int), 20 ≤ M ∧ M ≤ 120 ∧ n ≤ m ∧ m ≤ n + 3 ∧ ρ = [some (.tape p m), some (.fz (.int M)), none, none, none, none, none]) ?_ ?_
  · repeat walk_at "dp"
    (refine ⟨_, _, rfl, rfl, by omega, by first | decide | omega, by first | decide | omega, ?_⟩; intro r1 a1 b1; walk_at "dn"; repeat walk_at "dp")
    refine iteD (fun h1 => ?_) (fun h1 => ?_)
    · repeat walk_at "dp"
      exact ⟨120, m1 + 1, by omega, by omega, by omega, by omega, rfl⟩
    · repeat walk_at "dp"
      exact ⟨M1, m1 + 1, by omega, by omega, by omega, by omega, rfl⟩
  clear hM0 hM1 m10 m11 M1
  rintro ρ ⟨M, m, hM0, hM, m0, m1, rfl⟩
  repeat walk_at "dp"
  rw [Int.toNat_natCast]
  walk_at "dn"
  refine l_rng0 (fun k ρ => ∃ (m' : Int) (rs : List Rw) (x3 x4 : Option OD), ρ = [some (.tape p m'), some (.fz (.int M)), some (.lst (rs.map rowT)), x3, x4, none, none] ∧ n ≤ m' ∧ m' ≤ n + 3 + 10 * k ∧ rs.length = k ∧ (∀ r ∈ rs, RowOk M r) ∧ (rs.filter isGr).length ≤ M / 2 ∧ (rs.filter isJ).length ≤ 0) ⟨m, [], none, none, rfl, by omega, by omega, rfl, by simp, by simp, by simp⟩ ?_ ?_
  · rintro k ρ hk ⟨m', rs, x3, x4, rfl, c0, c1, hl, ok, hgr, hjr⟩
    refine ⟨lt_rfl rfl, ?_⟩
    walk_at "dn"
    repeat walk_at "dp"
    refine' c_map (f := rowT) (xs := rs) (fun j out ρ => out = ((rs.take j).filter isGr).map rowT ∧ ∃ x, ρ = [x]) ?hn ?hc ?h0 ?hs ?hf
    case hn => omega
    case hc => walk_at "ev"
    case h0 => exact ⟨rfl, none, rfl⟩
    case hs =>
      rintro j r out ρ hj ⟨rfl, x, rfl⟩
      rw [filt_take isGr rs j r hj, List.map_append]
      repeat walk_at "dp"
      refine ⟨r, rfl, rfl, trivial, ?_⟩
      repeat walk_at "dp"
      refine iteB (fun h => ?_) (fun h => ?_) <;> (repeat walk_at "dp") <;> exact ⟨by simp [h], _, rfl⟩
    case hf =>
      rintro out ρ ⟨rfl, x, rfl⟩
      rw [List.take_length]
      walk_at "dn"
      repeat walk_at "dp"
      (refine ⟨_, _, rfl, rfl, by omega, by first | decide | omega, by first | decide | omega, ?_⟩; intro r1 a1 b1; walk_at "dn"; repeat walk_at "dp")
      obtain ⟨g, hg, g0, g1⟩ : ∃ g : Int, atI [PyData.int 9, .int 4] r1 = some (.int g) ∧ 1 ≤ g ∧ g ≤ 9 := by
        obtain rfl | rfl : r1 = 0 ∨ r1 = 1 := by omega
        all_goals exact ⟨_, rfl, by decide, by decide⟩
      refine ⟨_, _, _, rfl, item_vlst hg, ?_⟩
      repeat walk_at "dp"
      (refine ⟨_, _, rfl, rfl, by omega, by first | decide | omega, by first | decide | omega, ?_⟩; intro r2 a2 b2; walk_at "dn"; repeat walk_at "dp")
      refine iteD (fun h1 => ?_) (fun h1 => ?_)
      · repeat walk_at "dp"
        refine iteD (fun h2 => ?_) (fun h2 => ?_)
        · rw [List.length_map] at h2
          repeat walk_at "dp"
          (refine ⟨_, _, rfl, rfl, by omega, by first | decide | omega, by first | decide | omega, ?_⟩; intro r3 a3 b3; walk_at "dn"; repeat walk_at "dp")
          obtain ⟨R, rfl⟩ : ∃ R : Nat, r3 = R := ⟨r3.toNat, by omega⟩
          (refine ⟨(), _, rfl, rfl, trivial, by ((try dsimp only); omega), ?_⟩; intro x m2 hx d0 d1; (try dsimp only at hx); (try dsimp only at d1); walk_at "dn")
          obtain ⟨g, rfl, g0, g1⟩ := hx
          repeat walk_at "dp"
          refine ⟨_, _, _, rfl, rfl, by rw [List.length_map]; omega, ?_⟩
          refine ⟨m2, rs ++ [.set R g], some (.fz (.int k)), some (.fz (.int _)), by rw [List.map_append]; rfl, by omega, by omega, by simp [hl], fun r hr' => (List.mem_append.mp hr').elim (ok r) fun h => by rw [List.mem_singleton.mp h]; exact ⟨by omega, by omega, by omega⟩, ?_, by rw [List.filter_append, List.length_append, show List.filter isJ [Rw.set R g] = [] from rfl]; exact hjr⟩
          rw [List.filter_append, List.length_append]
          have : (List.filter isGr [Rw.set R g]).length ≤ 1 := List.length_filter_le _ _
          omega
        · repeat walk_at "dp"
          (refine ⟨_, _, rfl, rfl, by omega, by first | decide | omega, by first | decide | omega, ?_⟩; intro r3 a3 b3; walk_at "dn"; repeat walk_at "dp")
          obtain ⟨w1, hw1, ok1, ng1, nj1⟩ : ∃ r : Rw, atI [PyData.tuple [.str "tell", .int 1], .tuple [.str "sum", .int 1, .int 2], .tuple [.str "set", .int 0, .int 99]] r3 = some (rowT r) ∧ RowOk M r ∧ isGr r = false ∧ isJ r = false := by
            obtain rfl | rfl | rfl : r3 = 0 ∨ r3 = 1 ∨ r3 = 2 := by omega
            · exact ⟨.tell 1, rfl, show 1 < 5 by decide, rfl, rfl⟩
            · exact ⟨.sum 1 2, rfl, show 1 < 5 ∧ 2 < 5 by decide, rfl, rfl⟩
            · exact ⟨.set 0 99, rfl, show 0 < 5 ∧ (0 : Int) ≤ 99 ∧ (99 : Int) < 100000000 by decide, rfl, rfl⟩
          refine ⟨_, _, _, rfl, item_vlst hw1, ?_⟩
          repeat walk_at "dp"
          refine ⟨_, _, _, rfl, rfl, by rw [List.length_map]; omega, ?_⟩
          refine ⟨_, rs ++ [w1], some (.fz (.int k)), some (.fz (.int _)), by rw [List.map_append]; rfl, by omega, by omega, by simp [hl], fun r hr' => (List.mem_append.mp hr').elim (ok r) fun h => by rw [List.mem_singleton.mp h]; exact ok1, by rw [List.filter_append]; simp [ng1]; omega, by rw [List.filter_append]; simp [nj1]; simpa using hjr⟩
      · repeat walk_at "dp"
        (refine ⟨_, _, rfl, rfl, by omega, by first | decide | omega, by first | decide | omega, ?_⟩; intro r3 a3 b3; walk_at "dn"; repeat walk_at "dp")
        obtain ⟨w1, hw1, ok1, ng1, nj1⟩ : ∃ r : Rw, atI [PyData.tuple [.str "tell", .int 1], .tuple [.str "sum", .int 1, .int 2], .tuple [.str "set", .int 0, .int 99]] r3 = some (rowT r) ∧ RowOk M r ∧ isGr r = false ∧ isJ r = false := by
          obtain rfl | rfl | rfl : r3 = 0 ∨ r3 = 1 ∨ r3 = 2 := by omega
          · exact ⟨.tell 1, rfl, show 1 < 5 by decide, rfl, rfl⟩
          · exact ⟨.sum 1 2, rfl, show 1 < 5 ∧ 2 < 5 by decide, rfl, rfl⟩
          · exact ⟨.set 0 99, rfl, show 0 < 5 ∧ (0 : Int) ≤ 99 ∧ (99 : Int) < 100000000 by decide, rfl, rfl⟩
        refine ⟨_, _, _, rfl, item_vlst hw1, ?_⟩
        repeat walk_at "dp"
        refine ⟨_, _, _, rfl, rfl, by rw [List.length_map]; omega, ?_⟩
        refine ⟨_, rs ++ [w1], some (.fz (.int k)), some (.fz (.int _)), by rw [List.map_append]; rfl, by omega, by omega, by simp [hl], fun r hr' => (List.mem_append.mp hr').elim (ok r) fun h => by rw [List.mem_singleton.mp h]; exact ok1, by rw [List.filter_append]; simp [ng1]; omega, by rw [List.filter_append]; simp [nj1]; simpa using hjr⟩
  · rintro ρ ⟨m', rs, x3, x4, rfl, c0, c1, hl, ok, hgr, hjr⟩
    repeat walk_at "dp"
    (refine ⟨_, _, rfl, rfl, by omega, by first | decide | omega, by first | decide | omega, ?_⟩; intro r1 a1 b1; walk_at "dn"; repeat walk_at "dp")
    obtain ⟨c, hc, hc1, hc8⟩ : ∃ c : Nat, (1 + r1).toNat = c ∧ 1 ≤ c ∧ c ≤ 4 := ⟨_, rfl, by omega, by omega⟩
    rw [hc]
    refine l_rng0 (fun j ρ => ∃ (m' : Int) (rs : List Rw) (x3 x5 x6 : Option OD), ρ = [some (.tape p m'), some (.fz (.int M)), some (.lst (rs.map rowT)), x3, x4, x5, x6] ∧ n ≤ m' ∧ m' ≤ n + 1300 + 10 * j ∧ rs.length = M ∧ (∀ r ∈ rs, RowOk M r) ∧ (rs.filter isGr).length ≤ M / 2 ∧ (rs.filter isJ).length ≤ j ∧ (0 < j → 0 < (rs.filter isJ).length)) ⟨_, rs, x3, none, none, rfl, by omega, by omega, hl, ok, hgr, hjr, fun h => absurd h (by omega)⟩ ?_ ?_
    · clear c0 c1 hl ok hgr hjr rs m'
      rintro j ρ hj ⟨m', rs, x3, x5, x6, rfl, c0, c1, hl, ok, hgr, hjr, hjp⟩
      refine ⟨lt_rfl rfl, ?_⟩
      walk_at "dn"
      repeat walk_at "dp"
      (refine ⟨_, _, rfl, rfl, by omega, by first | decide | omega, by first | decide | omega, ?_⟩; intro r2 a2 b2; walk_at "dn"; repeat walk_at "dp")
      (refine ⟨_, _, rfl, rfl, by omega, by first | decide | omega, by first | decide | omega, ?_⟩; intro r3 a3 b3; walk_at "dn"; repeat walk_at "dp")
      obtain ⟨k, rfl⟩ : ∃ R : Nat, r2 = R := ⟨r2.toNat, by omega⟩
      obtain ⟨g, rfl⟩ : ∃ R : Nat, r3 = R := ⟨r3.toNat, by omega⟩
      walk_at "dn"
      (refine ⟨_, _, rfl, rfl, by omega, by first | decide | omega, by first | decide | omega, ?_⟩; intro r4 a4 b4; walk_at "dn"; repeat walk_at "dp")
      obtain ⟨R, rfl⟩ : ∃ R : Nat, r4 = R := ⟨r4.toNat, by omega⟩
      (refine ⟨_, _, rfl, rfl, by omega, by first | decide | omega, by first | decide | omega, ?_⟩; intro r5 a5 b5; walk_at "dn"; repeat walk_at "dp")
      obtain ⟨w1, hw1, ok1, ng1, nj1⟩ : ∃ r : Rw, atI [PyData.tuple [.str "go", .int g], .tuple [.str "nil", .int R, .int g]] r5 = some (rowT r) ∧ RowOk M r ∧ isGr r = false ∧ isJ r = true := by
        obtain rfl | rfl : r5 = 0 ∨ r5 = 1 := by omega
        · exact ⟨.go g, rfl, show g ≤ M by omega, rfl, rfl⟩
        · exact ⟨.nil R g, rfl, show R < 5 ∧ g ≤ M by omega, rfl, rfl⟩
      refine ⟨_, _, _, rfl, item_vlst hw1, ?_⟩
      repeat walk_at "dp"
      refine ⟨_, _, k, rfl, rfl, ixN_nat (by rw [List.length_map]; omega), ?_⟩
      have := set_count rs k w1 ng1
      exact ⟨_, rs.set k w1, some (.fz (.int k)), some (.fz (.int j)), some (.fz (.int g)), by rw [List.map_set]; rfl, by omega, by omega, by rw [List.length_set]; exact hl, set_ok ok ok1, by omega, by have := set_one isJ rs k w1; omega, fun _ => set_pos isJ rs k w1 nj1 (by omega)⟩
    · clear c0 c1 hl ok hgr hjr rs m'
      rintro ρ ⟨m', rs, x3, x5, x6, rfl, c0, c1, hl, ok, hgr, hjr, hjp⟩
      repeat walk_at "dp"
      refine iteD (fun h => ?_) (fun h => ?_)
      · have hM : M = 120 := by omega
        subst hM
        repeat walk_at "dp"
        refine ⟨_, _, 1, rfl, rfl, ixN_nat (k := 1) (by rw [List.length_map]; omega), ?_⟩
        repeat walk_at "dp"
        refine ⟨_, _, 118, rfl, rfl, ixN_nat (k := 118) (by rw [List.length_set, List.length_map]; omega), ?_⟩
        repeat walk_at "dp"
        have h1 := set_count rs 1 (.go 120) rfl
        have h2 := set_count (rs.set 1 (.go 120)) 118 (.nil 2 0) rfl
        refine q _ _ _ rfl ⟨(rs.set 1 (.go 120)).set 118 (.nil 2 0), by rw [List.map_set, List.map_set]; rfl, by rw [List.length_set, List.length_set]; omega, by rw [grs_count]; omega, by rw [List.length_set, List.length_set, hl]; exact set_ok (set_ok ok (show 120 ≤ 120 by decide)) (show 2 < 5 ∧ 0 ≤ 120 by decide), by have g1 := set_one isJ rs 1 (.go 120); have g2 := set_one isJ (rs.set 1 (.go 120)) 118 (.nil 2 0); omega, set_pos isJ _ 118 _ rfl (by rw [List.length_set]; omega)⟩ (by omega) (by omega)
      · repeat walk_at "dp"
        exact q _ _ _ rfl ⟨rs, rfl, by omega, by rw [grs_count]; omega, by rw [hl]; exact ok, by omega, hjp (by omega)⟩ (by omega) (by omega)
/-! ### the least long jumps -/
theorem up_ext : ∀ {a b : List Nat}, a.Pairwise (· < ·) → b.Pairwise (· < ·) → (∀ x, x ∈ a ↔ x ∈ b) → a = b
  | [], [], _, _, _ => rfl
  | [], y :: b, _, _, h => by have := (h y).mpr (by simp); cases this
  | x :: a, [], _, _, h => by have := (h x).mp (by simp); cases this
  | x :: a, y :: b, ha, hb, h => by
    obtain ⟨a1, a2⟩ := List.pairwise_cons.mp ha
    obtain ⟨b1, b2⟩ := List.pairwise_cons.mp hb
    have e : x = y := by
      rcases List.mem_cons.mp ((h x).mp (by simp)) with e | h1
      · exact e
      · rcases List.mem_cons.mp ((h y).mpr (by simp)) with e | h2
        · exact e.symm
        · have := b1 x h1; have := a1 y h2; omega
    subst e
    rw [up_ext a2 b2 fun z => ?_]
    constructor
    · intro hz
      rcases List.mem_cons.mp ((h z).mp (List.mem_cons_of_mem _ hz)) with e | h1
      · have := a1 z hz; omega
      · exact h1
    · intro hz
      rcases List.mem_cons.mp ((h z).mpr (List.mem_cons_of_mem _ hz)) with e | h1
      · have := b1 z hz; omega
      · exact h1
theorem up_sub_len {a b : List Nat} (ha : a.Pairwise (· < ·)) (hb : b.Pairwise (· < ·)) (h : ∀ x ∈ a, x ∈ b) : a.length ≤ b.length := by
  have e : a = b.filter fun x => decide (x ∈ a) := up_ext ha (hb.filter _) fun x => by
    rw [List.mem_filter]
    constructor
    · intro hx; exact ⟨h x hx, by simpa using hx⟩
    · intro hx; simpa using hx.2
  rw [e]
  exact List.length_filter_le _ _
theorem up_nodup {a : List Nat} (h : a.Pairwise (· < ·)) : a.Nodup := h.imp fun h => Nat.ne_of_lt h
theorem size_mono {rs : List Rw} {a b : List Nat} (h : ∀ i ∈ a, i ∈ b) (i : Nat) : sizeR rs a i ≤ sizeR rs b i := by
  unfold sizeR
  generalize isGr (rs.getD i .stop) = c
  by_cases h1 : i ∈ a
  · have := h i h1
    simp [h1, this]
  · cases c
    · simp only [h1, decide_false, Bool.or_false, Bool.false_or, Bool.false_eq_true, if_false, decide_eq_true_eq]; split <;> omega
    · simp
theorem plc_step (rs : List Rw) (lo : List Nat) (g : Nat) : plc rs lo [] (g + 1) = plc rs lo [] g + if g < rs.length then sizeR rs lo g else 0 := rfl
theorem plc_mono {rs : List Rw} {a b : List Nat} (h : ∀ i ∈ a, i ∈ b) (x d : Nat) : plc rs a [] (x + d) + plc rs b [] x ≤ plc rs b [] (x + d) + plc rs a [] x ∧ plc rs a [] x ≤ plc rs a [] (x + d) := by
  induction d with
  | zero => rw [Nat.add_zero]; exact ⟨by omega, by omega⟩
  | succ d ih =>
    rw [← Nat.add_assoc, plc_step, plc_step]
    have := size_mono (rs := rs) h (x + d)
    split <;> omega
theorem absI_mono {x y : Int} (h : (0 ≤ x ∧ x ≤ y) ∨ (x ≤ 0 ∧ y ≤ x)) : absI x ≤ absI y := by unfold absI; split <;> split <;> omega
theorem rowPl_nil (rs : List Rw) (lo : List Nat) (g : Nat) : rowPl rs lo [] g = plc rs lo [] g := rfl
theorem far_mono {rs : List Rw} {a b : List Nat} (h : ∀ i ∈ a, i ∈ b) (i : Nat) : farOf rs a [] i ≤ farOf rs b [] i := by
  unfold farOf
  refine absI_mono ?_
  simp only [rowPl_nil]
  generalize goalOf (rs.getD i .stop) = g
  rcases Nat.le_total g i with hg | hg
  · obtain ⟨d, rfl⟩ := Nat.exists_eq_add_of_le hg
    obtain ⟨h1, h2⟩ := plc_mono (rs := rs) h g d
    exact .inr ⟨by omega, by omega⟩
  · obtain ⟨d, rfl⟩ := Nat.exists_eq_add_of_le hg
    obtain ⟨h1, h2⟩ := plc_mono (rs := rs) h i d
    exact .inl ⟨by omega, by omega⟩
theorem farth_mono (r : Rw) {a b : Int} (h : a ≤ b) : farth r a ≤ farth r b := by
  unfold farth
  cases r <;> dsimp only <;> first | exact h | (split <;> split <;> omega)
theorem tooS_mem {rs : List Rw} {lo : List Nat} {ps : List Pool} {hop : Int} {i : Nat} : i ∈ tooS rs lo ps hop rs.length ↔ i ∈ ixOf isJ rs rs.length ∧ i ∉ lo ∧ farth (rs.getD i .stop) hop < farOf rs lo ps i := by
  unfold tooS isShort
  rw [List.mem_filter]
  simp
theorem tooS_up (rs : List Rw) (lo : List Nat) (ps : List Pool) (hop : Int) (k : Nat) : (tooS rs lo ps hop k).Pairwise (· < ·) := (ixOf_up _ _ _).filter _
def Good (rs : List Rw) (hop : Int) (S : List Nat) : Prop := tooS rs S [] hop rs.length = []
theorem good_iff {rs : List Rw} {hop : Int} {S : List Nat} : Good rs hop S ↔ ∀ i ∈ ixOf isJ rs rs.length, i ∉ S → farOf rs S [] i ≤ farth (rs.getD i .stop) hop := by
  unfold Good
  rw [List.eq_nil_iff_forall_not_mem]
  constructor
  · intro h i h1 h2
    have := h i
    rw [tooS_mem] at this
    have : ¬ farth (rs.getD i .stop) hop < farOf rs S [] i := fun h3 => this ⟨h1, h2, h3⟩
    omega
  · intro h i h1
    obtain ⟨h2, h3, h4⟩ := tooS_mem.mp h1
    have := h i h2 h3
    omega
open Classical in
noncomputable def leastL (rs : List Rw) (hop : Int) : List Nat := (ixOf isJ rs rs.length).filter fun i => decide (∀ S, Good rs hop S → i ∈ S)
theorem leastL_up (rs : List Rw) (hop : Int) : (leastL rs hop).Pairwise (· < ·) := (ixOf_up _ _ _).filter _
theorem leastL_mem {rs : List Rw} {hop : Int} {i : Nat} : i ∈ leastL rs hop ↔ i ∈ ixOf isJ rs rs.length ∧ ∀ S, Good rs hop S → i ∈ S := by
  unfold leastL
  rw [List.mem_filter]
  simp
structure Und (rs : List Rw) (hop : Int) (L : List Nat) : Prop where
  up : L.Pairwise (· < ·)
  sub : ∀ i ∈ L, i ∈ leastL rs hop
theorem Und.short {rs : List Rw} {hop : Int} {L : List Nat} (h : Und rs hop L) : ∀ i ∈ tooS rs L [] hop rs.length, i ∈ leastL rs hop ∧ i ∉ L := fun i hi => by
  obtain ⟨h1, h2, h3⟩ := tooS_mem.mp hi
  refine ⟨leastL_mem.mpr ⟨h1, fun S hS => ?_⟩, h2⟩
  by_cases h4 : i ∈ S
  · exact h4
  · have := good_iff.mp hS i h1 h4
    have := far_mono (rs := rs) (a := L) (b := S) (fun j hj => (leastL_mem.mp (h.sub j hj)).2 S hS) i
    omega
theorem Und.step {rs : List Rw} {hop : Int} {L L' : List Nat} (h : Und rs hop L) (up : L'.Pairwise (· < ·)) (pm : L'.Perm (L ++ tooS rs L [] hop rs.length)) : Und rs hop L' :=
  ⟨up, fun i hi => (List.mem_append.mp (pm.mem_iff.mp hi)).elim (h.sub i) fun hi => (h.short i hi).1⟩
theorem Und.app {rs : List Rw} {hop : Int} {L : List Nat} (h : Und rs hop L) : (L ++ tooS rs L [] hop rs.length).Nodup :=
  List.nodup_append.mpr ⟨up_nodup h.up, up_nodup (tooS_up _ _ _ _ _), fun a ha b hb e => (h.short b hb).2 (e ▸ ha)⟩
theorem Und.perm {rs : List Rw} {hop : Int} {L : List Nat} (hL : Und rs hop L) : ((ixOf isJ rs rs.length).filter fun i => decide (i ∈ L ++ tooS rs L [] hop rs.length)).Perm (L ++ tooS rs L [] hop rs.length) := by
  refine (List.perm_ext_iff_of_nodup (up_nodup ((ixOf_up _ _ _).filter _)) hL.app).mpr fun x => ?_
  rw [List.mem_filter]
  constructor
  · intro h; simpa using h.2
  · intro h
    refine ⟨?_, by simpa using h⟩
    rcases List.mem_append.mp h with h | h
    · exact (leastL_mem.mp (hL.sub x h)).1
    · exact (tooS_mem.mp h).1
theorem Und.applen {rs : List Rw} {hop : Int} {L : List Nat} (hL : Und rs hop L) : (L ++ tooS rs L [] hop rs.length).length ≤ (ixOf isJ rs rs.length).length := by
  rw [← hL.perm.length_eq]
  exact List.length_filter_le _ _
theorem Und.len {rs : List Rw} {hop : Int} {L : List Nat} (h : Und rs hop L) : L.length ≤ (ixOf isJ rs rs.length).length := up_sub_len h.up (ixOf_up _ _ _) fun i hi => (leastL_mem.mp (h.sub i hi)).1
theorem Und.fin {rs : List Rw} {hop : Int} {L : List Nat} (h : Und rs hop L) (e : tooS rs L [] hop rs.length = []) : L = leastL rs hop :=
  up_ext h.up (leastL_up _ _) fun i => ⟨h.sub i, fun hi => (leastL_mem.mp hi).2 L e⟩
theorem least_good (rs : List Rw) (hop : Int) : Good rs hop (leastL rs hop) := by
  have key : ∀ (m : Nat) (L : List Nat), Und rs hop L → (ixOf isJ rs rs.length).length - L.length ≤ m → Good rs hop (leastL rs hop) := by
    intro m
    induction m with
    | zero =>
      intro L hL hm
      have hl := hL.len
      cases e : tooS rs L [] hop rs.length with
      | nil => rw [← hL.fin e]; exact e
      | cons a l =>
        exfalso
        have hu : Und rs hop ((ixOf isJ rs rs.length).filter fun i => decide (i ∈ L ++ tooS rs L [] hop rs.length)) := ⟨(ixOf_up _ _ _).filter _, fun i hi => by
          have := (List.mem_filter.mp hi).2
          simp only [List.mem_append, decide_eq_true_eq] at this
          exact this.elim (hL.sub i) fun h => (hL.short i h).1⟩
        have ha := hL.short a (by rw [e]; simp)
        have : (a :: L).length ≤ (ixOf isJ rs rs.length).length := by
          have h1 : ((ixOf isJ rs rs.length).filter fun i => decide (i ∈ a :: L)).Perm (a :: L) := by
            refine (List.perm_ext_iff_of_nodup (up_nodup ((ixOf_up _ _ _).filter _)) (List.nodup_cons.mpr ⟨ha.2, up_nodup hL.up⟩)).mpr fun x => ?_
            rw [List.mem_filter]
            constructor
            · intro h; simpa using h.2
            · intro h
              refine ⟨?_, by simpa using h⟩
              rcases List.mem_cons.mp h with rfl | h
              · exact (leastL_mem.mp ha.1).1
              · exact (leastL_mem.mp (hL.sub x h)).1
          rw [← h1.length_eq]
          exact List.length_filter_le _ _
        rw [List.length_cons] at this
        omega
    | succ m ih =>
      intro L hL hm
      cases e : tooS rs L [] hop rs.length with
      | nil => rw [← hL.fin e]; exact e
      | cons a l =>
        have hu : Und rs hop ((ixOf isJ rs rs.length).filter fun i => decide (i ∈ L ++ tooS rs L [] hop rs.length)) := ⟨(ixOf_up _ _ _).filter _, fun i hi => by
          have := (List.mem_filter.mp hi).2
          simp only [List.mem_append, decide_eq_true_eq] at this
          exact this.elim (hL.sub i) fun h => (hL.short i h).1⟩
        have pm : ((ixOf isJ rs rs.length).filter fun i => decide (i ∈ L ++ tooS rs L [] hop rs.length)).Perm (L ++ tooS rs L [] hop rs.length) := by
          refine (List.perm_ext_iff_of_nodup (up_nodup ((ixOf_up _ _ _).filter _)) hL.app).mpr fun x => ?_
          rw [List.mem_filter]
          constructor
          · intro h; simpa using h.2
          · intro h
            refine ⟨?_, by simpa using h⟩
            rcases List.mem_append.mp h with h | h
            · exact (leastL_mem.mp (hL.sub x h)).1
            · exact (tooS_mem.mp h).1
        refine ih _ hu ?_
        rw [pm.length_eq, List.length_append, e, List.length_cons]
        omega
  exact key _ [] ⟨.nil, by simp⟩ (Nat.le_refl _)
theorem least_wider {rs : List Rw} {a b : Int} (h : a ≤ b) : ∀ i ∈ leastL rs b, i ∈ leastL rs a := fun i hi => by
  refine (leastL_mem.mp hi).2 _ (good_iff.mpr fun j h1 h2 => ?_)
  have := good_iff.mp (least_good rs a) j h1 h2
  have := farth_mono (rs.getD j .stop) h
  omega
theorem jcount (rs : List Rw) : (ixOf isJ rs rs.length).length = (rs.filter isJ).length := by
  have : ∀ k, k ≤ rs.length → (ixOf isJ rs k).length = ((rs.take k).filter isJ).length := by
    intro k
    induction k with
    | zero => intro _; rfl
    | succ k ih =>
      intro hk
      rw [ixOf_succ, filt_take isJ rs k (rs.getD k .stop) (get_of (by omega)), List.length_append, List.length_append, ih (by omega)]
      cases isJ (rs.getD k .stop) <;> rfl
  rw [this _ (Nat.le_refl _), List.take_length]
theorem D_least_longs (T : Txt K mg t) : FnD P w K mg base 6 t.f_least_longs t.d_least_longs ["rows", "hop"] (mkP (fun (a : List Rw × Int) => [rowsD a.1, .int a.2]) (fun a => a.1.length ≤ 1000 ∧ (∀ r ∈ a.1, RowOk a.1.length r) ∧ (ixOf isJ a.1 a.1.length).length ≤ 60) fun a => .fz (intsD (leastL a.1 a.2))) := by
  have G_too_short := D_too_short (P := P) (w := w) (base := base) T
  refine T.F_least_longs.okP sc_least_longs (fun _ => rfl) fun cdv A outer s H E hr ⟨rs, hop⟩ ⟨hrs, hok, hj⟩ Q q => ?_
  dsimp only at hrs hok hj q ⊢
  refine ⟨_, (pdss_cons (pds_set (i := 2) sc_least_longs.nd rfl (Or.inl rfl) (by rfl) (by first | exact Or.inl rfl | exact Or.inr rfl | assumption) (pd_lst hOwn pda_nil))
      (pdss_cons (pds_set (i := 3) sc_least_longs.nd rfl (Or.inl rfl) (by rfl) (by first | exact Or.inl rfl | exact Or.inr rfl | assumption) (pd_call G_too_short (hr.mono (by first | decide | omega)) rfl T.m_too_short T.F_too_short.kp T.b_too_short (by decide) (by rfl) (by rfl) (pda_cons (by rfl) (pdv 0) (pda_cons (by rfl) (pdv 2) (pda_cons (by rfl) (pd_lst hOwn pda_nil) (pda_cons (by rfl) (pdv 1) pda_nil))))))
      (pdss_cons (pds_while PassesOwn.never (pdt_tru (by intro _; rfl) (pdv 3))
        (pdss_cons (pds_set (i := 2) sc_least_longs.nd rfl (Or.inl rfl) (by rfl) (by first | exact Or.inl rfl | exact Or.inr rfl | assumption) (pd_sorted rfl T.m_sorted bt_sorted (by decide) (by decide) (by rfl) (by rfl) (pda_cons (by rfl) (pd_cat (pdv 2) (pdv 3)) pda_nil)))
      (pdss_one (pds_set (i := 3) sc_least_longs.nd rfl (Or.inl rfl) (by rfl) (by first | exact Or.inl rfl | exact Or.inr rfl | assumption) (pd_call G_too_short (hr.mono (by first | decide | omega)) rfl T.m_too_short T.F_too_short.kp T.b_too_short (by decide) (by rfl) (by rfl) (pda_cons (by rfl) (pdv 0) (pda_cons (by rfl) (pdv 2) (pda_cons (by rfl) (pd_lst hOwn pda_nil) (pda_cons (by rfl) (pdv 1) pda_nil)))))))))
      (pdss_one (pds_ret (pdv 2)))))), ?_⟩
  repeat walk_at "dp"
  refine ⟨(rs, [], [], hop), rfl, rfl, ⟨.nil, hrs, by simp, hok⟩, ?_⟩
  repeat walk_at "dp"
  walk_at "dn"
  refine ⟨fun m ρ => ∃ L : List Nat, m = (ixOf isJ rs rs.length).length - L.length ∧ Und rs hop L ∧ ρ = [some (.fz (rowsD rs)), some (.fz (.int hop)), some (.fz (intsD L)), some (.lst (natsD (tooS rs L [] hop rs.length)))], ⟨_, [], rfl, ⟨.nil, by simp⟩, rfl⟩, ?_⟩
  rintro m ρ ⟨L, rfl, hL, rfl⟩
  repeat walk_at "dp"
  cases e : tooS rs L [] hop rs.length with
  | nil =>
    have hf := hL.fin e
    subst hf
    repeat walk_at "dp"
    exact q
  | cons a l =>
    refine iteBT rfl ?_
    rw [← e]
    have happ := hL.app
    refine ⟨fun ρ => ∃ L' : List Nat, L'.length = L.length + (tooS rs L [] hop rs.length).length ∧ Und rs hop L' ∧ ρ = [some (.fz (rowsD rs)), some (.fz (.int hop)), some (.fz (intsD L')), some (.lst (natsD (tooS rs L' [] hop rs.length)))], ?_, ?_⟩
    · rintro ρ ⟨L', hl, hu, rfl⟩
      have := hu.len
      exact ⟨_, by rw [hl, e, List.length_cons] at *; omega, L', rfl, hu, rfl⟩
    repeat walk_at "dp"
    have hal := hL.applen
    refine ⟨_, _, rfl, rfl, by rw [List.length_append] at hal; simp only [List.length_map, natsD_len]; omega, ?_⟩
    repeat walk_at "dp"
    rw [show List.map (fun (n : Nat) => PyData.int n) L ++ natsD (tooS rs L [] hop rs.length) = natsD (L ++ tooS rs L [] hop rs.length) by simp [natsD]]
    refine ⟨_, _, rfl, by rw [natsD_ints]; exact intsOf_map _, by rw [List.length_map]; omega, ?_⟩
    intro ns' pm pw
    obtain ⟨L', rfl, pg, gup⟩ := sorted_nats happ pm pw
    rw [← natsD_ints]
    repeat walk_at "dp"
    refine ⟨(rs, L', [], hop), rfl, rfl, ⟨.nil, hrs, by simp, hok⟩, ?_⟩
    repeat walk_at "dp"
    exact ⟨L', by rw [pg.length_eq, List.length_append], hL.step gup pg, rfl⟩
def subsTo (J : List Nat) : Nat → List (List Nat)
  | 0 => [[]]
  | k + 1 => subsTo J k ++ (subsTo J k).map fun s => s ++ [J.getD k 0]
def natsL (s : List Nat) : PyData := .list (natsD s)
theorem subsTo_len (J : List Nat) (k : Nat) : (subsTo J k).length = 2 ^ k := by
  induction k with
  | zero => rfl
  | succ k ih => rw [subsTo, List.length_append, List.length_map, ih, Nat.pow_succ]; omega
theorem subsTo_mem (J : List Nat) : ∀ (k : Nat) (S : List Nat), k ≤ J.length → S.Sublist (J.take k) → S ∈ subsTo J k := by
  intro k
  induction k with
  | zero => intro S _ h; rw [List.take_zero] at h; rw [List.sublist_nil.mp h]; simp [subsTo]
  | succ k ih =>
    intro S hk h
    have e : J.take (k + 1) = J.take k ++ [J.getD k 0] := by
      rw [List.take_succ, List.getD_eq_getElem?_getD, List.getElem?_eq_getElem (by omega)]; rfl
    rw [e] at h
    obtain ⟨S1, S2, rfl, h1, h2⟩ := List.sublist_append_iff.mp h
    have i1 := ih S1 (by omega) h1
    rw [subsTo, List.mem_append]
    cases h2 with
    | cons _ h2 => rw [List.sublist_nil.mp h2, List.append_nil]; exact .inl i1
    | cons_cons _ h2 => rw [List.sublist_nil.mp h2]; exact .inr (List.mem_map.mpr ⟨S1, i1, rfl⟩)
theorem subsTo_each (J : List Nat) (k : Nat) : ∀ S ∈ subsTo J k, S.length ≤ k := by
  induction k with
  | zero => intro S h; simp [subsTo] at h; simp [h]
  | succ k ih =>
    intro S h
    rw [subsTo, List.mem_append] at h
    rcases h with h | h
    · have := ih S h; omega
    · obtain ⟨S1, h1, rfl⟩ := List.mem_map.mp h
      have := ih S1 h1
      rw [List.length_append, List.length_singleton]; omega
open Classical in
noncomputable def comTo (rs : List Rw) (hop : Int) (ss : List (List Nat)) : List Nat := (ixOf isJ rs rs.length).filter fun i => decide (∀ S ∈ ss, Good rs hop S → i ∈ S)
theorem comTo_nil (rs : List Rw) (hop : Int) : comTo rs hop [] = ixOf isJ rs rs.length := by
  unfold comTo
  rw [List.filter_eq_self]
  intro a _
  simp
open Classical in
theorem comTo_snoc (rs : List Rw) (hop : Int) (ss : List (List Nat)) (S : List Nat) : comTo rs hop (ss ++ [S]) = (comTo rs hop ss).filter fun i => decide (Good rs hop S → i ∈ S) := by
  unfold comTo
  rw [List.filter_filter]
  congr 1
  funext i
  rw [← Bool.decide_and, decide_eq_decide]
  simp only [List.mem_append, List.mem_singleton]
  constructor
  · intro h; exact ⟨h S (.inr rfl), fun S' h' => h S' (.inl h')⟩
  · rintro ⟨h1, h2⟩ S' (h' | rfl)
    · exact h2 S' h'
    · exact h1
theorem comTo_all (rs : List Rw) (hop : Int) : comTo rs hop (subsTo (ixOf isJ rs rs.length) (ixOf isJ rs rs.length).length) = leastL rs hop := by
  refine up_ext ((ixOf_up _ _ _).filter _) (leastL_up _ _) fun i => ?_
  rw [leastL_mem]
  unfold comTo
  rw [List.mem_filter]
  simp only [decide_eq_true_eq]
  refine ⟨fun ⟨h1, h2⟩ => ⟨h1, fun S hS => ?_⟩, fun ⟨h1, h2⟩ => ⟨h1, fun S _ hS => h2 S hS⟩⟩
  have hm := subsTo_mem (ixOf isJ rs rs.length) _ (leastL rs hop) (Nat.le_refl _) (by rw [List.take_length]; exact List.filter_sublist)
  exact (leastL_mem.mp (h2 _ hm (least_good rs hop))).2 S hS
theorem allB_map {α : Type} (f : α → Bool) (l : List α) : allB (l.map fun a => PyData.bool (f a)) = some (l.map f) := by
  induction l with
  | nil => rfl
  | cons a l ih => rw [List.map_cons, List.map_cons, allB, ih]; rfl
theorem D_l_common (T : Txt K mg t) : FnD P w K mg base 5 t.f_common t.d_common ["_law_rows_here", "_law_hop"] (mkP (fun (a : List Rw × Int) => [rowsD a.1, .int a.2]) (fun a => a.1.length ≤ 1000 ∧ (∀ r ∈ a.1, RowOk a.1.length r) ∧ (ixOf isJ a.1 a.1.length).length ≤ 6 ∧ 0 < (ixOf isJ a.1 a.1.length).length) fun a => .fz (intsD (leastL a.1 a.2))) := by
  have G_l_too_short := D_l_too_short (P := P) (w := w) (base := base) T
  refine T.F_common.okP sc_common (fun _ => rfl) fun cdv A outer s H E hr ⟨rs, hop⟩ ⟨hrs, hok, hj, hj0⟩ Q q => ?_
  have hu := hr.units
  dsimp only at hrs hok hj hj0 q ⊢
  refine ⟨_, (pdss_cons (pds_setC (i := 2) sc_common.nd rfl rfl rfl sn_common_0.sc (by intro _; rfl) (by rfl) (pdi_enum rfl T.m_enumerate (by rfl) (pda_cons (by rfl) (pdv 0) pda_nil)) (fun _ => (pdg_tup (n := 2) rfl (by rfl) (by rfl) (pdgs_cons (by rfl) (pdg_name (m := 2) (i := 0) sn_common_0.nd rfl (Or.inl rfl) (by decide)) (pdgs_cons (by rfl) (pdg_name (m := 2) (i := 1) sn_common_0.nd rfl (Or.inl rfl) (by decide)) pdgs_nil)))) (fun _ => (pdc_test (pdt_cmp op_in_seq sr_in (by with_unfolding_all rfl) (pd_ix (fun _ _ => rfl) (pdv 1) pd_int) (pd_tup hOwn (pda_cons (by rfl) pd_str (pda_cons (by rfl) pd_str pda_nil)))) (pdv 0))))
      (pdss_cons (pds_par (i := 3) (j := 4) rfl sc_common.nd rfl rfl (by decide) rfl rfl rfl (by rfl) (pda_cons (by rfl) (pd_listOf rfl T.m_list bt_list (by decide) (by decide) (by rfl) (by rfl) (pda_cons (by rfl) (pdv 2) pda_nil)) (pda_cons (by rfl) (pd_lst hOwn (pda_cons (by rfl) (pd_lst hOwn pda_nil) pda_nil)) pda_nil)))
      (pdss_cons (pds_for PassesOwn.never rfl (by intro _; rfl) (pdi_list (pdv 2)) (pdg_name (m := 7) (i := 5) sc_common.nd rfl (Or.inr rfl) (by decide))
        (pdss_one (pds_set (i := 4) sc_common.nd rfl (Or.inl rfl) (by rfl) (by first | exact Or.inl rfl | exact Or.inr rfl | assumption) (pd_cat (pdv 4) (pd_comp rfl sn_common_1.sc (by intro _; rfl) (pdi_list (pdv 4)) (fun _ => (pdg_name (m := 1) (i := 0) sn_common_1.nd rfl (Or.inl rfl) (by decide))) (fun _ => (pdc_plain (pd_cat (pdv 0) (pd_lst hOwn (pda_cons (by rfl) (pdv 1) pda_nil))))))))))
      (pdss_cons (pds_for PassesOwn.never rfl (by intro _; rfl) (pdi_list (pdv 4)) (pdg_name (m := 7) (i := 6) sc_common.nd rfl (Or.inr rfl) (by decide))
        (pdss_one (pds_if (PDw.pt (pdw_and (pdt_val (by intro _; rfl) (pd_callb (call_any rfl) sc_any rfl T.m_any bt_any (by decide) (by decide) (by rfl) (by rfl) (pda_cons (by rfl) (pd_comp rfl sn_common_2.sc (by intro _; rfl) (pdi_list (pdv 3)) (fun _ => (pdg_name (m := 1) (i := 0) sn_common_2.nd rfl (Or.inl rfl) (by decide))) (fun _ => (pdc_plain (pd_cmp op_notIn_seq sr_in (by with_unfolding_all rfl) (pdv 0) (pdv 1))))) pda_nil))) (pdw_and1 (pdt_cmp (op_eqD hu) sr_eqD (nomark _) (pd_call G_l_too_short (hr.mono (by first | decide | omega)) rfl T.m_l_too_short T.F_l_too_short.kp T.b_l_too_short (by decide) (by rfl) (by rfl) (pda_cons (by rfl) (pdv 0) (pda_cons (by rfl) (pdv 6) (pda_cons (by rfl) (pd_lst hOwn pda_nil) (pda_cons (by rfl) (pdv 1) pda_nil))))) (pd_lst hOwn pda_nil)))))
        (pdss_one (pds_setCF (i := 3) sc_common.nd rfl rfl rfl sn_common_3.sc (by intro _; rfl) (by rfl) (pdi_list (pdv 3)) (fun _ => (pdg_name (m := 1) (i := 0) sn_common_3.nd rfl (Or.inl rfl) (by decide))) (fun _ => (pdc_test (pdt_cmp op_in_seq sr_in (by with_unfolding_all rfl) (pdv 0) (pdv 1)) (pdv 0)))))
        pdss_nil)))
      (pdss_one (pds_ret (pdv 3))))))), ?_⟩
  repeat walk_at "dp"
  refine' c_enum (f := rowT) (xs := rs) (fun k out ρ => out = natsD (ixOf isJ rs k) ∧ ∃ x y, ρ = [x, y]) ?hn ?hc ?h0 ?hs ?hf
  case hn => omega
  case hc => walk_at "ev"
  case h0 => exact ⟨rfl, none, none, rfl⟩
  case hs =>
    rintro k r out ρ hk ⟨rfl, x, y, rfl⟩
    have eg : rs.getD k .stop = r := getD_of hk
    rw [ixOf_succ, eg]
    cases r <;> (repeat walk_at "dp") <;> exact ⟨by simp [natsD, isJ], _, _, rfl⟩
  case hf =>
    rintro out ρ ⟨rfl, x, y, rfl⟩
    walk_at "dn"
    repeat walk_at "dp"
    walk_at "dn"
    have J2 : (2 : Nat) ^ (ixOf isJ rs rs.length).length ≤ 2 ^ 6 := Nat.pow_le_pow_right (by decide) hj
    have hcomp : ∀ (k : Nat) (out : List PyData), True := fun _ _ => trivial
    refine l_map (f := fun (n : Nat) => PyData.int n) (xs := ixOf isJ rs rs.length) (fun k ρ => ∃ (y4 : OD) (x5 : Option OD), ρ = [some (.fz (rowsD rs)), some (.fz (.int hop)), some (.fz (.list (natsD (ixOf isJ rs rs.length)))), some (.lst (natsD (ixOf isJ rs rs.length))), some y4, x5, none] ∧ ((k = 0 ∧ y4 = .lsc [.lst []]) ∨ y4 = .lst ((subsTo (ixOf isJ rs rs.length) k).map natsL))) ⟨_, none, rfl, .inl ⟨rfl, rfl⟩⟩ ?_ ?_
    · rintro k i ρ hk ⟨y4, x5, rfl, hy⟩
      have hkl : k < (ixOf isJ rs rs.length).length := (List.getElem?_eq_some_iff.mp hk).1
      have eg : (ixOf isJ rs rs.length).getD k 0 = i := by rw [List.getD_eq_getElem?_getD, hk]; rfl
      have eg' : (ixOf isJ rs rs.length)[k]?.getD 0 = i := by rw [hk]; rfl
      have hpw : (2 : Nat) ^ k ≤ 2 ^ 6 := Nat.pow_le_pow_right (by decide) (by omega)
      rcases hy with ⟨rfl, rfl⟩ | rfl
      · repeat walk_at "dg"
        walk_at "dn"
        repeat walk_at "dp"
        refine ⟨by decide, _, _, by walk_at "ev", fun j out ρ => out = (([[]] : List (List Nat)).take j).map (fun s => natsL (s ++ [i])) ∧ ∃ x, ρ = [x, some (.fz (.int i))], ⟨rfl, none, rfl⟩, ?_, ?_⟩
        · rintro j d out ρ hj ⟨rfl, x, rfl⟩
          have hj0 : j = 0 := by have := (List.getElem?_eq_some_iff.mp hj).1; simp at this; exact this
          subst hj0
          cases hj
          repeat walk_at "dp"
          exact ⟨rfl, _, rfl⟩
        · rintro out ρ ⟨rfl, x, rfl⟩
          walk_at "dn"
          refine ⟨_, _, rfl, rfl, by simp, ?_⟩
          repeat walk_at "dp"
          exact ⟨_, _, rfl, .inr (by simp [subsTo, eg', natsL, natsD, CD.dat])⟩
      · repeat walk_at "dg"
        walk_at "dn"
        repeat walk_at "dp"
        refine' c_map (f := natsL) (xs := subsTo (ixOf isJ rs rs.length) k) (fun j out ρ => out = ((subsTo (ixOf isJ rs rs.length) k).take j).map (fun s => natsL (s ++ [i])) ∧ ∃ x, ρ = [x, some (.fz (.int i))]) ?hn ?hc ?h0 ?hs ?hf
        case hn => rw [subsTo_len]; omega
        case hc => walk_at "ev"
        case h0 => exact ⟨rfl, none, rfl⟩
        case hs =>
          rintro j S out ρ hj ⟨rfl, x, rfl⟩
          have hS := subsTo_each _ k S (List.mem_of_getElem? hj)
          unfold natsL
          repeat walk_at "dp"
          refine ⟨_, _, rfl, rfl, by rw [natsD_len]; simp; omega, ?_⟩
          repeat walk_at "dp"
          refine ⟨?_, _, rfl⟩
          rw [List.take_succ, hj, List.map_append]
          simp [natsD]
        case hf =>
          rintro out ρ ⟨rfl, x, rfl⟩
          rw [List.take_length]
          walk_at "dn"
          repeat walk_at "dp"
          refine ⟨_, _, rfl, rfl, by simp only [List.length_map, subsTo_len]; omega, ?_⟩
          repeat walk_at "dp"
          exact ⟨_, _, rfl, .inr (by simp [subsTo, eg', natsL])⟩
    · rintro ρ ⟨y4, x5, rfl, hy⟩
      have hy : y4 = .lst ((subsTo (ixOf isJ rs rs.length) (ixOf isJ rs rs.length).length).map natsL) := by
        rcases hy with ⟨h, _⟩ | h
        · omega
        · exact h
      subst hy
      generalize hss : subsTo (ixOf isJ rs rs.length) (ixOf isJ rs rs.length).length = ss
      have hall := comTo_all rs hop
      rw [hss] at hall
      have hsl : ss.length ≤ 64 := by rw [← hss, subsTo_len]; omega
      have hse : ∀ S ∈ ss, S.length ≤ 6 := fun S h => by rw [← hss] at h; have := subsTo_each _ _ S h; omega
      repeat walk_at "dp"
      walk_at "dn"
      refine l_map (f := natsL) (xs := ss) (fun k ρ => ∃ (y3 : OD) (x5 x6 : Option OD), ρ = [some (.fz (rowsD rs)), some (.fz (.int hop)), some (.fz (.list (natsD (ixOf isJ rs rs.length)))), some y3, some (.fz (.list (ss.map natsL))), x5, x6] ∧ ((k = 0 ∧ y3 = .lst (natsD (comTo rs hop (ss.take k)))) ∨ y3 = .fz (.list (natsD (comTo rs hop (ss.take k)))))) ⟨_, _, _, rfl, .inl ⟨rfl, by rw [List.take_zero, comTo_nil]⟩⟩ ?_ ?_
      · rintro k S ρ hk ⟨y3, x5, x6, rfl, hy⟩
        have et : ss.take (k + 1) = ss.take k ++ [S] := by rw [List.take_succ, hk]; rfl
        have hcl : (comTo rs hop (ss.take k)).length ≤ rs.length := Nat.le_trans (List.length_filter_le _ _) (ixOf_le _ _ _)
        have hfilt : Good rs hop S → comTo rs hop (ss.take (k + 1)) = (comTo rs hop (ss.take k)).filter fun i => decide (i ∈ S) := fun g => by
          rw [et, comTo_snoc]
          congr 1
          funext i
          rw [decide_eq_decide]
          exact ⟨fun h => h g, fun h _ => h⟩
        have hsame : (∀ i ∈ comTo rs hop (ss.take k), Good rs hop S → i ∈ S) → comTo rs hop (ss.take (k + 1)) = comTo rs hop (ss.take k) := fun h => by
          rw [et, comTo_snoc]
          refine List.filter_eq_self.mpr fun i hi => ?_
          classical exact decide_eq_true (h i hi)
        generalize comTo rs hop (ss.take (k + 1)) = cm' at hfilt hsame ⊢
        generalize comTo rs hop (ss.take k) = cm at hy hcl hfilt hsame ⊢
        repeat walk_at "dg"
        walk_at "dn"
        rcases hy with ⟨_, rfl⟩ | rfl
        · repeat walk_at "dp"
          refine' c_map (f := fun (n : Nat) => PyData.int n) (xs := cm) (fun j out ρ => out = (cm.take j).map (fun i => PyData.bool (decide (i ∉ S))) ∧ ∃ x, ρ = [x, some (.fz (natsL S))]) ?hn ?hc ?h0 ?hs ?hf
          case hn => omega
          case hc => walk_at "ev"
          case h0 => exact ⟨rfl, none, rfl⟩
          case hs =>
            rintro j i out ρ hj ⟨rfl, x, rfl⟩
            repeat walk_at "dp"
            refine k_inL rfl (memD_nats i S) ?_
            repeat walk_at "dp"
            refine ⟨?_, _, rfl⟩
            rw [List.take_succ, hj, List.map_append]
            simp
          case hf =>
            rintro out ρ ⟨rfl, x, rfl⟩
            rw [List.take_length]
            walk_at "dn"
            repeat walk_at "dp"
            refine k_any (allB_map (fun i => decide (i ∉ S)) cm) ?_
            repeat walk_at "dp"
            refine iteB (fun h => ?_) (fun h => ?_)
            · repeat walk_at "dp"
              refine ⟨(rs, S, [], hop), rfl, rfl, ⟨.nil, hrs, by simp, hok⟩, ?_⟩
              repeat walk_at "dp"
              refine k_eqNil (pl_nats 0 _) (by decide) ?_
              repeat walk_at "dp"
              refine iteB (fun h2 => ?_) (fun h2 => ?_)
              · have hg : Good rs hop S := by
                  have : natsD (tooS rs S [] hop rs.length) = [] := List.isEmpty_iff.mp h2
                  exact List.map_eq_nil_iff.mp this
                rw [hfilt hg]
                repeat walk_at "dp"
                refine' c_map (f := fun (n : Nat) => PyData.int n) (xs := cm) (fun j out ρ => out = natsD ((cm.take j).filter fun i => decide (i ∈ S)) ∧ ∃ x, ρ = [x, some (.fz (natsL S))]) ?hn ?hc ?h0 ?hs ?hf
                case hn => omega
                case hc => walk_at "ev"
                case h0 => exact ⟨rfl, none, rfl⟩
                case hs =>
                  rintro j i out ρ hj ⟨rfl, x, rfl⟩
                  rw [natsD_filt _ _ _ _ hj]
                  repeat walk_at "dp"
                  refine k_inL rfl (memD_nats i S) ?_
                  repeat walk_at "dp"
                  refine iteB (fun h => ?_) (fun h => ?_)
                  · have h' : decide (i ∈ S) = true := h
                    repeat walk_at "dp"
                    exact ⟨by rw [h']; rfl, _, rfl⟩
                  · have h' : decide (i ∈ S) = false := h
                    repeat walk_at "dp"
                    exact ⟨by rw [h']; rfl, _, rfl⟩
                case hf =>
                  rintro out ρ ⟨rfl, x, rfl⟩
                  rw [List.take_length]
                  walk_at "dn"
                  repeat walk_at "dp"
                  exact ⟨_, _, _, rfl, .inr rfl⟩
              · have hg : ¬ Good rs hop S := fun g => by
                  have : natsD (tooS rs S [] hop rs.length) = [] := by rw [show tooS rs S [] hop rs.length = [] from g]; rfl
                  rw [show natsD (tooS (rs, S, [], hop).fst (rs, S, [], hop).snd.fst (rs, S, [], hop).snd.snd.fst (rs, S, [], hop).snd.snd.snd (rs, S, [], hop).fst.length) = [] from this] at h2
                  cases h2
                rw [hsame fun i _ g => absurd g hg]
                repeat walk_at "dp"
                exact ⟨_, _, _, rfl, .inr rfl⟩
            · have hall : ∀ i ∈ cm, i ∈ S := fun i hi => by
                have := List.any_eq_false.mp h (decide (i ∉ S)) (List.mem_map_of_mem hi)
                simpa using this
              repeat walk_at "dp"
              rw [hsame fun i hi _ => hall i hi]
              exact ⟨_, _, _, rfl, .inr rfl⟩
        · repeat walk_at "dp"
          refine' c_map (f := fun (n : Nat) => PyData.int n) (xs := cm) (fun j out ρ => out = (cm.take j).map (fun i => PyData.bool (decide (i ∉ S))) ∧ ∃ x, ρ = [x, some (.fz (natsL S))]) ?hn ?hc ?h0 ?hs ?hf
          case hn => omega
          case hc => walk_at "ev"
          case h0 => exact ⟨rfl, none, rfl⟩
          case hs =>
            rintro j i out ρ hj ⟨rfl, x, rfl⟩
            repeat walk_at "dp"
            refine k_inL rfl (memD_nats i S) ?_
            repeat walk_at "dp"
            refine ⟨?_, _, rfl⟩
            rw [List.take_succ, hj, List.map_append]
            simp
          case hf =>
            rintro out ρ ⟨rfl, x, rfl⟩
            rw [List.take_length]
            walk_at "dn"
            repeat walk_at "dp"
            refine k_any (allB_map (fun i => decide (i ∉ S)) cm) ?_
            repeat walk_at "dp"
            refine iteB (fun h => ?_) (fun h => ?_)
            · repeat walk_at "dp"
              refine ⟨(rs, S, [], hop), rfl, rfl, ⟨.nil, hrs, by simp, hok⟩, ?_⟩
              repeat walk_at "dp"
              refine k_eqNil (pl_nats 0 _) (by decide) ?_
              repeat walk_at "dp"
              refine iteB (fun h2 => ?_) (fun h2 => ?_)
              · have hg : Good rs hop S := by
                  have : natsD (tooS rs S [] hop rs.length) = [] := List.isEmpty_iff.mp h2
                  exact List.map_eq_nil_iff.mp this
                rw [hfilt hg]
                repeat walk_at "dp"
                refine' c_map (f := fun (n : Nat) => PyData.int n) (xs := cm) (fun j out ρ => out = natsD ((cm.take j).filter fun i => decide (i ∈ S)) ∧ ∃ x, ρ = [x, some (.fz (natsL S))]) ?hn ?hc ?h0 ?hs ?hf
                case hn => omega
                case hc => walk_at "ev"
                case h0 => exact ⟨rfl, none, rfl⟩
                case hs =>
                  rintro j i out ρ hj ⟨rfl, x, rfl⟩
                  rw [natsD_filt _ _ _ _ hj]
                  repeat walk_at "dp"
                  refine k_inL rfl (memD_nats i S) ?_
                  repeat walk_at "dp"
                  refine iteB (fun h => ?_) (fun h => ?_)
                  · have h' : decide (i ∈ S) = true := h
                    repeat walk_at "dp"
                    exact ⟨by rw [h']; rfl, _, rfl⟩
                  · have h' : decide (i ∈ S) = false := h
                    repeat walk_at "dp"
                    exact ⟨by rw [h']; rfl, _, rfl⟩
                case hf =>
                  rintro out ρ ⟨rfl, x, rfl⟩
                  rw [List.take_length]
                  walk_at "dn"
                  repeat walk_at "dp"
                  exact ⟨_, _, _, rfl, .inr rfl⟩
              · have hg : ¬ Good rs hop S := fun g => by
                  have : natsD (tooS rs S [] hop rs.length) = [] := by rw [show tooS rs S [] hop rs.length = [] from g]; rfl
                  rw [show natsD (tooS (rs, S, [], hop).fst (rs, S, [], hop).snd.fst (rs, S, [], hop).snd.snd.fst (rs, S, [], hop).snd.snd.snd (rs, S, [], hop).fst.length) = [] from this] at h2
                  cases h2
                rw [hsame fun i _ g => absurd g hg]
                repeat walk_at "dp"
                exact ⟨_, _, _, rfl, .inr rfl⟩
            · have hall : ∀ i ∈ cm, i ∈ S := fun i hi => by
                have := List.any_eq_false.mp h (decide (i ∉ S)) (List.mem_map_of_mem hi)
                simpa using this
              repeat walk_at "dp"
              rw [hsame fun i hi _ => hall i hi]
              exact ⟨_, _, _, rfl, .inr rfl⟩
      · rintro ρ ⟨y3, x5, x6, rfl, hy⟩
        rw [List.take_length, hall] at hy
        rcases hy with ⟨h, _⟩ | rfl
        · rw [← hss, subsTo_len] at h
          have := Nat.pow_pos (n := (ixOf isJ rs rs.length).length) (show 0 < 2 by decide)
          omega
        · repeat walk_at "dp"
          exact q
theorem D_law (T : Txt K mg t) : FnD P w K mg base 7 t.f_law t.d_law ["_law_script"] (mkP (fun (ns : List Int) => [.list (ns.map PyData.int)]) (fun ns => ns.length ≤ 63) fun _ => .fz (.bool true)) := by
  have G_tape := D_tape (P := P) (w := w) (base := base) T
  have G_take := D_take (P := P) (w := w) (base := base) T
  have G_jumpy := D_jumpy (P := P) (w := w) (base := base) T
  have G_l_placed := D_l_placed (P := P) (w := w) (base := base) T
  have G_common := D_l_common (P := P) (w := w) (base := base) T
  have G_least_longs := D_least_longs (P := P) (w := w) (base := base) T
  have G_l_too_short := D_l_too_short (P := P) (w := w) (base := base) T
  have G_too_short := D_too_short (P := P) (w := w) (base := base) T
  have G_same := D_same (P := P) (w := w) (base := base) T 2
  refine T.F_law.okP sc_law (fun _ => rfl) fun cdv A outer s H E hr ns hns Q q => ?_
  have hu := hr.units
  refine ⟨_, (pdss_cons (pds_for PassesOwn.never rfl (by intro _; rfl) (pdi_range1 rfl T.m_range (by rfl) (pda_cons (by rfl) (pd_add pd_int (pd_callb (call_min2 rfl) sc_min rfl T.m_min bt_min (by decide) (by decide) (by rfl) (by rfl) (pda_cons (by rfl) pd_int (pda_cons (by rfl) (pd_callb call_len sc_len rfl T.m_len bt_len (by decide) (by decide) (by rfl) (by rfl) (pda_cons (by rfl) (pdv 0) pda_nil)) pda_nil)))) pda_nil)) (pdg_name (m := 10) (i := 1) sc_law.nd rfl (Or.inl rfl) (by decide))
        (pdss_cons (pds_set (i := 2) sc_law.nd rfl (Or.inl rfl) (by rfl) (by first | exact Or.inl rfl | exact Or.inr rfl | assumption) (pd_call G_tape (hr.mono (by first | decide | omega)) rfl T.m_tape T.F_tape.kp T.b_tape (by decide) (by rfl) (by rfl) (pda_cons (by rfl) (pdv 0) (pda_cons (by rfl) (pdv 1) pda_nil))))
      (pdss_cons (pds_setF (i := 3) sc_law.nd rfl (Or.inl rfl) (by rfl) (by first | exact Or.inl rfl | exact Or.inr rfl | assumption) (pd_callT (j := 2) rfl (by first | exact Or.inl rfl | exact Or.inr (Or.inl rfl) | exact Or.inr (Or.inr rfl)) G_jumpy (hr.mono (by first | decide | omega)) rfl T.m_jumpy T.F_jumpy.kp T.b_jumpy (by decide) (by decide) (by decide) (by rfl) (by rfl) pda_nil))
      (pdss_cons (pds_set (i := 4) sc_law.nd rfl (Or.inr rfl) (by rfl) (by first | exact Or.inl rfl | exact Or.inr rfl | assumption) (pd_cat (pd_ix (fun _ _ => rfl) (pd_call G_l_placed (hr.mono (by first | decide | omega)) rfl T.m_l_placed T.F_l_placed.kp T.b_l_placed (by decide) (by rfl) (by rfl) (pda_cons (by rfl) (pdv 3) (pda_cons (by rfl) (pd_lst hOwn pda_nil) (pda_cons (by rfl) (pd_lst hOwn pda_nil) pda_nil)))) pd_int) (pd_lst hOwn (pda_cons (by rfl) (pd_ix (fun _ _ => rfl) (pd_call G_l_placed (hr.mono (by first | decide | omega)) rfl T.m_l_placed T.F_l_placed.kp T.b_l_placed (by decide) (by rfl) (by rfl) (pda_cons (by rfl) (pdv 3) (pda_cons (by rfl) (pd_lst hOwn pda_nil) (pda_cons (by rfl) (pd_lst hOwn pda_nil) pda_nil)))) pd_int) pda_nil))))
      (pdss_cons (pds_set (i := 5) sc_law.nd rfl (Or.inl rfl) (by rfl) (by first | exact Or.inl rfl | exact Or.inr rfl | assumption) (pd_sorted rfl T.m_sorted bt_sorted (by decide) (by decide) (by rfl) (by rfl) (pda_cons (by rfl) (pd_comp rfl sn_law_0.sc (by intro _; rfl) (pdi_enum rfl T.m_enumerate (by rfl) (pda_cons (by rfl) (pdv 3) pda_nil)) (fun _ => (pdg_tup (n := 2) rfl (by rfl) (by rfl) (pdgs_cons (by rfl) (pdg_name (m := 2) (i := 0) sn_law_0.nd rfl (Or.inl rfl) (by decide)) (pdgs_cons (by rfl) (pdg_name (m := 2) (i := 1) sn_law_0.nd rfl (Or.inl rfl) (by decide)) pdgs_nil)))) (fun _ => (pdc_test (pdt_cmp op_in_seq sr_in (by with_unfolding_all rfl) (pd_ix (fun _ _ => rfl) (pdv 1) pd_int) (pd_tup hOwn (pda_cons (by rfl) pd_str (pda_cons (by rfl) pd_str pda_nil)))) (pd_callb call_abs sc_abs rfl T.m_abs bt_abs (by decide) (by decide) (by rfl) (by rfl) (pda_cons (by rfl) (pd_sub (pd_ix (fun _ _ => rfl) (pdv 2) (pd_ix (fun _ _ => rfl) (pdv 1) (pd_neg pd_int))) (pd_ix (fun _ _ => rfl) (pdv 2) (pdv 0))) pda_nil))))) pda_nil)))
      (pdss_one (pds_for PassesOwn.never rfl (by intro _; rfl) (pdi_tup (pd_tup hOwn (pda_cons (by rfl) (pd_callb (call_min2 rfl) sc_min rfl T.m_min bt_min (by decide) (by decide) (by rfl) (by rfl) (pda_cons (by rfl) pd_int (pda_cons (by rfl) (pd_add (pd_ix (fun _ _ => rfl) (pdv 5) (pd_callT (j := 2) rfl (by first | exact Or.inl rfl | exact Or.inr (Or.inl rfl) | exact Or.inr (Or.inr rfl)) G_take (hr.mono (by first | decide | omega)) rfl T.m_take T.F_take.kp T.b_take (by decide) (by decide) (by decide) (by rfl) (by rfl) (pda_cons (by rfl) (pd_callb call_len sc_len rfl T.m_len bt_len (by decide) (by decide) (by rfl) (by rfl) (pda_cons (by rfl) (pdv 5) pda_nil)) pda_nil))) (pd_callT (j := 2) rfl (by first | exact Or.inl rfl | exact Or.inr (Or.inl rfl) | exact Or.inr (Or.inr rfl)) G_take (hr.mono (by first | decide | omega)) rfl T.m_take T.F_take.kp T.b_take (by decide) (by decide) (by decide) (by rfl) (by rfl) (pda_cons (by rfl) pd_int pda_nil))) pda_nil))) (pda_cons (by rfl) (pd_callT (j := 2) rfl (by first | exact Or.inl rfl | exact Or.inr (Or.inl rfl) | exact Or.inr (Or.inr rfl)) G_take (hr.mono (by first | decide | omega)) rfl T.m_take T.F_take.kp T.b_take (by decide) (by decide) (by decide) (by rfl) (by rfl) (pda_cons (by rfl) pd_int pda_nil)) pda_nil)))) (pdg_name (m := 10) (i := 6) sc_law.nd rfl (Or.inl rfl) (by decide))
        (pdss_cons (pds_setF (i := 7) sc_law.nd rfl (Or.inl rfl) (by rfl) (by first | exact Or.inl rfl | exact Or.inr rfl | assumption) (pd_call G_common (hr.mono (by first | decide | omega)) rfl T.m_common T.F_common.kp T.b_common (by decide) (by rfl) (by rfl) (pda_cons (by rfl) (pdv 3) (pda_cons (by rfl) (pdv 6) pda_nil))))
      (pdss_cons (pds_set (i := 8) sc_law.nd rfl (Or.inr rfl) (by rfl) (by first | exact Or.inl rfl | exact Or.inr rfl | assumption) (pd_call G_least_longs (hr.mono (by first | decide | omega)) rfl T.m_least_longs T.F_least_longs.kp T.b_least_longs (by decide) (by rfl) (by rfl) (pda_cons (by rfl) (pdv 3) (pda_cons (by rfl) (pdv 6) pda_nil))))
      (pdss_cons (pds_if (PDw.pt (pdw_or (pdt_not (pdt_val (by intro _; rfl) (pd_callB G_same (hr.mono (by first | decide | omega)) rfl T.m_same T.F_same.kp T.b_same (by decide) (by rfl) (by rfl) (pda_cons (by rfl) (pdv 8) (pda_cons (by rfl) (pdv 7) pda_nil))))) (pdw_or1 (pdt_cmp (op_neD hu) sr_neD (nomark _) (pd_call G_l_too_short (hr.mono (by first | decide | omega)) rfl T.m_l_too_short T.F_l_too_short.kp T.b_l_too_short (by decide) (by rfl) (by rfl) (pda_cons (by rfl) (pdv 3) (pda_cons (by rfl) (pdv 8) (pda_cons (by rfl) (pd_lst hOwn pda_nil) (pda_cons (by rfl) (pdv 6) pda_nil))))) (pd_lst hOwn pda_nil)))))
        (pdss_one (pds_ret pd_bl))
        pdss_nil)
      (pdss_cons (pds_if (pdt_cmp (op_neD hu) sr_neD (nomark _) (pd_call G_too_short (hr.mono (by first | decide | omega)) rfl T.m_too_short T.F_too_short.kp T.b_too_short (by decide) (by rfl) (by rfl) (pda_cons (by rfl) (pdv 3) (pda_cons (by rfl) (pdv 8) (pda_cons (by rfl) (pd_lst hOwn pda_nil) (pda_cons (by rfl) (pdv 6) pda_nil))))) (pd_lst hOwn pda_nil))
        (pdss_one (pds_ret pd_bl))
        pdss_nil)
      (pdss_cons (pds_set (i := 9) sc_law.nd rfl (Or.inl rfl) (by rfl) (by first | exact Or.inl rfl | exact Or.inr rfl | assumption) (pd_call G_least_longs (hr.mono (by first | decide | omega)) rfl T.m_least_longs T.F_least_longs.kp T.b_least_longs (by decide) (by rfl) (by rfl) (pda_cons (by rfl) (pdv 3) (pda_cons (by rfl) (pd_callb (call_min2 rfl) sc_min rfl T.m_min bt_min (by decide) (by decide) (by rfl) (by rfl) (pda_cons (by rfl) pd_int (pda_cons (by rfl) (pd_add (pdv 6) (pd_callT (j := 2) rfl (by first | exact Or.inl rfl | exact Or.inr (Or.inl rfl) | exact Or.inr (Or.inr rfl)) G_take (hr.mono (by first | decide | omega)) rfl T.m_take T.F_take.kp T.b_take (by decide) (by decide) (by decide) (by rfl) (by rfl) (pda_cons (by rfl) pd_int pda_nil))) pda_nil))) pda_nil))))
      (pdss_one (pds_if (pdt_val (by intro _; rfl) (pd_callb (call_any rfl) sc_any rfl T.m_any bt_any (by decide) (by decide) (by rfl) (by rfl) (pda_cons (by rfl) (pd_comp rfl sn_law_1.sc (by intro _; rfl) (pdi_list (pdv 9)) (fun _ => (pdg_name (m := 1) (i := 0) sn_law_1.nd rfl (Or.inl rfl) (by decide))) (fun _ => (pdc_plain (pd_cmp op_notIn_seq sr_in (by with_unfolding_all rfl) (pdv 0) (pdv 1))))) pda_nil)))
        (pdss_one (pds_ret pd_bl))
        pdss_nil))))))))))))))
      (pdss_one (pds_ret pd_bl))), ?_⟩
  repeat walk_at "dp"
  obtain ⟨c, hc⟩ : ∃ c : Nat, (1 + if ((List.map PyData.int ns).length : Int) < 3 then ((List.map PyData.int ns).length : Int) else 3).toNat = c ∧ c ≤ 4 := ⟨_, rfl, by split <;> omega⟩
  rw [hc.1]
  refine l_rng0 (fun k ρ => ∃ (x1 x2 x3 x4 x5 x6 x7 x8 x9 : Option OD), ρ = [some (.fz (.list (ns.map PyData.int))), x1, x2, x3, x4, x5, x6, x7, x8, x9]) ⟨_, _, _, _, _, _, _, _, _, rfl⟩ ?_ ?_
  · rintro k ρ hk ⟨x1, x2, x3, x4, x5, x6, x7, x8, x9, rfl⟩
    repeat walk_at "dg"
    walk_at "dn"
    repeat walk_at "dp"
    refine ⟨ns, (k : Int), rfl, rfl, by omega, by omega, fun p => ?_⟩
    repeat walk_at "dp"
    (refine ⟨(), _, rfl, rfl, trivial, by ((try dsimp only); omega), ?_⟩; intro xr m1 hx d0 d1; (try dsimp only at hx); (try dsimp only at d1); walk_at "dn")
    obtain ⟨rs, rfl, hrl, hgr, hrok, hj6, hj0⟩ := hx
    rw [← jcount] at hj6 hj0
    repeat walk_at "dp"
    refine ⟨(rs, [], []), rfl, rfl, ⟨.nil, by dsimp only; omega, by simp⟩, ?_⟩
    dsimp only [placedO]
    repeat walk_at "dp"
    refine ⟨(rs, [], []), rfl, rfl, ⟨.nil, by dsimp only; omega, by simp⟩, ?_⟩
    repeat walk_at "dp"
    dsimp only [CD.od]
    walk_at "dn"
    refine ⟨_, _, _, by walk_at "ev", by walk_at "ev", by decide, ?_⟩
    refine ⟨_, _, rfl, rfl, by rw [natsD_len]; unfold placesM; simp; omega, ?_⟩
    rw [goalsM_eq]
    repeat walk_at "dp"
    refine' c_enum (f := rowT) (xs := rs) (fun j out ρ => out = ((ixOf isJ rs j).map fun i => PyData.int (farOf rs [] [] i)) ∧ ∃ x y, ρ = [x, y, some (.fz (.list (natsD (goalsM rs [] []))))]) ?hn ?hc ?h0 ?hs ?hf
    case hn => omega
    case hc => walk_at "ev"
    case h0 => exact ⟨rfl, none, none, rfl⟩
    case hs =>
      rintro j r out ρ hj ⟨rfl, x, y, rfl⟩
      have hjl : j < rs.length := (List.getElem?_eq_some_iff.mp hj).1
      have eg : rs.getD j .stop = r := getD_of hj
      have hgl := goal_le hrok hjl
      have hfar : farOf rs [] [] j = absI ((rowPl rs [] [] (goalOf r) : Int) - rowPl rs [] [] j) := by unfold farOf; rw [eg]
      rw [eg] at hgl
      rw [ixOf_succ, eg, List.map_append]
      cases hjr : isJ r with
      | false => cases r <;> first | (cases hjr; done) | ((repeat walk_at "dp"); exact ⟨by simp, _, _, rfl⟩)
      | true =>
        rw [if_pos rfl, List.map_cons, List.map_nil, hfar]
        cases r with
        | go g =>
          repeat walk_at "dp"
          refine ⟨_, _, _, rfl, item_lst (atI_nat (natsD_get (goalsM_get rs [] [] hgl))), ?_⟩
          repeat walk_at "dp"
          refine ⟨_, _, _, rfl, item_lst (atI_nat (natsD_get (goalsM_get rs [] [] (Nat.le_of_lt hjl)))), ?_⟩
          repeat walk_at "dp"
          exact ⟨rfl, _, _, rfl⟩
        | nil a g =>
          repeat walk_at "dp"
          refine ⟨_, _, _, rfl, item_lst (atI_nat (natsD_get (goalsM_get rs [] [] hgl))), ?_⟩
          repeat walk_at "dp"
          refine ⟨_, _, _, rfl, item_lst (atI_nat (natsD_get (goalsM_get rs [] [] (Nat.le_of_lt hjl)))), ?_⟩
          repeat walk_at "dp"
          exact ⟨rfl, _, _, rfl⟩
        | _ => cases hjr
    case hf =>
      rintro out ρ ⟨rfl, x, y, rfl⟩
      walk_at "dn"
      repeat walk_at "dp"
      rw [show ((ixOf isJ rs rs.length).map fun i => PyData.int (farOf rs [] [] i)) = ((ixOf isJ rs rs.length).map fun i => farOf rs [] [] i).map PyData.int by rw [List.map_map]; rfl]
      refine ⟨_, _, rfl, intsOf_map _, by rw [List.length_map]; omega, ?_⟩
      intro fs pm pw
      have hfl : fs.length = (ixOf isJ rs rs.length).length := by rw [pm.length_eq, List.length_map]
      clear pm pw
      repeat walk_at "dp"
      rw [List.length_map]
      (refine ⟨_, _, rfl, rfl, by omega, by first | decide | omega, by first | decide | omega, ?_⟩; intro r1 a1 b1; walk_at "dn"; repeat walk_at "dp")
      obtain ⟨R, rfl⟩ : ∃ R : Nat, r1 = R := ⟨r1.toNat, by omega⟩
      obtain ⟨f1, hf1⟩ : ∃ f1 : Int, fs[R]? = some f1 := ⟨_, List.getElem?_eq_getElem (by omega)⟩
      refine ⟨_, _, _, rfl, item_rfL rfl (atI_nat (v := .int f1) (by rw [List.getElem?_map, hf1]; rfl)), ?_⟩
      walk_at "dn"
      repeat walk_at "dp"
      (refine ⟨_, _, rfl, rfl, by omega, by first | decide | omega, by first | decide | omega, ?_⟩; intro r2 a2 b2; walk_at "dn"; repeat walk_at "dp")
      obtain ⟨hop1, hh1, hh2⟩ : ∃ h : Int, (if f1 + r2 < 499 then f1 + r2 else 499) = h ∧ h ≤ 499 := ⟨_, rfl, by split <;> omega⟩
      rw [hh1]
      (refine ⟨_, _, rfl, rfl, by omega, by first | decide | omega, by first | decide | omega, ?_⟩; intro r3 a3 b3; walk_at "dn"; repeat walk_at "dp")
      refine l_map (f := PyData.int) (xs := [hop1, r3]) (fun i ρ => ∃ (m : Int) (x6 x7 x8 x9 : Option OD), ρ = [some (.fz (.list (ns.map PyData.int))), some (.fz (.int k)), some (.tape p m), some (.fz (rowsD rs)), some (.fz (.list (natsD (goalsM rs [] [])))), some (.lst (fs.map PyData.int)), x6, x7, x8, x9] ∧ 0 ≤ m ∧ m ≤ 10000 + i) ⟨_, x6, x7, x8, x9, rfl, by omega, by omega⟩ ?_ ?_
      · rintro i hop ρ hi ⟨m, x6, x7, x8, x9, rfl, f0, f1⟩
        have hi2 : i < 2 := (List.getElem?_eq_some_iff.mp hi).1
        have hop499 : hop ≤ 499 := by
          rcases List.mem_cons.mp (List.mem_of_getElem? hi) with rfl | h
          · exact hh2
          · rw [List.mem_singleton.mp h]; omega
        have hll : (leastL rs hop).length ≤ rs.length := Nat.le_trans (List.length_filter_le _ _) (ixOf_le _ _ _)
        have hlg : tooS rs (leastL rs hop) [] hop rs.length = [] := least_good rs hop
        repeat walk_at "dg"
        walk_at "dn"
        repeat walk_at "dp"
        refine ⟨(rs, hop), rfl, rfl, ⟨by dsimp only; omega, hrok, hj6, hj0⟩, ?_⟩
        repeat walk_at "dp"
        refine ⟨(rs, hop), rfl, rfl, ⟨by dsimp only; omega, hrok, by dsimp only; omega⟩, ?_⟩
        repeat walk_at "dp"
        refine ⟨_, rfl, rfl, DOk.nats 1 (leastL rs hop) (by omega), ?_⟩
        repeat walk_at "dp"
        refine ⟨(rs, leastL rs hop, [], hop), rfl, rfl, ⟨.nil, by dsimp only; omega, by simp, hrok⟩, ?_⟩
        dsimp only
        rw [hlg]
        repeat walk_at "dp"
        refine k_neNil (ds := []) (pl_nats 0 []) (by decide) ?_
        repeat walk_at "dp"
        refine ⟨(rs, leastL rs hop, [], hop), rfl, rfl, ⟨.nil, by dsimp only; omega, by simp, hrok⟩, ?_⟩
        dsimp only
        rw [hlg]
        repeat walk_at "dp"
        refine k_neNil (ds := []) (pl_nats 0 []) (by decide) ?_
        repeat walk_at "dp"
        (refine ⟨_, _, rfl, rfl, by omega, by first | decide | omega, by first | decide | omega, ?_⟩; intro r4 a4 b4; walk_at "dn"; repeat walk_at "dp")
        obtain ⟨hop2, hh3, hh4⟩ : ∃ h : Int, (if hop + r4 < 499 then hop + r4 else 499) = h ∧ hop ≤ h := ⟨_, rfl, by split <;> omega⟩
        rw [hh3]
        have hl2 : (leastL rs hop2).length ≤ rs.length := Nat.le_trans (List.length_filter_le _ _) (ixOf_le _ _ _)
        refine ⟨(rs, hop2), rfl, rfl, ⟨by dsimp only; omega, hrok, by dsimp only; omega⟩, ?_⟩
        repeat walk_at "dp"
        refine' c_map (f := fun (n : Nat) => PyData.int n) (xs := leastL rs hop2) (fun j out ρ => out = ((leastL rs hop2).take j).map (fun _ => PyData.bool false) ∧ ∃ x, ρ = [x, some (.fz (intsD (leastL rs hop)))]) ?hn ?hc ?h0 ?hs ?hf
        case hn => omega
        case hc => walk_at "ev"
        case h0 => exact ⟨rfl, none, rfl⟩
        case hs =>
          rintro j v out ρ hj ⟨rfl, x, rfl⟩
          have hin : v ∈ leastL rs hop := least_wider hh4 v (List.mem_of_getElem? hj)
          repeat walk_at "dp"
          refine k_inL rfl (memD_nats v (leastL rs hop)) ?_
          repeat walk_at "dp"
          refine ⟨?_, _, rfl⟩
          rw [List.take_succ, hj, List.map_append, decide_eq_true hin]
          rfl
        case hf =>
          rintro out ρ ⟨rfl, x, rfl⟩
          rw [List.take_length]
          walk_at "dn"
          repeat walk_at "dp"
          refine k_any (allB_map (fun _ => false) (leastL rs hop2)) ?_
          rw [show ((leastL rs hop2).map fun _ => false).any id = false from List.any_eq_false.mpr fun b hb => by obtain ⟨_, _, rfl⟩ := List.mem_map.mp hb; simp]
          repeat walk_at "dp"
          exact ⟨_, _, _, _, _, rfl, by omega, by omega⟩
      · rintro ρ ⟨m, x6, x7, x8, x9, rfl, f0, f1⟩
        exact ⟨_, _, _, _, _, _, _, _, _, rfl⟩
  · rintro ρ ⟨x1, x2, x3, x4, x5, x6, x7, x8, x9, rfl⟩
    repeat walk_at "dp"
    exact q
def spLaw (K : PySem.W.Frag) : Sp := fun vs H Q _ => ∃ (a : Addr) (ns : List Int), vs = [.ref a] ∧ SqL K H a (ns.map V.int) ∧ ns.length ≤ 63 ∧ ∀ H', Q (.bl true) H'
theorem ok_law (T : Txt K mg t) : FnOk P w K mg base CX0 7 t.f_law t.d_law ["_law_script"] (spLaw K) := by
  refine (D_law T).ok.imp fun vs H Q E h => ?_
  obtain ⟨a, ns, rfl, hS, hl, q⟩ := h
  refine ⟨fun _ => False, none, [.ref a], [.list (ns.map PyData.int)], rfl, fun a z => z.elim, fun _ _ _ z => z, FzA.of0 (.cons (.lst hS (DtAll.ints ns)) .nil), fun _ _ e => (by cases e), ns, rfl, rfl, hl, fun v H' B _ _ hO _ _ => ?_⟩
  obtain ⟨_, hv⟩ := hO
  cases hv
  exact q H'
end
theorem ln1 {α : Type} {l : List α} (h : l.length = 1) : ∃ a0, l = [a0] := by
  match l, h with
  | [a0], _ => exact ⟨a0, rfl⟩
theorem ln2 {α : Type} {l : List α} (h : l.length = 2) : ∃ a0 a1, l = [a0, a1] := by
  match l, h with
  | [a0, a1], _ => exact ⟨a0, a1, rfl⟩
theorem ln3 {α : Type} {l : List α} (h : l.length = 3) : ∃ a0 a1 a2, l = [a0, a1, a2] := by
  match l, h with
  | [a0, a1, a2], _ => exact ⟨a0, a1, a2, rfl⟩
theorem ln4 {α : Type} {l : List α} (h : l.length = 4) : ∃ a0 a1 a2 a3, l = [a0, a1, a2, a3] := by
  match l, h with
  | [a0, a1, a2, a3], _ => exact ⟨a0, a1, a2, a3, rfl⟩
theorem all_mk {l : PySem.W.OpenLaw} {w : World} {K : PySem.W.Frag} {h : Heap} {mg : Str → Option Value} {fa : Addr} (X : K.In h) (G : h.Ns mainGlobals mg) (hfa : mg "law" = some (.ref fa))
    {f0 : Addr} {od0 an0 : Option Addr} {sl0 : Array (Option Value)} {oc0 kV0 dc0 pm0 cd0 ct0 : Value}
    {f1 : Addr} {od1 an1 : Option Addr} {sl1 : Array (Option Value)} {oc1 kV1 dc1 pm1 cd1 ct1 : Value}
    {f2 : Addr} {od2 an2 : Option Addr} {sl2 : Array (Option Value)} {oc2 kV2 dc2 pm2 cd2 ct2 : Value}
    {f3 : Addr} {od3 an3 : Option Addr} {sl3 : Array (Option Value)} {oc3 kV3 dc3 pm3 cd3 ct3 : Value}
    {f4 : Addr} {od4 an4 : Option Addr} {sl4 : Array (Option Value)} {oc4 kV4 dc4 pm4 cd4 ct4 : Value}
    {f5 : Addr} {od5 an5 : Option Addr} {sl5 : Array (Option Value)} {oc5 kV5 dc5 pm5 cd5 ct5 : Value}
    {f6 : Addr} {od6 an6 : Option Addr} {sl6 : Array (Option Value)} {oc6 kV6 dc6 pm6 cd6 ct6 : Value}
    {f7 : Addr} {od7 an7 : Option Addr} {sl7 : Array (Option Value)} {oc7 kV7 dc7 pm7 cd7 ct7 : Value}
    {f8 : Addr} {od8 an8 : Option Addr} {sl8 : Array (Option Value)} {oc8 kV8 dc8 pm8 cd8 ct8 : Value}
    {f9 : Addr} {od9 an9 : Option Addr} {sl9 : Array (Option Value)} {oc9 kV9 dc9 pm9 cd9 ct9 : Value}
    {f10 : Addr} {od10 an10 : Option Addr} {sl10 : Array (Option Value)} {oc10 kV10 dc10 pm10 cd10 ct10 : Value}
    {f11 : Addr} {od11 an11 : Option Addr} {sl11 : Array (Option Value)} {oc11 kV11 dc11 pm11 cd11 ct11 : Value}
    {f12 : Addr} {od12 an12 : Option Addr} {sl12 : Array (Option Value)} {oc12 kV12 dc12 pm12 cd12 ct12 : Value}
    {f13 : Addr} {od13 an13 : Option Addr} {sl13 : Array (Option Value)} {oc13 kV13 dc13 pm13 cd13 ct13 : Value}
    {f14 : Addr} {od14 an14 : Option Addr} {sl14 : Array (Option Value)} {oc14 kV14 dc14 pm14 cd14 ct14 : Value}
    {f15 : Addr} {od15 an15 : Option Addr} {sl15 : Array (Option Value)} {oc15 kV15 dc15 pm15 cd15 ct15 : Value}
    {f16 : Addr} {od16 an16 : Option Addr} {sl16 : Array (Option Value)} {oc16 kV16 dc16 pm16 cd16 ct16 : Value}
    {f17 : Addr} {od17 an17 : Option Addr} {sl17 : Array (Option Value)} {oc17 kV17 dc17 pm17 cd17 ct17 : Value}
    {f18 : Addr} {od18 an18 : Option Addr} {sl18 : Array (Option Value)} {oc18 kV18 dc18 pm18 cd18 ct18 : Value}
    {f19 : Addr} {od19 an19 : Option Addr} {sl19 : Array (Option Value)} {oc19 kV19 dc19 pm19 cd19 ct19 : Value}
    {f20 : Addr} {od20 an20 : Option Addr} {sl20 : Array (Option Value)} {oc20 kV20 dc20 pm20 cd20 ct20 : Value}
    {f21 : Addr} {od21 an21 : Option Addr} {sl21 : Array (Option Value)} {oc21 kV21 dc21 pm21 cd21 ct21 : Value}
    {f22 : Addr} {od22 an22 : Option Addr} {sl22 : Array (Option Value)} {oc22 kV22 dc22 pm22 cd22 ct22 : Value}
    (a0 : PySem.W.nsIn K mainGlobals "is_great" = some (some (.ref f0))) (l0 : K.lookup f0 = some ⟨oc0, od0, .func (PySem.W.fnOf "is_great" "is_great" (defArgs s_is_great) (defBody s_is_great) (defScope s_is_great) .none kV0 dc0 pm0 an0 cd0 ct0), sl0⟩) (c0 : PySem.W.codeIn K cd0 "is_great" = true) (k0 : PySem.W.keepIn K (.ref f0) = true)
    (a1 : PySem.W.nsIn K mainGlobals "is_jump" = some (some (.ref f1))) (l1 : K.lookup f1 = some ⟨oc1, od1, .func (PySem.W.fnOf "is_jump" "is_jump" (defArgs s_is_jump) (defBody s_is_jump) (defScope s_is_jump) .none kV1 dc1 pm1 an1 cd1 ct1), sl1⟩) (c1 : PySem.W.codeIn K cd1 "is_jump" = true) (k1 : PySem.W.keepIn K (.ref f1) = true)
    (a2 : PySem.W.nsIn K mainGlobals "jumps_of" = some (some (.ref f2))) (l2 : K.lookup f2 = some ⟨oc2, od2, .func (PySem.W.fnOf "jumps_of" "jumps_of" (defArgs s_jumps_of) (defBody s_jumps_of) (defScope s_jumps_of) .none kV2 dc2 pm2 an2 cd2 ct2), sl2⟩) (c2 : PySem.W.codeIn K cd2 "jumps_of" = true) (k2 : PySem.W.keepIn K (.ref f2) = true)
    (a3 : PySem.W.nsIn K mainGlobals "falls" = some (some (.ref f3))) (l3 : K.lookup f3 = some ⟨oc3, od3, .func (PySem.W.fnOf "falls" "falls" (defArgs s_falls) (defBody s_falls) (defScope s_falls) .none kV3 dc3 pm3 an3 cd3 ct3), sl3⟩) (c3 : PySem.W.codeIn K cd3 "falls" = true) (k3 : PySem.W.keepIn K (.ref f3) = true)
    (a4 : PySem.W.nsIn K mainGlobals "size_of" = some (some (.ref f4))) (l4 : K.lookup f4 = some ⟨oc4, od4, .func (PySem.W.fnOf "size_of" "size_of" (defArgs s_size_of) (defBody s_size_of) (defScope s_size_of) .none kV4 dc4 pm4 an4 cd4 ct4), sl4⟩) (c4 : PySem.W.codeIn K cd4 "size_of" = true) (k4 : PySem.W.keepIn K (.ref f4) = true)
    (a5 : PySem.W.nsIn K mainGlobals "has_over" = some (some (.ref f5))) (l5 : K.lookup f5 = some ⟨oc5, od5, .func (PySem.W.fnOf "has_over" "has_over" (defArgs s_has_over) (defBody s_has_over) (defScope s_has_over) .none kV5 dc5 pm5 an5 cd5 ct5), sl5⟩) (c5 : PySem.W.codeIn K cd5 "has_over" = true) (k5 : PySem.W.keepIn K (.ref f5) = true)
    (a6 : PySem.W.nsIn K mainGlobals "first_word" = some (some (.ref f6))) (l6 : K.lookup f6 = some ⟨oc6, od6, .func (PySem.W.fnOf "first_word" "first_word" (defArgs s_first_word) (defBody s_first_word) (defScope s_first_word) .none kV6 dc6 pm6 an6 cd6 ct6), sl6⟩) (c6 : PySem.W.codeIn K cd6 "first_word" = true) (k6 : PySem.W.keepIn K (.ref f6) = true)
    (a7 : PySem.W.nsIn K mainGlobals "placed" = some (some (.ref f7))) (l7 : K.lookup f7 = some ⟨oc7, od7, .func (PySem.W.fnOf "placed" "placed" (defArgs s_placed) (defBody s_placed) (defScope s_placed) .none kV7 dc7 pm7 an7 cd7 ct7), sl7⟩) (c7 : PySem.W.codeIn K cd7 "placed" = true) (k7 : PySem.W.keepIn K (.ref f7) = true)
    (a8 : PySem.W.nsIn K mainGlobals "farthest" = some (some (.ref f8))) (l8 : K.lookup f8 = some ⟨oc8, od8, .func (PySem.W.fnOf "farthest" "farthest" (defArgs s_farthest) (defBody s_farthest) (defScope s_farthest) .none kV8 dc8 pm8 an8 cd8 ct8), sl8⟩) (c8 : PySem.W.codeIn K cd8 "farthest" = true) (k8 : PySem.W.keepIn K (.ref f8) = true)
    (a9 : PySem.W.nsIn K mainGlobals "too_short" = some (some (.ref f9))) (l9 : K.lookup f9 = some ⟨oc9, od9, .func (PySem.W.fnOf "too_short" "too_short" (defArgs s_too_short) (defBody s_too_short) (defScope s_too_short) .none kV9 dc9 pm9 an9 cd9 ct9), sl9⟩) (c9 : PySem.W.codeIn K cd9 "too_short" = true) (k9 : PySem.W.keepIn K (.ref f9) = true)
    (a10 : PySem.W.nsIn K mainGlobals "least_longs" = some (some (.ref f10))) (l10 : K.lookup f10 = some ⟨oc10, od10, .func (PySem.W.fnOf "least_longs" "least_longs" (defArgs s_least_longs) (defBody s_least_longs) (defScope s_least_longs) .none kV10 dc10 pm10 an10 cd10 ct10), sl10⟩) (c10 : PySem.W.codeIn K cd10 "least_longs" = true) (k10 : PySem.W.keepIn K (.ref f10) = true)
    (a11 : PySem.W.nsIn K mainGlobals "_law_cell_at" = some (some (.ref f11))) (l11 : K.lookup f11 = some ⟨oc11, od11, .func (PySem.W.fnOf "_law_cell_at" "_law_cell_at" (defArgs s_cell_at) (defBody s_cell_at) (defScope s_cell_at) .none kV11 dc11 pm11 an11 cd11 ct11), sl11⟩) (c11 : PySem.W.codeIn K cd11 "_law_cell_at" = true) (k11 : PySem.W.keepIn K (.ref f11) = true)
    (a12 : PySem.W.nsIn K mainGlobals "_law_tape" = some (some (.ref f12))) (l12 : K.lookup f12 = some ⟨oc12, od12, .func (PySem.W.fnOf "_law_tape" "_law_tape" (defArgs s_tape) (defBody s_tape) (defScope s_tape) .none kV12 dc12 pm12 an12 cd12 ct12), sl12⟩) (c12 : PySem.W.codeIn K cd12 "_law_tape" = true) (k12 : PySem.W.keepIn K (.ref f12) = true)
    (a13 : PySem.W.nsIn K mainGlobals "_law_take" = some (some (.ref f13))) (l13 : K.lookup f13 = some ⟨oc13, od13, .func (PySem.W.fnOf "_law_take" "_law_take" (defArgs s_take) (defBody s_take) (defScope s_take) .none kV13 dc13 pm13 an13 cd13 ct13), sl13⟩) (c13 : PySem.W.codeIn K cd13 "_law_take" = true) (k13 : PySem.W.keepIn K (.ref f13) = true)
    (a14 : PySem.W.nsIn K mainGlobals "_law_great" = some (some (.ref f14))) (l14 : K.lookup f14 = some ⟨oc14, od14, .func (PySem.W.fnOf "_law_great" "_law_great" (defArgs s_great) (defBody s_great) (defScope s_great) .none kV14 dc14 pm14 an14 cd14 ct14), sl14⟩) (c14 : PySem.W.codeIn K cd14 "_law_great" = true) (k14 : PySem.W.keepIn K (.ref f14) = true)
    (a15 : PySem.W.nsIn K mainGlobals "_law_is_great" = some (some (.ref f15))) (l15 : K.lookup f15 = some ⟨oc15, od15, .func (PySem.W.fnOf "_law_is_great" "_law_is_great" (defArgs s_l_is_great) (defBody s_l_is_great) (defScope s_l_is_great) .none kV15 dc15 pm15 an15 cd15 ct15), sl15⟩) (c15 : PySem.W.codeIn K cd15 "_law_is_great" = true) (k15 : PySem.W.keepIn K (.ref f15) = true)
    (a16 : PySem.W.nsIn K mainGlobals "_law_size" = some (some (.ref f16))) (l16 : K.lookup f16 = some ⟨oc16, od16, .func (PySem.W.fnOf "_law_size" "_law_size" (defArgs s_size) (defBody s_size) (defScope s_size) .none kV16 dc16 pm16 an16 cd16 ct16), sl16⟩) (c16 : PySem.W.codeIn K cd16 "_law_size" = true) (k16 : PySem.W.keepIn K (.ref f16) = true)
    (a17 : PySem.W.nsIn K mainGlobals "_law_placed" = some (some (.ref f17))) (l17 : K.lookup f17 = some ⟨oc17, od17, .func (PySem.W.fnOf "_law_placed" "_law_placed" (defArgs s_l_placed) (defBody s_l_placed) (defScope s_l_placed) .none kV17 dc17 pm17 an17 cd17 ct17), sl17⟩) (c17 : PySem.W.codeIn K cd17 "_law_placed" = true) (k17 : PySem.W.keepIn K (.ref f17) = true)
    (a18 : PySem.W.nsIn K mainGlobals "_law_too_short" = some (some (.ref f18))) (l18 : K.lookup f18 = some ⟨oc18, od18, .func (PySem.W.fnOf "_law_too_short" "_law_too_short" (defArgs s_l_too_short) (defBody s_l_too_short) (defScope s_l_too_short) .none kV18 dc18 pm18 an18 cd18 ct18), sl18⟩) (c18 : PySem.W.codeIn K cd18 "_law_too_short" = true) (k18 : PySem.W.keepIn K (.ref f18) = true)
    (a19 : PySem.W.nsIn K mainGlobals "_law_jumpy" = some (some (.ref f19))) (l19 : K.lookup f19 = some ⟨oc19, od19, .func (PySem.W.fnOf "_law_jumpy" "_law_jumpy" (defArgs s_jumpy) (defBody s_jumpy) (defScope s_jumpy) .none kV19 dc19 pm19 an19 cd19 ct19), sl19⟩) (c19 : PySem.W.codeIn K cd19 "_law_jumpy" = true) (k19 : PySem.W.keepIn K (.ref f19) = true)
    (a20 : PySem.W.nsIn K mainGlobals "_law_same" = some (some (.ref f20))) (l20 : K.lookup f20 = some ⟨oc20, od20, .func (PySem.W.fnOf "_law_same" "_law_same" (defArgs s_same) (defBody s_same) (defScope s_same) .none kV20 dc20 pm20 an20 cd20 ct20), sl20⟩) (c20 : PySem.W.codeIn K cd20 "_law_same" = true) (k20 : PySem.W.keepIn K (.ref f20) = true)
    (a21 : PySem.W.nsIn K mainGlobals "_law_common" = some (some (.ref f21))) (l21 : K.lookup f21 = some ⟨oc21, od21, .func (PySem.W.fnOf "_law_common" "_law_common" (defArgs s_common) (defBody s_common) (defScope s_common) .none kV21 dc21 pm21 an21 cd21 ct21), sl21⟩) (c21 : PySem.W.codeIn K cd21 "_law_common" = true) (k21 : PySem.W.keepIn K (.ref f21) = true)
    (a22 : PySem.W.nsIn K mainGlobals "law" = some (some (.ref f22))) (l22 : K.lookup f22 = some ⟨oc22, od22, .func (PySem.W.fnOf "law" "law" (defArgs s_law) (defBody s_law) (defScope s_law) .none kV22 dc22 pm22 an22 cd22 ct22), sl22⟩) (c22 : PySem.W.codeIn K cd22 "law" = true) (k22 : PySem.W.keepIn K (.ref f22) = true)
    (z0 : PySem.W.nsIn K mainGlobals "abs" = some none)
    (z1 : PySem.W.nsIn K mainGlobals "all" = some none)
    (z2 : PySem.W.nsIn K mainGlobals "any" = some none)
    (z3 : PySem.W.nsIn K mainGlobals "bool" = some none)
    (z4 : PySem.W.nsIn K mainGlobals "enumerate" = some none)
    (z5 : PySem.W.nsIn K mainGlobals "int" = some none)
    (z6 : PySem.W.nsIn K mainGlobals "isinstance" = some none)
    (z7 : PySem.W.nsIn K mainGlobals "len" = some none)
    (z8 : PySem.W.nsIn K mainGlobals "list" = some none)
    (z9 : PySem.W.nsIn K mainGlobals "max" = some none)
    (z10 : PySem.W.nsIn K mainGlobals "min" = some none)
    (z11 : PySem.W.nsIn K mainGlobals "range" = some none)
    (z12 : PySem.W.nsIn K mainGlobals "sorted" = some none)
    (z13 : PySem.W.nsIn K mainGlobals "str" = some none)
    (z14 : PySem.W.nsIn K mainGlobals "tuple" = some none)
    (z15 : PySem.W.nsIn K mainGlobals "zip" = some none)
    {tk0 : Tok} (g0 : PySem.W.nsIn K mainGlobals "FARTHEST_NIL" = some (some (.int 99 tk0)))
    {tk1 : Tok} (g1 : PySem.W.nsIn K mainGlobals "GREATEST_SMALL" = some (some (.int 99 tk1)))
    {tk2 : Tok} (g2 : PySem.W.nsIn K mainGlobals "OVER_CELLS" = some (some (.int 2 tk2)))
    {tk3 : Tok} (g3 : PySem.W.nsIn K mainGlobals "WORD_CELLS" = some (some (.int 2 tk3)))
    : ∃ fd : FuncData, (∀ (s : Shared) (v : Value), BindsTo s fd ⟨[v], []⟩ [("_law_script", v)]) ∧ ∀ base : Heap, K.In base → base.Ns mainGlobals mg → FnOk l.prog w K mg base CX0 7 fa fd ["_law_script"] (spLaw K) := by
  have e := hfa.symm.trans (PySem.W.mg_of X G a22)
  cases e
  have F0 := fun_mk (st := s_is_great) l0 c0 k0
  have b0 := F0.binds (ps := ["row"]) fun _ _ _ _ _ _ us hl => by obtain ⟨_, rfl⟩ := ln1 hl; rfl
  have F1 := fun_mk (st := s_is_jump) l1 c1 k1
  have b1 := F1.binds (ps := ["row"]) fun _ _ _ _ _ _ us hl => by obtain ⟨_, rfl⟩ := ln1 hl; rfl
  have F2 := fun_mk (st := s_jumps_of) l2 c2 k2
  have b2 := F2.binds (ps := ["rows"]) fun _ _ _ _ _ _ us hl => by obtain ⟨_, rfl⟩ := ln1 hl; rfl
  have F3 := fun_mk (st := s_falls) l3 c3 k3
  have b3 := F3.binds (ps := ["row"]) fun _ _ _ _ _ _ us hl => by obtain ⟨_, rfl⟩ := ln1 hl; rfl
  have F4 := fun_mk (st := s_size_of) l4 c4 k4
  have b4 := F4.binds (ps := ["rows", "longs", "at"]) fun _ _ _ _ _ _ us hl => by obtain ⟨_, _, _, rfl⟩ := ln3 hl; rfl
  have F5 := fun_mk (st := s_has_over) l5 c5 k5
  have b5 := F5.binds (ps := ["rows", "gap"]) fun _ _ _ _ _ _ us hl => by obtain ⟨_, _, rfl⟩ := ln2 hl; rfl
  have F6 := fun_mk (st := s_first_word) l6 c6 k6
  have b6 := F6.binds (ps := ["rows", "gap", "place"]) fun _ _ _ _ _ _ us hl => by obtain ⟨_, _, _, rfl⟩ := ln3 hl; rfl
  have F7 := fun_mk (st := s_placed) l7 c7 k7
  have b7 := F7.binds (ps := ["rows", "longs", "pools"]) fun _ _ _ _ _ _ us hl => by obtain ⟨_, _, _, rfl⟩ := ln3 hl; rfl
  have F8 := fun_mk (st := s_farthest) l8 c8 k8
  have b8 := F8.binds (ps := ["row", "hop"]) fun _ _ _ _ _ _ us hl => by obtain ⟨_, _, rfl⟩ := ln2 hl; rfl
  have F9 := fun_mk (st := s_too_short) l9 c9 k9
  have b9 := F9.binds (ps := ["rows", "longs", "pools", "hop"]) fun _ _ _ _ _ _ us hl => by obtain ⟨_, _, _, _, rfl⟩ := ln4 hl; rfl
  have F10 := fun_mk (st := s_least_longs) l10 c10 k10
  have b10 := F10.binds (ps := ["rows", "hop"]) fun _ _ _ _ _ _ us hl => by obtain ⟨_, _, rfl⟩ := ln2 hl; rfl
  have F11 := fun_mk (st := s_cell_at) l11 c11 k11
  have b11 := F11.binds (ps := ["_law_script", "_law_k"]) fun _ _ _ _ _ _ us hl => by obtain ⟨_, _, rfl⟩ := ln2 hl; rfl
  have F12 := fun_mk (st := s_tape) l12 c12 k12
  have b12 := F12.binds (ps := ["_law_script", "_law_k"]) fun _ _ _ _ _ _ us hl => by obtain ⟨_, _, rfl⟩ := ln2 hl; rfl
  have F13 := fun_mk (st := s_take) l13 c13 k13
  have b13 := F13.binds (ps := ["_law_tape_here", "_law_many"]) fun _ _ _ _ _ _ us hl => by obtain ⟨_, _, rfl⟩ := ln2 hl; rfl
  have F14 := fun_mk (st := s_great) l14 c14 k14
  have b14 := F14.binds (ps := ["_law_tape_here"]) fun _ _ _ _ _ _ us hl => by obtain ⟨_, rfl⟩ := ln1 hl; rfl
  have F15 := fun_mk (st := s_l_is_great) l15 c15 k15
  have b15 := F15.binds (ps := ["_law_row"]) fun _ _ _ _ _ _ us hl => by obtain ⟨_, rfl⟩ := ln1 hl; rfl
  have F16 := fun_mk (st := s_size) l16 c16 k16
  have b16 := F16.binds (ps := ["_law_rows_here", "_law_longs_here", "_law_k"]) fun _ _ _ _ _ _ us hl => by obtain ⟨_, _, _, rfl⟩ := ln3 hl; rfl
  have F17 := fun_mk (st := s_l_placed) l17 c17 k17
  have b17 := F17.binds (ps := ["_law_rows_here", "_law_longs_here", "_law_pools"]) fun _ _ _ _ _ _ us hl => by obtain ⟨_, _, _, rfl⟩ := ln3 hl; rfl
  have F18 := fun_mk (st := s_l_too_short) l18 c18 k18
  have b18 := F18.binds (ps := ["_law_rows_here", "_law_longs_here", "_law_pools", "_law_hop"]) fun _ _ _ _ _ _ us hl => by obtain ⟨_, _, _, _, rfl⟩ := ln4 hl; rfl
  have F19 := fun_mk (st := s_jumpy) l19 c19 k19
  have b19 := F19.binds (ps := ["_law_tape_here"]) fun _ _ _ _ _ _ us hl => by obtain ⟨_, rfl⟩ := ln1 hl; rfl
  have F20 := fun_mk (st := s_same) l20 c20 k20
  have b20 := F20.binds (ps := ["_law_found", "_law_due"]) fun _ _ _ _ _ _ us hl => by obtain ⟨_, _, rfl⟩ := ln2 hl; rfl
  have F21 := fun_mk (st := s_common) l21 c21 k21
  have b21 := F21.binds (ps := ["_law_rows_here", "_law_hop"]) fun _ _ _ _ _ _ us hl => by obtain ⟨_, _, rfl⟩ := ln2 hl; rfl
  have F22 := fun_mk (st := s_law) l22 c22 k22
  have b22 := F22.binds (ps := ["_law_script"]) fun _ _ _ _ _ _ us hl => by obtain ⟨_, rfl⟩ := ln1 hl; rfl
  have T : Txt K mg ⟨f0, _, f1, _, f2, _, f3, _, f4, _, f5, _, f6, _, f7, _, f8, _, f9, _, f10, _, f11, _, f12, _, f13, _, f14, _, f15, _, f16, _, f17, _, f18, _, f19, _, f20, _, f21, _, fa, _⟩ := ⟨F0, b0, PySem.W.mg_of X G a0, F1, b1, PySem.W.mg_of X G a1, F2, b2, PySem.W.mg_of X G a2, F3, b3, PySem.W.mg_of X G a3, F4, b4, PySem.W.mg_of X G a4, F5, b5, PySem.W.mg_of X G a5, F6, b6, PySem.W.mg_of X G a6, F7, b7, PySem.W.mg_of X G a7, F8, b8, PySem.W.mg_of X G a8, F9, b9, PySem.W.mg_of X G a9, F10, b10, PySem.W.mg_of X G a10, F11, b11, PySem.W.mg_of X G a11, F12, b12, PySem.W.mg_of X G a12, F13, b13, PySem.W.mg_of X G a13, F14, b14, PySem.W.mg_of X G a14, F15, b15, PySem.W.mg_of X G a15, F16, b16, PySem.W.mg_of X G a16, F17, b17, PySem.W.mg_of X G a17, F18, b18, PySem.W.mg_of X G a18, F19, b19, PySem.W.mg_of X G a19, F20, b20, PySem.W.mg_of X G a20, F21, b21, PySem.W.mg_of X G a21, F22, b22, PySem.W.mg_of X G a22, PySem.W.mg_none_of X G z0, PySem.W.mg_none_of X G z1, PySem.W.mg_none_of X G z2, PySem.W.mg_none_of X G z3, PySem.W.mg_none_of X G z4, PySem.W.mg_none_of X G z5, PySem.W.mg_none_of X G z6, PySem.W.mg_none_of X G z7, PySem.W.mg_none_of X G z8, PySem.W.mg_none_of X G z9, PySem.W.mg_none_of X G z10, PySem.W.mg_none_of X G z11, PySem.W.mg_none_of X G z12, PySem.W.mg_none_of X G z13, PySem.W.mg_none_of X G z14, PySem.W.mg_none_of X G z15, ⟨_, PySem.W.mg_of X G g0⟩, ⟨_, PySem.W.mg_of X G g1⟩, ⟨_, PySem.W.mg_of X G g2⟩, ⟨_, PySem.W.mg_of X G g3⟩⟩
  exact ⟨_, fun s v => .of_eq rfl, fun base _ _ => ok_law T⟩
theorem walk {l : PySem.W.OpenLaw} {q : Program} {loose : List Str} {XP : (Str → Option Value) → Heap → Prop} {YP : World → Heap → Prop} {d : DefRec} {K : Params → PySem.W.Frag} (hn : l.most = some 63) (hdf : d.params.defaults = [])
    (hY : ∀ (w : World) (h : Heap), YP w h → (K w.params).In h)
    (F : ∀ (w : World) (mg : Str → Option Value) (fa : Addr) (h : Heap), (K w.params).In h → h.Ns mainGlobals mg → mg d.name = some (.ref fa) →
      ∃ fd : FuncData, (∀ (s : Shared) (u : Value), BindsTo s fd ⟨[u], []⟩ [("_law_script", u)]) ∧ ∀ base : Heap, (K w.params).In base → base.Ns mainGlobals mg → FnOk l.prog w (K w.params) mg base CX0 7 fa fd ["_law_script"] (spLaw (K w.params))) :
    PySem.W.WalkO q loose XP YP l.row.toRowW d [] (fun f vs => PySem.call f vs) :=
  L2.walk_of (n := 63) (k := 7) (x := "_law_script") (CX := fun _ => CX0) (sp := fun w => spLaw (K w.params)) hn (by decide) hdf ⟨rfl, by decide, by decide, rfl⟩ hY F (fun _ _ a ns hl _ hS => ⟨a, ns, rfl, hS, hl, fun _ => rfl⟩) fun _ _ _ _ _ z => z
end Np
open PySem PySem.W PyProof.Rows
set_option maxRecDepth 100000 in
set_option maxHeartbeats 0 in
theorem PySem.Challenge.cw_nearpool_k26_the_least_long_jumps_holds : PySem.Challenge.rw_nearpool_k26_the_least_long_jumps.Holds := by
  w_on; o_law; k_head; (case hw => w_witness2)
  k_fill
  refine Np.walk (l := PySem.Challenge.rw_nearpool_k26_the_least_long_jumps) rfl rfl (fun w h Y => PySem.W.kIn_of Y) ?F
  case F =>
    intro w mg fa h KX G hmg
    refine' Np.all_mk KX G hmg ?np_a0 ?np_l0 ?np_c0 ?np_k0 ?np_a1 ?np_l1 ?np_c1 ?np_k1 ?np_a2 ?np_l2 ?np_c2 ?np_k2 ?np_a3 ?np_l3 ?np_c3 ?np_k3 ?np_a4 ?np_l4 ?np_c4 ?np_k4 ?np_a5 ?np_l5 ?np_c5 ?np_k5 ?np_a6 ?np_l6 ?np_c6 ?np_k6 ?np_a7 ?np_l7 ?np_c7 ?np_k7 ?np_a8 ?np_l8 ?np_c8 ?np_k8 ?np_a9 ?np_l9 ?np_c9 ?np_k9 ?np_a10 ?np_l10 ?np_c10 ?np_k10 ?np_a11 ?np_l11 ?np_c11 ?np_k11 ?np_a12 ?np_l12 ?np_c12 ?np_k12 ?np_a13 ?np_l13 ?np_c13 ?np_k13 ?np_a14 ?np_l14 ?np_c14 ?np_k14 ?np_a15 ?np_l15 ?np_c15 ?np_k15 ?np_a16 ?np_l16 ?np_c16 ?np_k16 ?np_a17 ?np_l17 ?np_c17 ?np_k17 ?np_a18 ?np_l18 ?np_c18 ?np_k18 ?np_a19 ?np_l19 ?np_c19 ?np_k19 ?np_a20 ?np_l20 ?np_c20 ?np_k20 ?np_a21 ?np_l21 ?np_c21 ?np_k21 ?np_a22 ?np_l22 ?np_c22 ?np_k22 ?np_z0 ?np_z1 ?np_z2 ?np_z3 ?np_z4 ?np_z5 ?np_z6 ?np_z7 ?np_z8 ?np_z9 ?np_z10 ?np_z11 ?np_z12 ?np_z13 ?np_z14 ?np_z15 ?np_g0 ?np_g1 ?np_g2 ?np_g3
    (case np_a0 => k_is)
    (case np_l0 => k_is)
    (case np_c0 => k_is)
    (case np_k0 => k_is)
    (case np_a1 => k_is)
    (case np_l1 => k_is)
    (case np_c1 => k_is)
    (case np_k1 => k_is)
    (case np_a2 => k_is)
    (case np_l2 => k_is)
    (case np_c2 => k_is)
    (case np_k2 => k_is)
    (case np_a3 => k_is)
    (case np_l3 => k_is)
    (case np_c3 => k_is)
    (case np_k3 => k_is)
    (case np_a4 => k_is)
    (case np_l4 => k_is)
    (case np_c4 => k_is)
    (case np_k4 => k_is)
    (case np_a5 => k_is)
    (case np_l5 => k_is)
    (case np_c5 => k_is)
    (case np_k5 => k_is)
    (case np_a6 => k_is)
    (case np_l6 => k_is)
    (case np_c6 => k_is)
    (case np_k6 => k_is)
    (case np_a7 => k_is)
    (case np_l7 => k_is)
    (case np_c7 => k_is)
    (case np_k7 => k_is)
    (case np_a8 => k_is)
    (case np_l8 => k_is)
    (case np_c8 => k_is)
    (case np_k8 => k_is)
    (case np_a9 => k_is)
    (case np_l9 => k_is)
    (case np_c9 => k_is)
    (case np_k9 => k_is)
    (case np_a10 => k_is)
    (case np_l10 => k_is)
    (case np_c10 => k_is)
    (case np_k10 => k_is)
    (case np_a11 => k_is)
    (case np_l11 => k_is)
    (case np_c11 => k_is)
    (case np_k11 => k_is)
    (case np_a12 => k_is)
    (case np_l12 => k_is)
    (case np_c12 => k_is)
    (case np_k12 => k_is)
    (case np_a13 => k_is)
    (case np_l13 => k_is)
    (case np_c13 => k_is)
    (case np_k13 => k_is)
    (case np_a14 => k_is)
    (case np_l14 => k_is)
    (case np_c14 => k_is)
    (case np_k14 => k_is)
    (case np_a15 => k_is)
    (case np_l15 => k_is)
    (case np_c15 => k_is)
    (case np_k15 => k_is)
    (case np_a16 => k_is)
    (case np_l16 => k_is)
    (case np_c16 => k_is)
    (case np_k16 => k_is)
    (case np_a17 => k_is)
    (case np_l17 => k_is)
    (case np_c17 => k_is)
    (case np_k17 => k_is)
    (case np_a18 => k_is)
    (case np_l18 => k_is)
    (case np_c18 => k_is)
    (case np_k18 => k_is)
    (case np_a19 => k_is)
    (case np_l19 => k_is)
    (case np_c19 => k_is)
    (case np_k19 => k_is)
    (case np_a20 => k_is)
    (case np_l20 => k_is)
    (case np_c20 => k_is)
    (case np_k20 => k_is)
    (case np_a21 => k_is)
    (case np_l21 => k_is)
    (case np_c21 => k_is)
    (case np_k21 => k_is)
    (case np_a22 => k_is)
    (case np_l22 => k_is)
    (case np_c22 => k_is)
    (case np_k22 => k_is)
    (case np_z0 => k_is)
    (case np_z1 => k_is)
    (case np_z2 => k_is)
    (case np_z3 => k_is)
    (case np_z4 => k_is)
    (case np_z5 => k_is)
    (case np_z6 => k_is)
    (case np_z7 => k_is)
    (case np_z8 => k_is)
    (case np_z9 => k_is)
    (case np_z10 => k_is)
    (case np_z11 => k_is)
    (case np_z12 => k_is)
    (case np_z13 => k_is)
    (case np_z14 => k_is)
    (case np_z15 => k_is)
    (case np_g0 => k_is)
    (case np_g1 => k_is)
    (case np_g2 => k_is)
    (case np_g3 => k_is)
