import PyProof.Rows.All
import Wide.All
import OpenK.AllK
import Wide.FinOn
import Lean
import PyProof.EqAt
import PyProof.EqKinds
import PyProof.TupleCall
import PyProof.Draws
import PyProof.ZipIter
import PyProof.Rows.ListRangeD
import PyProof.EnumFor
import PyProof.EnumStmt
import PyProof.EnumMake
import PyProof.AutoListH
import PyProof.RangeFor
import PyProof.Rows.Range3
import KE.KUnpack
import PyProof.ReprRoads
import PyProof.ReprLen
import PyProof.FitsInt
import PySem.Challenge.RW_nearpool_k36_typed_cells_run
set_option compiler.extract_closed false
set_option Elab.async false
set_option linter.all false
set_option maxRecDepth 100000
/-! THE HAND LAYER, for ints, bools, texts, own classes, LISTS and tuples (index, slices, in, append, pop ..), calls, loops. Paste it whole ahead of your own text; what your proof does not reach may be deleted. -/
namespace L2
open PySem PySem.Spec PyProof.Rows

/-- a key: an int or a str -/
abbrev Key := Sum Int Str
def keyIs : Key → Value → Bool
  | .inl k, v => Value.isInt k v
  | .inr x, v => Value.isStrOf x v
def keyH (w : World) : Key → Int
  | .inl k => hashInt k
  | .inr x => hashStr w x
theorem keyIs_shape : ∀ {k : Key} {v : Value}, keyIs k v = true → (∃ i t, k = Sum.inl i ∧ v = Value.int i t) ∨ (∃ x t, k = Sum.inr x ∧ v = Value.str x t)
  | .inl i, v, h => by
    obtain ⟨t, e⟩ := Value.isInt_shape (k := i) (v := v) h
    exact .inl ⟨i, t, rfl, e⟩
  | .inr x, v, h => by
    obtain ⟨t, e⟩ := Value.isStrOf_shape (x := x) (v := v) h
    exact .inr ⟨x, t, rfl, e⟩
theorem keyIs_int (i : Int) (t : Tok) : keyIs (.inl i) (.int i t) = true := by simp [keyIs, Value.isInt]
theorem keyIs_str (x : Str) (t : Tok) : keyIs (.inr x) (.str x t) = true := by simp [keyIs, Value.isStrOf]
theorem key_ll (a b : Int) : decide ((Sum.inl a : Key) = Sum.inl b) = (a == b) := by
  by_cases e : a = b
  · subst e; simp
  · have h : ¬ (Sum.inl a : Key) = Sum.inl b := fun q => e (Sum.inl.inj q)
    rw [decide_eq_false h]
    exact (beq_eq_false_iff_ne.mpr e).symm
theorem key_rr (a b : Str) : decide ((Sum.inr a : Key) = Sum.inr b) = decide (a = b) := by
  by_cases e : a = b
  · subst e; simp
  · have h : ¬ (Sum.inr a : Key) = Sum.inr b := fun q => e (Sum.inr.inj q)
    rw [decide_eq_false h, decide_eq_false e]
theorem key_lr (a : Int) (b : Str) : decide ((Sum.inl a : Key) = Sum.inr b) = false := decide_eq_false (fun q => nomatch q)
theorem key_rl (a : Str) (b : Int) : decide ((Sum.inr a : Key) = Sum.inl b) = false := decide_eq_false (fun q => nomatch q)

def mixKind (prog : Program) (w : World) : PySem.KeyKind prog w Key where
  is := keyIs
  hash := keyH w
  inj := fun v a b ha hb => by
    rcases keyIs_shape ha with ⟨i, t, rfl, rfl⟩ | ⟨x, t, rfl, rfl⟩
    · rcases keyIs_shape hb with ⟨j, u, rfl, e⟩ | ⟨y, u, rfl, e⟩
      · injection e with e1 _; rw [e1]
      · exact nomatch e
    · rcases keyIs_shape hb with ⟨j, u, rfl, e⟩ | ⟨y, u, rfl, e⟩
      · exact nomatch e
      · injection e with e1 _; rw [e1]
  byValue := fun k v h => by
    rcases keyIs_shape h with ⟨i, t, rfl, rfl⟩ | ⟨x, t, rfl, rfl⟩ <;> rfl
  pyHash := fun hv h => by
    rcases keyIs_shape hv with ⟨i, t, rfl, rfl⟩ | ⟨x, t, rfl, rfl⟩
    · exact wpAny_pyHash_int h
    · exact wpAny_pyHash_str h
  eqBool := fun hu hv h => by
    rcases keyIs_shape hu with ⟨i, t, rfl, rfl⟩ | ⟨x, t, rfl, rfl⟩
    · rcases keyIs_shape hv with ⟨j, u, rfl, rfl⟩ | ⟨y, u, rfl, rfl⟩
      · rw [key_ll] at h; exact wpAny_eqBool_int h
      · rw [key_lr] at h; exact SeqAt.EqAt.int_str i t y u _ _ _ _ h
    · rcases keyIs_shape hv with ⟨j, u, rfl, rfl⟩ | ⟨y, u, rfl, rfl⟩
      · rw [key_rl] at h; exact SeqAt.EqAt.str_int x t j u _ _ _ _ h
      · rw [key_rr] at h; exact wpAny_eqBool_str h
  «strs» := fun k x t v h => by
    rcases keyIs_shape h with ⟨i, u, rfl, e⟩ | ⟨y, u, rfl, e⟩
    · exact nomatch e
    · injection e with e1 _
      subst e1
      cases v <;> rfl

theorem mixKind_int (prog : Program) (w : World) (i : Int) (t : Tok) : (mixKind prog w).is (.inl i) (.int i t) = true := keyIs_int i t
theorem mixKind_str (prog : Program) (w : World) (x : Str) (t : Tok) : (mixKind prog w).is (.inr x) (.str x t) = true := keyIs_str x t
end L2

namespace L2
open PySem PySem.Spec PyProof.Rows

/-- a value, without the heap -/
inductive V where
  | non | bl (b : Bool) | int (i : Int) | str (x : Str) | byt (b : Array UInt8) | flt (b : UInt64) | ref (a : Addr) | ty (n : String)
  deriving DecidableEq

def RelV : V → Value → Prop
  | .non, u => u = Value.none
  | .bl b, u => u = Value.bool b
  | .int i, u => ∃ t, u = Value.int i t
  | .str x, u => ∃ t, u = Value.str x t
  | .byt b, u => ∃ t, u = Value.bytes b t
  | .flt b, u => ∃ t, u = Value.float b t
  | .ref a, u => u = Value.ref a
  | .ty n, u => u = Value.type n

abbrev Vals : List V → List Value → Prop := Paired RelV
theorem Vals.length {xs : List V} {us : List Value} (r : Vals xs us) : xs.length = us.length := Paired.length r
theorem Vals.get : ∀ {xs : List V} {us : List Value} {i : Nat} {x : V}, Vals xs us → xs[i]? = some x → ∃ u, us[i]? = some u ∧ RelV x u
  | _, _, _, _, .nil, e => by simp at e
  | _, _, 0, _, .cons r _, e => by simp at e; subst e; exact ⟨_, rfl, r⟩
  | _, _, i + 1, x, .cons _ t, e => by
    obtain ⟨u, h1, h2⟩ := Vals.get (i := i) (x := x) t (by simpa using e)
    exact ⟨u, by simpa using h1, h2⟩
theorem Vals.set {x : V} {u : Value} (r : RelV x u) : ∀ {xs : List V} {us : List Value} (i : Nat), Vals xs us → Vals (xs.set i x) (us.set i u)
  | _, _, _, .nil => .nil
  | _, _, 0, .cons _ t => .cons r t
  | _, _, i + 1, .cons q t => .cons q (Vals.set r i t)
theorem Vals.append : ∀ {xs ys : List V} {us ws : List Value}, Vals xs us → Vals ys ws → Vals (xs ++ ys) (us ++ ws)
  | _, _, _, _, .nil, s => s
  | _, _, _, _, .cons r t, s => .cons r (Vals.append t s)
theorem Vals.take : ∀ {xs : List V} {us : List Value} (n : Nat), Vals xs us → Vals (xs.take n) (us.take n)
  | _, _, 0, _ => .nil
  | _, _, _ + 1, .nil => .nil
  | _, _, n + 1, .cons r t => .cons r (Vals.take n t)
theorem Vals.drop : ∀ {xs : List V} {us : List Value} (n : Nat), Vals xs us → Vals (xs.drop n) (us.drop n)
  | _, _, 0, r => r
  | _, _, _ + 1, .nil => .nil
  | _, _, n + 1, .cons _ t => Vals.drop n t

def RelO : Option V → Option Value → Prop
  | some v, some u => RelV v u
  | none, none => True
  | _, _ => False
def KV {κ : Type} : List (κ × V) → List (κ × Value) → Prop := Paired fun (p : κ × V) (q : κ × Value) => p.1 = q.1 ∧ RelV p.2 q.2

/-- a key of a dict (00_mix): an int or a text -/
def kV : Key → V
  | .inl i => .int i
  | .inr x => .str x

/-- what stands at a tracked address -/
inductive HO where
  /-- a list -/
  | lst (xs : List V)
  /-- a tuple (never changes) -/
  | tup (xs : List V)
  /-- a dict whose keys are ints and texts; one whose keys are tuples of ints and texts (the empty one is both) -/
  | dK (kvs : List (Key × V)) | dT (kvs : List (List Key × V))
  /-- a set of ints: its members, its size -/
  | set (S : Int → Bool) (n : Nat)
  /-- an instance of the class at C, its dict at dx, its attributes -/
  | ins (C dx : Addr) (fs : List (Str × V))
  /-- the dict of the instance at x -/
  | own (x : Addr)
  /-- the dict of an exception -/
  | xd (fs : List (Str × V))
  /-- a bound method, f of x -/
  | met (f x : Addr)
  /-- a range object lo, lo + 1, .. below hi -/
  | rng (lo hi : Int)
  /-- a thing that is known to the object (the script; a dict while a loop walks it): read, never written while it is so -/
  | frz (o : Obj) (u : HO)
  /-- a code object's table -/
  | tbl (ps : Array Value)
  /-- any other thing, by what is true of its one object (a def of one's own: SetO a S n := HO.ext fun h => ..) -/
  | ext (φ : Heap → Prop)

abbrev Hp := Addr → Option HO
def upd (H : Hp) (a : Addr) (o : HO) : Hp := fun b => if b = a then some o else H b
theorem upd_same {H : Hp} {a : Addr} {o : HO} : upd H a o a = some o := by unfold upd; rw [if_pos rfl]
theorem upd_ne {H : Hp} {a b : Addr} {o : HO} (h : b ≠ a) : upd H a o b = H b := by unfold upd; rw [if_neg h]
theorem upd_upd {H : Hp} {a : Addr} {o u : HO} : upd (upd H a o) a u = upd H a u := by
  funext b; unfold upd; split <;> rfl
/-- two objects of different content stand apart -/
theorem ne_of {H : Hp} {a b : Addr} {o u : HO} (h : H a = some o) (h' : H b = some u) (d : o ≠ u) : a ≠ b := by
  intro e; subst e; rw [h] at h'; exact d (Option.some.inj h')
theorem ne_of_none {H : Hp} {a b : Addr} {o : HO} (h : H a = some o) (h' : H b = none) : a ≠ b := by
  intro e; subst e; rw [h] at h'; cases h'

section
variable (P : Program) (w : World)
def ObjOk (H : Hp) (h : Heap) (a : Addr) : HO → Prop
  | .lst xs => xs.length ≤ sizeLine ∧ ∃ (its : List Value) (n : Nat), Vals xs its ∧ h.get? a = some { cls := .type "list", data := .seq its.toArray n }
  | .tup xs => xs.length ≤ sizeLine ∧ ∃ its : List Value, Vals xs its ∧ IsTup h a its.toArray
  | .dK kvs => kvs.length ≤ sizeLine ∧ (a == sysModules) = false ∧ ∃ vs, KV kvs vs ∧ h.DictOf (mixKind P w) a vs
  | .dT kvs => kvs.length ≤ sizeLine ∧ (a == sysModules) = false ∧ ∃ xs : List (List Key × Addr × Value),
      Paired (fun (p : List Key × V) (q : List Key × Addr × Value) => p.1 = q.1 ∧ H q.2.1 = some (.tup (p.1.map kV)) ∧ RelV p.2 q.2.2) kvs xs ∧
      ∃ o es ep, h.get? a = some o ∧ o.ExactDict ∧ o.data = .dict es ep ∧ es.toList = xs.map (entryOfKey (tupleKind (mixKind P w))) ∧ (xs.map (·.1)).Nodup
  | .set S n => h.SetOf (intKind P w) a S n
  | .ins C dx fs => H dx = some (.own a) ∧ fs.length ≤ 1000 ∧ dx ≠ a ∧ h.get? a = some (PySem.W.instObj C dx) ∧
      ∃ mA, h.Ns1 dx mA ∧ (∀ f, RelO (fs.lookup f) (mA f)) ∧ PySem.Within mA (fs.map (·.1))
  | .own _ => ∃ o, h.get? a = some o
  | .xd fs => ∃ mA, h.Ns1 a mA ∧ ∀ f, RelO (fs.lookup f) (mA f)
  | .rng lo hi => ∃ t u v, h.get? a = some { cls := .type "range", data := .fields #[.int lo t, .int hi u, .int 1 v] }
  | .frz o u => h.get? a = some o ∧ ObjOk H h a u
  | .tbl ps => h.get? a = some { cls := .none, data := .fields ps }
  | .met f x => h.get? a = some (PySem.W.methodObj (.ref f) (.ref x))
  | .ext φ => φ h ∧ (∃ o, h.get? a = some o) ∧ ∀ h1 h2 : Heap, φ h1 → (∀ o, h1.get? a = some o → h2.get? a = some o) → φ h2
/-- the abstract heap is held -/
def HOk (H : Hp) (h : Heap) : Prop := ∀ a o, H a = some o → ObjOk P w H h a o
end

section
variable {P : Program} {w : World} {H H' : Hp} {h h' : Heap} {a : Addr} {o : HO}
theorem ObjOk.lt (x : ObjOk P w H h a o) : a < h.objs.size := by
  cases o with
  | lst xs => obtain ⟨_, _, _, _, e⟩ := x; exact Heap.lt_size e
  | tup xs => obtain ⟨_, _, _, p⟩ := x; exact p.lt
  | dK kvs => obtain ⟨_, _, _, _, o, _, _, e, _⟩ := x; exact Heap.lt_size e
  | dT kvs => obtain ⟨_, _, _, _, o, _, _, e, _⟩ := x; exact Heap.lt_size e
  | set S n => obtain ⟨o, _, _, _, e, _⟩ := x; exact Heap.lt_size e
  | ins C dx fs => obtain ⟨_, _, _, e, _⟩ := x; exact Heap.lt_size e
  | own y => obtain ⟨_, e⟩ := x; exact Heap.lt_size e
  | xd fs => obtain ⟨_, ⟨_, _, _, e, _⟩, _⟩ := x; exact Heap.lt_size e
  | rng lo hi => obtain ⟨_, _, _, e⟩ := x; exact Heap.lt_size e
  | frz ob u => obtain ⟨e, _⟩ := x; exact Heap.lt_size e
  | tbl ps => exact Heap.lt_size (show h.get? a = some _ from x)
  | met f y => exact Heap.lt_size (show h.get? a = some _ from x)
  | ext φ => obtain ⟨_, ⟨_, e⟩, _⟩ := x; exact Heap.lt_size e
theorem Paired.mapP {α β : Type} {F G : α → β → Prop} : ∀ {l₁ : List α} {l₂ : List β}, Paired F l₁ l₂ → (∀ a b, F a b → G a b) → Paired G l₁ l₂
  | _, _, .nil, _ => .nil
  | _, _, .cons r t, f => .cons (f _ _ r) (Paired.mapP t f)
/-- what an object's description leans on: its own object, its own dict, the tuples -/
theorem ObjOk.stay (x : ObjOk P w H h a o) (k : ∀ b u, (b = a ∨ H b = some (.own a)) → h.get? b = some u → h'.get? b = some u)
    (ho : ∀ b, H b = some (.own a) → H' b = some (.own a)) (ht : ∀ b xs, H b = some (.tup xs) → H' b = some (.tup xs)) : ObjOk P w H' h' a o := by
  induction o with
  | lst xs => obtain ⟨z, its, n, r, e⟩ := x; exact ⟨z, its, n, r, k _ _ (.inl rfl) e⟩
  | tup xs => obtain ⟨z, its, r, ob, e, c⟩ := x; exact ⟨z, its, r, ob, k _ _ (.inl rfl) e, c⟩
  | dK kvs => obtain ⟨z, y, vs, r, ob, es, ep, e, c⟩ := x; exact ⟨z, y, vs, r, ob, es, ep, k _ _ (.inl rfl) e, c⟩
  | dT kvs =>
    obtain ⟨z, y, xs, r, ob, es, ep, e, c⟩ := x
    exact ⟨z, y, xs, Paired.mapP r fun p q z => ⟨z.1, ht _ _ z.2.1, z.2.2⟩, ob, es, ep, k _ _ (.inl rfl) e, c⟩
  | set S n => obtain ⟨ob, es, ep, t, e, c⟩ := x; exact ⟨ob, es, ep, t, k _ _ (.inl rfl) e, c⟩
  | ins C dx fs =>
    obtain ⟨d, z, ne, e, mA, ⟨od, es, ep, e2, c⟩, r⟩ := x
    exact ⟨ho _ d, z, ne, k _ _ (.inl rfl) e, mA, ⟨od, es, ep, k _ _ (.inr d) e2, c⟩, r⟩
  | own y => obtain ⟨ob, e⟩ := x; exact ⟨ob, k _ _ (.inl rfl) e⟩
  | xd fs => obtain ⟨mA, ⟨od, es, ep, e, c⟩, r⟩ := x; exact ⟨mA, ⟨od, es, ep, k _ _ (.inl rfl) e, c⟩, r⟩
  | rng lo hi => obtain ⟨t, u, v, e⟩ := x; exact ⟨t, u, v, k _ _ (.inl rfl) e⟩
  | frz ob u ih => obtain ⟨e, q⟩ := x; exact ⟨k _ _ (.inl rfl) e, ih q⟩
  | tbl ps =>
    have e : h.get? a = some { cls := .none, data := .fields ps } := x
    show h'.get? a = some { cls := .none, data := .fields ps }
    exact k a _ (.inl rfl) e
  | met f y =>
    have e : h.get? a = some (PySem.W.methodObj (.ref f) (.ref y)) := x
    show h'.get? a = some (PySem.W.methodObj (.ref f) (.ref y))
    exact k a _ (.inl rfl) e
  | ext φ => obtain ⟨p, ⟨o, e⟩, st⟩ := x; exact ⟨st _ _ p fun o q => k _ _ (.inl rfl) q, ⟨o, k _ _ (.inl rfl) e⟩, st⟩
theorem HOk.lt (x : HOk P w H h) (e : H a = some o) : a < h.objs.size := (x a o e).lt
theorem HOk.fresh (x : HOk P w H h) (e : h.objs.size ≤ a) : H a = none := by
  cases q : H a with
  | none => rfl
  | some u => exact absurd (Nat.lt_of_lt_of_le (x.lt q) e) (Nat.lt_irrefl _)
/-- every object of the heap is kept -/
theorem HOk.kept (x : HOk P w H h) (k : ∀ b u, h.get? b = some u → h'.get? b = some u) : HOk P w H h' := fun a o e =>
  (x a o e).stay (fun b u _ q => k b u q) (fun _ q => q) fun _ _ q => q
/-- a new object is laid and tracked -/
theorem HOk.laid (x : HOk P w H h) (k : ∀ b u, h.get? b = some u → h'.get? b = some u) (hp : h.objs.size ≤ a) (new : ObjOk P w (upd H a o) h' a o) : HOk P w (upd H a o) h' := fun b u e => by
  have hn := x.fresh hp
  by_cases hb : b = a
  · subst hb; rw [upd_same] at e; cases e; exact new
  · rw [upd_ne hb] at e
    exact (x b u e).stay (fun c v _ q => k c v q) (fun c q => by rw [upd_ne (ne_of_none q hn)]; exact q) fun c xs q => by rw [upd_ne (ne_of_none q hn)]; exact q
end

/-- what may be read as u: it is u, or a known u -/
def Rd (H : Hp) (a : Addr) (u : HO) : Prop := H a = some u ∨ ∃ o, H a = some (.frz o u)
theorem Rd.ok {P : Program} {w : World} {H : Hp} {h : Heap} {a : Addr} {u : HO} (r : Rd H a u) (x : HOk P w H h) : ObjOk P w H h a u := by
  rcases r with r | ⟨o, r⟩
  · exact x a u r
  · obtain ⟨_, q⟩ := x a _ r
    exact q
/-- what may be written -/
def Mut : Option HO → Prop
  | some (.lst _) => True
  | some (.dK _) => True
  | some (.dT _) => True
  | some (.set _ _) => True
  | some (.ins _ _ _) => True
  | some (.ext _) => True
  | _ => False
section
variable {P : Program} {w : World} {H : Hp} {h h' : Heap} {x e : Addr} {o' : HO}
/-- the object at e is changed: x itself, or the dict of the instance x -/
theorem HOk.write (ok : HOk P w H h) (mu : Mut (H x)) (he : e = x ∨ H e = some (.own x)) (k : ∀ b u, b ≠ e → h.get? b = some u → h'.get? b = some u) (heo : ∃ u, h'.get? e = some u)
    (new : ObjOk P w (upd H x o') h' x o') : HOk P w (upd H x o') h' := fun b u q => by
  have nown : ∀ c y, H c = some (.own y) → c ≠ x := fun c y r z => by subst z; rw [r] at mu; exact mu
  have ntup : ∀ c xs, H c = some (.tup xs) → c ≠ x := fun c xs r z => by subst z; rw [r] at mu; exact mu
  by_cases hb : b = x
  · subst hb; rw [upd_same] at q; cases q; exact new
  · rw [upd_ne hb] at q
    by_cases hbe : b = e
    · have q' : H b = some (.own x) := by
        rcases he with z | z
        · exact absurd (hbe.trans z) hb
        · rw [hbe]; exact z
      rw [q] at q'; cases q'
      obtain ⟨v, hv⟩ := heo
      exact ⟨v, by rw [hbe]; exact hv⟩
    · refine (ok b u q).stay (fun c v hc r => k c v ?_ r) (fun c r => by rw [upd_ne (nown c b r)]; exact r) fun c xs r => by rw [upd_ne (ntup c xs r)]; exact r
      rcases hc with rfl | hc
      · exact hbe
      · rintro rfl
        rcases he with z | z
        · exact nown c b hc z
        · rw [hc] at z; cases z; exact hb rfl
end

/-! ### kept unless tracked; of the frames at fs (the callers') the slots may change (an exception that passes writes there); of the records at ex (iterators) nothing is said -/
structure Un (fs ex : List Addr) (H H' : Hp) (h h' : Heap) : Prop where
  keep : ∀ b o, h.get? b = some o → H b = none → b ∉ fs → b ∉ ex → h'.get? b = some o
  slot : ∀ b o, h.get? b = some o → H b = none → b ∈ fs → b ∉ ex → ∃ sl, h'.get? b = some { o with slots := sl }
  free : ∀ b o, h.get? b = some o → H b = none → b ∉ ex → H' b = none
  there : ∀ b o, h.get? b = some o → b ∉ ex → ∃ o', h'.get? b = some o'
  tups : ∀ b xs, H b = some (.tup xs) → H' b = some (.tup xs)
  frzs : ∀ b o u, H b = some (.frz o u) → H' b = some (.frz o u)
  tbls : ∀ b ps, H b = some (.tbl ps) → ∃ more, H' b = some (.tbl (ps ++ more))
section
variable {fs fs' ex ex' : List Addr} {H H1 H2 : Hp} {h h1 h2 h' : Heap} {a x e : Addr} {o : HO}
theorem Un.any (u : Un fs ex H H1 h h1) {b : Addr} {ob : Obj} (q : h.get? b = some ob) (n : H b = none) (hx : b ∉ ex) : ∃ sl, h1.get? b = some { ob with slots := sl } := by
  by_cases hb : b ∈ fs
  · exact u.slot b ob q n hb hx
  · exact ⟨ob.slots, u.keep b ob q n hb hx⟩
theorem Un.kept (k : ∀ b u, h.get? b = some u → h'.get? b = some u) : Un fs ex H H h h' :=
  ⟨fun b ob q _ _ _ => k b ob q, fun b ob q _ _ _ => ⟨ob.slots, k b ob q⟩, fun _ _ _ n _ => n, fun b ob q _ => ⟨ob, k b ob q⟩, fun _ _ q => q, fun _ _ _ q => q, fun _ ps q => ⟨#[], by rw [q]; simp⟩⟩
theorem Un.refl : Un fs ex H H h h := Un.kept fun _ _ q => q
theorem Un.laid (k : ∀ b u, h.get? b = some u → h'.get? b = some u) (hp : h.objs.size ≤ a) (hn : H a = none) : Un fs ex H (upd H a o) h h' where
  keep := fun b u q _ _ _ => k b u q
  slot := fun b u q _ _ _ => ⟨u.slots, k b u q⟩
  free := fun b u q n _ => by rw [upd_ne (Nat.ne_of_lt (Nat.lt_of_lt_of_le (Heap.lt_size q) hp))]; exact n
  there := fun b u q _ => ⟨u, k b u q⟩
  tups := fun b xs q => by rw [upd_ne (ne_of_none q hn)]; exact q
  frzs := fun b u xs q => by rw [upd_ne (ne_of_none q hn)]; exact q
  tbls := fun b ps q => ⟨#[], by rw [upd_ne (ne_of_none q hn), q]; simp⟩
theorem Un.write (mu : Mut (H x)) (he : e = x ∨ H e = some (.own x)) (k : ∀ b u, b ≠ e → h.get? b = some u → h'.get? b = some u) (heo : ∃ u, h'.get? e = some u) : Un fs ex H (upd H x o) h h' := by
  have hx : ∀ b, H b = none → b ≠ x := fun b n z => by subst z; rw [n] at mu; exact mu
  have hb : ∀ b, H b = none → b ≠ e := fun b n z => by
    subst z
    rcases he with r | r
    · exact hx b n r
    · rw [n] at r; cases r
  have hm : ∀ b u, H b = some u → ¬ Mut (some u) → b ≠ x := fun b u q nm z => by subst z; rw [q] at mu; exact nm mu
  refine ⟨fun b u q n _ _ => k b u (hb b n) q, fun b u q n _ _ => ⟨u.slots, k b u (hb b n) q⟩, fun b u q n _ => by rw [upd_ne (hx b n)]; exact n, fun b u q _ => ?_,
    fun b xs q => by rw [upd_ne (hm b _ q fun z => z)]; exact q, fun b u xs q => by rw [upd_ne (hm b _ q fun z => z)]; exact q, fun b ps q => ⟨#[], by rw [upd_ne (hm b _ q fun z => z), q]; simp⟩⟩
  by_cases hbe : b = e
  · subst hbe; exact heo
  · exact ⟨u, k b u hbe q⟩
end

/-! ### the heap without what is tracked -/
def trk (h : Heap) (H : Hp) : List Addr := (List.range h.objs.size).filter fun a => (H a).isSome
def hidT (h : Heap) (H : Hp) : Heap := PySem.W.hideAll h (trk h H)
theorem hidT_size (h : Heap) (H : Hp) : (hidT h H).objs.size = h.objs.size := PySem.W.hideAll_size _ _
theorem hidT_get {h : Heap} {H : Hp} {b : Addr} {o : Obj} (e : h.get? b = some o) (n : H b = none) : (hidT h H).get? b = some o :=
  PySem.W.hideAll_get _ e fun hm => by
    have q : (H b).isSome = true := (List.mem_filter.mp hm).2
    rw [n] at q; simp at q
theorem of_hidT {h : Heap} {H : Hp} {b : Addr} {o : Obj} (e : (hidT h H).get? b = some o) : h.get? b = some o ∧ H b = none := by
  have e' : h.get? b = some o := PySem.W.of_hideAll (trk h H) e
  refine ⟨e', ?_⟩
  cases q : H b with
  | none => rfl
  | some x =>
    have hm : b ∈ trk h H := List.mem_filter.mpr ⟨List.mem_range.mpr (Heap.lt_size e'), by simp [q]⟩
    have z : (hidT h H).get? b = none := PySem.W.hideAll_none (trk h H) hm
    rw [z] at e; cases e

/-! ### OpenK's ledger, filled with every new object but one -/
end L2

namespace L2
open PySem PySem.Spec PyProof.Rows

/-- the module's facts, over the base: the heap at the law's entry without what is tracked there -/
structure Mod (K : PySem.W.Frag) (mg : Str → Option Value) (base : Heap) : Prop where
  kin : K.In base
  glob : base.Ns mainGlobals mg
  blt : ∃ mb, base.Ns builtinsNs mb ∧ ∀ x : Str, x ≠ "__name__" → mb x = bootBuiltins x
  nolimit : base.NoLimit

/-- the context: a def's body (or a comprehension's block) running. base: fixed through the whole law; s₀, H₀: the entry; outer: the frames whose slots others may change (a def's callers); stack: all frames that run;
   ex: iterators that were made ahead of the entry and are walked here (a comprehension's); fn: the names whose cells were made at the entry (a def: all; a comprehension's block: its own); calm: not within an except suite; pn: pins that every state bears; xe: what is wanted of an exception that leaves the code -/
structure Cx where
  prog : Program
  w : World
  K : PySem.W.Frag
  mg : Str → Option Value
  base : Heap
  A : Around
  N : List Str
  s₀ : Shared
  H₀ : Hp
  env : Env
  outer : List Env
  stack : List Env
  ex : List Addr
  fn : Str → Bool
  calm : Bool
  pn : List (Addr × Obj)
  xe : Value → Shared → Prop
/-- the callers' frames -/
def frs (l : List Env) : List Addr := l.filterMap (·.frame)
abbrev Cx.fs (X : Cx) : List Addr := frs X.outer

def Vis (sc : Scope) (x : Str) : Prop := sc.names.lookup x = some .local ∨ sc.names.lookup x = some .cell ∨ sc.names.lookup x = some .free
def Loc (sc : Scope) (x : Str) : Prop := sc.names.lookup x = some .local ∨ sc.names.lookup x = some .cell
def Look (env : Env) (h : Heap) (m : Str → Option Value) (x : Str) (u : Value) : Prop :=
  (env.kindOf x = some .local ∧ m x = some u) ∨ ((env.kindOf x = some .cell ∨ env.kindOf x = some .free) ∧ ∃ c, env.cells.lookup x = some c ∧ h.IsCell c (some u))

structure Cx.Ok (X : Cx) : Prop where
  mod : Mod X.K X.mg X.base
  kind : X.env.scope.kind = .function
  glob : X.env.globals = mainGlobals
  blt : X.env.builtins = builtinsNs
  above : X.s₀.heap.objs.size ≤ X.env.locals
  inj : ∀ x y c, X.env.cells.lookup x = some c → X.env.cells.lookup y = some c → x = y
  has : ∀ x, (X.env.kindOf x = some .cell ∨ X.env.kindOf x = some .free) → ∃ c, X.env.cells.lookup x = some c
  cab : ∀ x c, X.fn x = true → X.env.cells.lookup x = some c → X.s₀.heap.objs.size ≤ c
  hd : X.calm = true → X.A.handled = none
  frames : X.A.frames = some X.stack
  stk : X.stack = X.outer ∨ (X.stack = X.env :: X.outer ∧ X.env.frame = some X.env.locals)
  exf : ∀ b ∈ X.ex, b ≠ X.env.locals ∧ ∀ x c, X.env.cells.lookup x = some c → c ≠ b
  bs : ∀ b o, X.base.get? b = some o → X.s₀.heap.get? b = some o ∧ X.H₀ b = none
  bsz : X.base.objs.size ≤ X.s₀.heap.objs.size
  noex : ∀ b o, X.base.get? b = some o → b ∉ X.ex
  exfs : ∀ b ∈ X.ex, b ∉ X.fs
  funs : X.s₀.heap.FunFrames X.base X.outer
  frf : ∀ b ∈ X.fs, X.H₀ b = none

structure Inv (X : Cx) (pins : List (Addr × Obj)) (σ : List (Option V)) (H : Hp) (s : Shared) : Prop where
  ok : X.Ok
  os : s.os = X.s₀.os
  bare : AllBare s.gens
  base : Un X.fs X.ex X.H₀ H X.s₀.heap s.heap
  loc : ∃ m, s.heap.Ns X.env.locals m ∧ ∀ (i : Nat) (x : Str) (v : V), X.N[i]? = some x → σ[i]? = some (some v) → Vis X.env.scope x → ∃ u, RelV v u ∧ Look X.env s.heap m x u
  cell : ∀ x c, X.env.cells.lookup x = some c → ∃ v, s.heap.IsCell c v
  free : H X.env.locals = none
  freeC : ∀ x c, X.env.cells.lookup x = some c → H c = none
  pin : ∀ p ∈ X.pn ++ pins, s.heap.get? p.1 = some p.2 ∧ H p.1 = none ∧ p.1 ≠ X.env.locals ∧ p.1 ∉ X.fs ∧ ∀ v, p.2.data ≠ .cell v
  hok : HOk X.prog X.w H s.heap
  len : σ.length = X.N.length

section
variable {X : Cx} {pins : List (Addr × Obj)} {σ : List (Option V)} {H H' : Hp} {s : Shared} {h' : Heap}

theorem Cx.Ok.nofr (ok : X.Ok) {b : Addr} {o : Obj} (e : X.base.get? b = some o) : b ∉ X.fs := fun hb => by
  have := (ok.funs.mem hb).1
  rw [e] at this; cases this
theorem Inv.bs (I : Inv X pins σ H s) : ∀ b o, X.base.get? b = some o → s.heap.get? b = some o ∧ H b = none := fun b o e =>
  ⟨I.base.keep b o (I.ok.bs b o e).1 (I.ok.bs b o e).2 (I.ok.nofr e) (I.ok.noex b o e), I.base.free b o (I.ok.bs b o e).1 (I.ok.bs b o e).2 (I.ok.noex b o e)⟩
theorem Inv.bk (I : Inv X pins σ H s) : ∀ b o, X.base.get? b = some o → s.heap.get? b = some o := fun b o e => (I.bs b o e).1
theorem Inv.mod (I : Inv X pins σ H s) : Mod X.K X.mg X.base := I.ok.mod
theorem Inv.kIn (I : Inv X pins σ H s) : X.K.In s.heap := I.ok.mod.kin.keeps I.bk
/-- the frame over the base: for OpenK's rules (K.In X.base is I.mod.kin) -/
theorem Inv.fr (I : Inv X pins σ H s) : ∃ m, Fr X.base X.env.locals s.heap m :=
  let ⟨m, hn, _⟩ := I.loc
  ⟨m, hn, I.bk, Nat.le_trans I.ok.bsz I.ok.above⟩
theorem Inv.lt (I : Inv X pins σ H s) : X.env.locals < s.heap.objs.size := let ⟨_, hn, _⟩ := I.loc; hn.lt
theorem Inv.sz (I : Inv X pins σ H s) : X.s₀.heap.objs.size ≤ s.heap.objs.size := Nat.le_trans I.ok.above (Nat.le_of_lt I.lt)
theorem Inv.nofs (I : Inv X pins σ H s) {a : Addr} (h : s.heap.objs.size ≤ a) : a ∉ X.fs := fun hb => by
  obtain ⟨_, o, ho, _⟩ := I.ok.funs.mem hb
  exact absurd (Nat.lt_of_lt_of_le (Heap.lt_size ho) (Nat.le_trans I.sz h)) (Nat.lt_irrefl _)
theorem Inv.cne (I : Inv X pins σ H s) : ∀ x c, X.env.cells.lookup x = some c → c ≠ X.env.locals := fun x c e z => by
  obtain ⟨v, o, ho, hd⟩ := I.cell x c e
  obtain ⟨m, ⟨o', es, ep, ho', hd', _⟩, _⟩ := I.loc
  rw [z, ho'] at ho; cases ho; rw [hd'] at hd; cases hd
theorem Inv.funs (I : Inv X pins σ H s) : s.heap.FunFrames X.base X.outer := by
  have all : ∀ (l : List Env), (∀ b ∈ frs l, b ∈ X.fs) → X.s₀.heap.FunFrames X.base l → s.heap.FunFrames X.base l := by
    intro l
    induction l with
    | nil => intro _ _; trivial
    | cons env r ih =>
      intro hs hl
      obtain ⟨hk, ⟨L, o, hf, hn, ho, hd⟩, hr⟩ := hl
      have hL : L ∈ X.fs := hs L (by unfold frs; rw [List.filterMap_cons, hf]; exact List.mem_cons_self)
      obtain ⟨sl, e⟩ := I.base.slot L o ho (I.ok.frf L hL) hL fun z => I.ok.exfs L z hL
      exact ⟨hk, ⟨L, _, hf, hn, e, hd⟩, ih (fun b hb => hs b (by unfold frs; rw [List.filterMap_cons, hf]; exact List.mem_cons_of_mem _ hb)) hr⟩
  exact all X.outer (fun _ hb => hb) I.ok.funs

/-- the frames that run, for a call -/
theorem Inv.stack (I : Inv X pins σ H s) : s.heap.FunFrames X.base X.stack := by
  rcases I.ok.stk with e | ⟨e, hf⟩
  · rw [e]; exact I.funs
  · rw [e]
    obtain ⟨m, hn, _⟩ := I.loc
    refine .cons (by rw [I.ok.kind]; decide) hf hn ?_ I.funs
    exact Heap.get?_none_of_le (Nat.le_trans I.ok.bsz I.ok.above)
theorem Inv.stkSub (I : Inv X pins σ H s) : ∀ b ∈ frs X.stack, b ∈ X.env.locals :: X.fs := fun b hb => by
  rcases I.ok.stk with e | ⟨e, hf⟩
  · rw [e] at hb; exact List.mem_cons_of_mem _ hb
  · rw [e] at hb
    unfold frs at hb
    rw [List.filterMap_cons, hf] at hb
    exact hb
theorem Inv.stkFree (I : Inv X pins σ H s) : ∀ b ∈ frs X.stack, H b = none := fun b hb => by
  rcases List.mem_cons.mp (I.stkSub b hb) with e | hb
  · rw [e]; exact I.free
  · obtain ⟨_, o, ho, _⟩ := I.ok.funs.mem hb
    exact I.base.free b o ho (I.ok.frf b hb) fun z => I.ok.exfs b z hb

/-- THE STEP: the untracked objects but the frame and the records at ch are kept (the callers' frames up to slots), the frame's map is kept, the new abstract heap is held -/
theorem Inv.step {g' : Array GenState} {t' : Nat} {d' : Drawn} {ch : List Addr} (I : Inv X pins σ H s)
    (hch : ∀ b ∈ ch, (b ∈ X.ex ∨ X.s₀.heap.objs.size ≤ b) ∧ b ≠ X.env.locals ∧ (∀ x c, X.env.cells.lookup x = some c → c ≠ b) ∧ ∀ p ∈ X.pn ++ pins, p.1 ≠ b)
    (keep : ∀ b o, b ≠ X.env.locals → b ∉ X.fs → b ∉ ch → s.heap.get? b = some o → H b = none → h'.get? b = some o)
    (slot : ∀ b o, b ≠ X.env.locals → b ∈ X.fs → b ∉ ch → s.heap.get? b = some o → H b = none → ∃ sl, h'.get? b = some { o with slots := sl }) (free : ∀ b o, b ∉ ch → s.heap.get? b = some o → H b = none → H' b = none)
    (there : ∀ b o, b ∉ ch → s.heap.get? b = some o → ∃ o', h'.get? b = some o')
    (tups : ∀ b xs, H b = some (.tup xs) → H' b = some (.tup xs)) (frzs : ∀ b o u, H b = some (.frz o u) → H' b = some (.frz o u)) (tbls : ∀ b ps, H b = some (.tbl ps) → ∃ more, H' b = some (.tbl (ps ++ more)))
    (ns : ∀ m, s.heap.Ns X.env.locals m → h'.Ns X.env.locals m) (hok : HOk X.prog X.w H' h') (hg : AllBare g') :
    Inv X pins σ H' { s with heap := h', gens := g', drawn := d', toks := t' } := by
  have neL : ∀ b o, X.s₀.heap.get? b = some o → b ≠ X.env.locals := fun b o e => Nat.ne_of_lt (Nat.lt_of_lt_of_le (Heap.lt_size e) I.ok.above)
  have neC : ∀ b o, X.s₀.heap.get? b = some o → b ∉ X.ex → b ∉ ch := fun b o e hx hb => by
    rcases (hch b hb).1 with z | z
    · exact hx z
    · exact absurd (Nat.lt_of_lt_of_le (Heap.lt_size e) z) (Nat.lt_irrefl _)
  have cellK : ∀ x c, X.env.cells.lookup x = some c → ∀ v, s.heap.IsCell c v → h'.IsCell c v := fun x c e v ⟨o, ho, hd⟩ => by
    have nch : c ∉ ch := fun z => (hch c z).2.2.1 x c e rfl
    by_cases hc : c ∈ X.fs
    · obtain ⟨sl, q⟩ := slot c o (I.cne x c e) hc nch ho (I.freeC x c e)
      exact ⟨_, q, hd⟩
    · exact ⟨o, keep c o (I.cne x c e) hc nch ho (I.freeC x c e), hd⟩
  refine ⟨I.ok, I.os, hg, ⟨fun b o e n hb hx => ?_, fun b o e n hb hx => ?_, fun b o e n hx => ?_, fun b o e hx => ?_, fun b xs e => tups b xs (I.base.tups b xs e), fun b o xs e => frzs b o xs (I.base.frzs b o xs e), fun b ps e => ?_⟩, ?_, fun x c e => ?_, ?_, fun x c e => ?_, fun p hp => ?_, hok, I.len⟩
  · exact keep b o (neL b o e) hb (neC b o e hx) (I.base.keep b o e n hb hx) (I.base.free b o e n hx)
  · obtain ⟨sl, e1⟩ := I.base.slot b o e n hb hx
    obtain ⟨sl', e2⟩ := slot b _ (neL b o e) hb (neC b o e hx) e1 (I.base.free b o e n hx)
    exact ⟨sl', e2⟩
  · obtain ⟨o', e1⟩ := I.base.there b o e hx
    exact free b o' (neC b o e hx) e1 (I.base.free b o e n hx)
  · obtain ⟨o', e1⟩ := I.base.there b o e hx
    exact there b o' (neC b o e hx) e1
  · obtain ⟨m1, e1⟩ := I.base.tbls b ps e
    obtain ⟨m2, e2⟩ := tbls b _ e1
    exact ⟨m1 ++ m2, by rw [e2, Array.append_assoc]⟩
  · obtain ⟨m, hn, hl⟩ := I.loc
    refine ⟨m, ns m hn, fun i x v e1 e2 e3 => ?_⟩
    obtain ⟨u, r, l⟩ := hl i x v e1 e2 e3
    refine ⟨u, r, ?_⟩
    rcases l with l | ⟨k, c, e, z⟩
    · exact .inl l
    · exact .inr ⟨k, c, e, cellK x c e _ z⟩
  · obtain ⟨v, z⟩ := I.cell x c e
    exact ⟨v, cellK x c e v z⟩
  · obtain ⟨m, ⟨o, _, _, ho, _⟩, _⟩ := I.loc
    exact free _ o (fun z => (hch _ z).2.1 rfl) ho I.free
  · obtain ⟨v, o, ho, hd⟩ := I.cell x c e
    exact free c o (fun z => (hch c z).2.2.1 x c e rfl) ho (I.freeC x c e)
  · obtain ⟨e, n, ne, nf, d⟩ := I.pin p hp
    have nch : p.1 ∉ ch := fun z => (hch p.1 z).2.2.2 p hp rfl
    exact ⟨keep p.1 p.2 ne nf nch e n, free p.1 p.2 nch e n, ne, nf, d⟩
/-- .. where the frame's own object is kept too -/
theorem Inv.un {t' : Nat} (I : Inv X pins σ H s) (u : Un X.fs [] H H' s.heap h') (hok : HOk X.prog X.w H' h') : Inv X pins σ H' { s with heap := h', toks := t' } := by
  obtain ⟨m, ⟨o, es, ep, ho, r⟩, _⟩ := id I.loc
  obtain ⟨sl, hL⟩ := u.any ho I.free (by simp)
  exact I.step (g' := s.gens) (d' := s.drawn) (ch := []) (fun _ z => nomatch z) (fun b o _ hb _ e n => u.keep b o e n hb (by simp)) (fun b o _ hb _ e n => u.slot b o e n hb (by simp)) (fun b o _ e n => u.free b o e n (by simp)) (fun b o _ e => u.there b o e (by simp)) u.tups u.frzs u.tbls (fun m' hm => by
    obtain ⟨o', es', ep', ho', r'⟩ := hm
    rw [ho] at ho'; cases ho'
    exact ⟨_, es', ep', hL, r'⟩) hok I.bare
/-- behind a call (or a comprehension's block): the slots of this frame may have changed too, the records at ch may have turned -/
theorem Inv.call {g' : Array GenState} {t' : Nat} {d' : Drawn} {ch : List Addr} (I : Inv X pins σ H s) (u : Un (frs X.stack) ch H H' s.heap h') (hok : HOk X.prog X.w H' h') (hg : AllBare g')
    (hch : ∀ b ∈ ch, (b ∈ X.ex ∨ X.s₀.heap.objs.size ≤ b) ∧ b ≠ X.env.locals ∧ (∀ x c, X.env.cells.lookup x = some c → c ≠ b) ∧ ∀ p ∈ X.pn ++ pins, p.1 ≠ b) :
    Inv X pins σ H' { s with heap := h', gens := g', drawn := d', toks := t' } := by
  obtain ⟨m, ⟨o, es, ep, ho, r⟩, _⟩ := id I.loc
  obtain ⟨sl, hL⟩ := u.any ho I.free fun z => (hch _ z).2.1 rfl
  exact I.step (ch := ch) hch (fun b o hL hb hc e n => u.keep b o e n (fun z => (List.mem_cons.mp (I.stkSub b z)).elim hL hb) hc) (fun b o _ _ hc e n => u.any e n hc) (fun b o hc e n => u.free b o e n hc) (fun b o hc e => u.there b o e hc) u.tups u.frzs u.tbls (fun m' hm => by
    obtain ⟨o', es', ep', ho', r'⟩ := hm
    rw [ho] at ho'; cases ho'
    exact ⟨_, es', ep', hL, r'⟩) hok hg
/-- an untracked record of ours (an iterator) has turned -/
theorem Inv.turned {t' : Nat} {it : Addr} (I : Inv X pins σ H s) (k : ∀ b o, b ≠ it → s.heap.get? b = some o → h'.get? b = some o) (hn : H it = none) (hL : it ≠ X.env.locals)
    (h1 : it ∈ X.ex ∨ X.s₀.heap.objs.size ≤ it) (h2 : ∀ x c, X.env.cells.lookup x = some c → c ≠ it) (h3 : ∀ p ∈ X.pn ++ pins, p.1 ≠ it) : Inv X pins σ H { s with heap := h', toks := t' } := by
  have nit : ∀ b u, H b = some u → b ≠ it := fun b u e z => by rw [z, hn] at e; cases e
  refine I.step (g' := s.gens) (d' := s.drawn) (ch := [it]) (fun b hb => ?_) (fun b o _ _ hc e _ => k b o (fun z => hc (by simp [z])) e) (fun b o _ _ hc e _ => ⟨o.slots, k b o (fun z => hc (by simp [z])) e⟩) (fun _ _ _ _ n => n)
    (fun b o hc e => ⟨o, k b o (fun z => hc (by simp [z])) e⟩) (fun _ _ e => e) (fun _ _ _ e => e) (fun b ps e => ⟨#[], by rw [e]; simp⟩) (fun m hm => ?_) (fun b u e => ?_) I.bare
  · have e : b = it := by simpa using hb
    subst e
    exact ⟨h1, hL, h2, h3⟩
  · obtain ⟨o, es, ep, ho, r⟩ := hm
    exact ⟨o, es, ep, k _ o (Ne.symm hL) ho, r⟩
  · refine (I.hok b u e).stay (fun c v hc q => k c v ?_ q) (fun _ q => q) fun _ _ q => q
    rcases hc with z | z
    · rw [z]; exact nit b u e
    · exact nit c _ z
theorem Inv.tok (I : Inv X pins σ H s) (t : Nat) : Inv X pins σ H { s with toks := t } := I.un (h' := s.heap) (t' := t) Un.refl I.hok
/-- all objects kept -/
theorem Inv.kept {t' : Nat} (I : Inv X pins σ H s) (k : ∀ b u, s.heap.get? b = some u → h'.get? b = some u) : Inv X pins σ H { s with heap := h', toks := t' } := I.un (Un.kept k) (I.hok.kept k)
/-- a new object laid and tracked -/
theorem Inv.laid {a : Addr} {o : HO} {t' : Nat} (I : Inv X pins σ H s) (k : ∀ b u, s.heap.get? b = some u → h'.get? b = some u) (hp : s.heap.objs.size ≤ a) (new : ObjOk X.prog X.w (upd H a o) h' a o) :
    Inv X pins σ (upd H a o) { s with heap := h', toks := t' } := I.un (Un.laid k hp (I.hok.fresh hp)) (I.hok.laid k hp new)
/-- an object written -/
theorem Inv.write {x e : Addr} {o : HO} {t' : Nat} (I : Inv X pins σ H s) (mu : Mut (H x)) (he : e = x ∨ H e = some (.own x)) (k : ∀ b u, b ≠ e → s.heap.get? b = some u → h'.get? b = some u) (heo : ∃ u, h'.get? e = some u)
    (new : ObjOk X.prog X.w (upd H x o) h' x o) : Inv X pins σ (upd H x o) { s with heap := h', toks := t' } := I.un (Un.write mu he k heo) (I.hok.write mu he k heo new)
theorem Inv.pins_of {pins' : List (Addr × Obj)} (I : Inv X pins σ H s) (h : ∀ p ∈ pins', s.heap.get? p.1 = some p.2 ∧ H p.1 = none ∧ p.1 ≠ X.env.locals ∧ p.1 ∉ X.fs ∧ ∀ v, p.2.data ≠ .cell v) : Inv X pins' σ H s :=
  ⟨I.ok, I.os, I.bare, I.base, I.loc, I.cell, I.free, I.freeC, fun p hp => (List.mem_append.mp hp).elim (fun z => I.pin p (List.mem_append_left _ z)) (h p), I.hok, I.len⟩

theorem nodup_ix {N : List Str} (hN : N.Nodup) {i j : Nat} {x : Str} (a : N[i]? = some x) (b : N[j]? = some x) : i = j := by
  obtain ⟨h1, e1⟩ := List.getElem?_eq_some_iff.mp a
  obtain ⟨h2, e2⟩ := List.getElem?_eq_some_iff.mp b
  exact (List.getElem_inj hN).mp (e1.trans e2.symm)

/-- a name is stored; what changed -/
theorem store_ok2 {M : Model} {A : Around} {E : Value → Shared → Prop} {i : Nat} {x : Str} {v : V} {u : Value} {Q : Unit → Shared → Prop} (I : Inv X pins σ H s) (hN : X.N.Nodup) (hi : X.N[i]? = some x) (hx : Loc X.env.scope x) (r : RelV v u)
    (h : ∀ s', Inv X pins (σ.set i (some v)) H s' → (∃ a, Heap.SameBut a s.heap s'.heap ∧ (a = X.env.locals ∨ X.env.cells.lookup x = some a)) → Q () s') (hf : X.fn x = true ∨ X.env.scope.names.lookup x = some .local := by first | exact .inl rfl | exact .inr rfl | assumption) : wpAny M A (storeName X.env x u) Q E s := by
  obtain ⟨m, hn, hl⟩ := id I.loc
  have hcls : (X.env.scope.kind == .class || (X.env.scope.kind == .module && X.env.locals != X.env.globals)) = false := by rw [I.ok.kind]; rfl
  have hiσ : i < σ.length := by rw [I.len]; exact (List.getElem?_eq_some_iff.mp hi).1
  have cne := I.cne
  have tracked : ∀ {a : Addr} {h' : Heap}, (∃ o, s.heap.get? a = some o ∧ H a = none) → Heap.SameBut a s.heap h' → HOk X.prog X.w H h' := fun {a h'} ha hs b ob e => by
    obtain ⟨_, _, hfree⟩ := ha
    refine (I.hok b ob e).stay (fun c w' hc q => (hs.2 c ?_).trans q) (fun _ q => q) fun _ _ q => q
    rintro rfl
    rcases hc with rfl | hc
    · rw [hfree] at e; cases e
    · rw [hfree] at hc; cases hc
  rcases hx with hk | hk
  · refine wpAny_storeName_local hk hn (fun h' hn' hs => ?_) hcls
    obtain ⟨oL, _, _, hoL, _⟩ := id hn
    refine h _ ⟨I.ok, I.os, I.bare, ⟨fun b o e n hb hx => ?_, fun b o e n hb hx => ?_, I.base.free, fun b o e hx => ?_, I.base.tups, I.base.frzs, I.base.tbls⟩, ⟨_, hn', fun j y v' e1 e2 e3 => ?_⟩, fun y c e => ?_, I.free, I.freeC, fun p hp => ?_, tracked ⟨oL, hoL, I.free⟩ hs, by simpa using I.len⟩ ⟨_, hs, .inl rfl⟩
    · exact (hs.2 b (Nat.ne_of_lt (Nat.lt_of_lt_of_le (Heap.lt_size e) I.ok.above))).trans (I.base.keep b o e n hb hx)
    · obtain ⟨sl, e1⟩ := I.base.slot b o e n hb hx
      exact ⟨sl, (hs.2 b (Nat.ne_of_lt (Nat.lt_of_lt_of_le (Heap.lt_size e) I.ok.above))).trans e1⟩
    · obtain ⟨o', e1⟩ := I.base.there b o e hx
      exact ⟨o', (hs.2 b (Nat.ne_of_lt (Nat.lt_of_lt_of_le (Heap.lt_size e) I.ok.above))).trans e1⟩
    · by_cases hj : j = i
      · subst hj
        rw [hi] at e1; cases e1
        rw [List.getElem?_set_self hiσ] at e2
        cases e2
        exact ⟨u, r, .inl ⟨hk, by simp⟩⟩
      · rw [List.getElem?_set_ne (Ne.symm hj)] at e2
        obtain ⟨u', r', q⟩ := hl j y v' e1 e2 e3
        refine ⟨u', r', ?_⟩
        rcases q with ⟨k, e⟩ | ⟨k, c, e, z⟩
        · refine .inl ⟨k, ?_⟩
          have : y ≠ x := fun e => hj (nodup_ix hN e1 (e ▸ hi))
          simp [this, e]
        · exact .inr ⟨k, c, e, z.sameBut hs (cne y c e)⟩
    · obtain ⟨w', z⟩ := I.cell y c e
      exact ⟨w', z.sameBut hs (cne y c e)⟩
    · obtain ⟨e, n, ne, nf, d⟩ := I.pin p hp
      exact ⟨(hs.2 p.1 ne).trans e, n, ne, nf, d⟩
  · have hfn : X.fn x = true := by
      rcases hf with z | z
      · exact z
      · rw [z] at hk; cases hk
    obtain ⟨c, hc⟩ := I.ok.has x (.inl hk)
    obtain ⟨w', z⟩ := I.cell x c hc
    refine wpAny_storeName_cell I.ok.kind hk hc z (fun h' hc' hs => ?_)
    obtain ⟨oc, hoc, hocd⟩ := id z
    refine h { s with heap := h' } ⟨I.ok, I.os, I.bare, ⟨fun b o e n hb hx => ?_, fun b o e n hb hx => ?_, I.base.free, fun b o e hx => ?_, I.base.tups, I.base.frzs, I.base.tbls⟩, ⟨m, hn.sameBut hs (Ne.symm (cne x c hc)), fun j y v' e1 e2 e3 => ?_⟩, fun y c' e => ?_, I.free, I.freeC, fun p hp => ?_, tracked ⟨oc, hoc, I.freeC x c hc⟩ hs, by simpa using I.len⟩ ⟨c, hs, .inr hc⟩
    · exact (hs.2 b (Nat.ne_of_lt (Nat.lt_of_lt_of_le (Heap.lt_size e) (I.ok.cab x c hfn hc)))).trans (I.base.keep b o e n hb hx)
    · obtain ⟨sl, e1⟩ := I.base.slot b o e n hb hx
      exact ⟨sl, (hs.2 b (Nat.ne_of_lt (Nat.lt_of_lt_of_le (Heap.lt_size e) (I.ok.cab x c hfn hc)))).trans e1⟩
    · obtain ⟨o', e1⟩ := I.base.there b o e hx
      exact ⟨o', (hs.2 b (Nat.ne_of_lt (Nat.lt_of_lt_of_le (Heap.lt_size e) (I.ok.cab x c hfn hc)))).trans e1⟩
    · by_cases hj : j = i
      · subst hj
        rw [hi] at e1; cases e1
        rw [List.getElem?_set_self hiσ] at e2
        cases e2
        exact ⟨u, r, .inr ⟨.inl hk, c, hc, hc'⟩⟩
      · rw [List.getElem?_set_ne (Ne.symm hj)] at e2
        obtain ⟨u', r', q⟩ := hl j y v' e1 e2 e3
        refine ⟨u', r', ?_⟩
        rcases q with q | ⟨k, c', e, z'⟩
        · exact .inl q
        · refine .inr ⟨k, c', e, z'.sameBut hs ?_⟩
          rintro rfl
          exact hj (nodup_ix hN e1 (I.ok.inj _ _ _ e hc ▸ hi))
    · by_cases hcc : c' = c
      · subst hcc; exact ⟨_, hc'⟩
      · obtain ⟨w2, z2⟩ := I.cell y c' e
        exact ⟨w2, z2.sameBut hs hcc⟩
    · obtain ⟨e, n, ne, nf, d⟩ := I.pin p hp
      refine ⟨(hs.2 p.1 ?_).trans e, n, ne, nf, d⟩
      intro q
      rw [q, hoc] at e
      have q' : oc = p.2 := Option.some.inj e
      exact d w' (by rw [← q']; exact hocd)
theorem store_ok {M : Model} {A : Around} {E : Value → Shared → Prop} {i : Nat} {x : Str} {v : V} {u : Value} {Q : Unit → Shared → Prop} (I : Inv X pins σ H s) (hN : X.N.Nodup) (hi : X.N[i]? = some x) (hx : Loc X.env.scope x) (r : RelV v u)
    (h : ∀ s', Inv X pins (σ.set i (some v)) H s' → Q () s') (hf : X.fn x = true ∨ X.env.scope.names.lookup x = some .local := by first | exact .inl rfl | exact .inr rfl | assumption) : wpAny M A (storeName X.env x u) Q E s :=
  store_ok2 I hN hi hx r (fun s' I' _ => h s' I') hf
/-- behind a call or a block, the state as it is -/
theorem Inv.call' {s' : Shared} {ch : List Addr} (I : Inv X pins σ H s) (ho : s'.os = s.os) (u : Un (frs X.stack) ch H H' s.heap s'.heap) (hok : HOk X.prog X.w H' s'.heap) (hg : AllBare s'.gens)
    (hch : ∀ b ∈ ch, (b ∈ X.ex ∨ X.s₀.heap.objs.size ≤ b) ∧ b ≠ X.env.locals ∧ (∀ x c, X.env.cells.lookup x = some c → c ≠ b) ∧ ∀ p ∈ X.pn ++ pins, p.1 ≠ b) : Inv X pins σ H' s' := by
  obtain ⟨h', g', d', t', o'⟩ := s'
  have e : o' = s.os := ho
  subst e
  exact I.call (g' := g') (t' := t') (d' := d') u hok hg hch
end

/-! ### the judgements -/
/-- an exception: its class, its own dict's address (where it has one), the abstract heap behind it -/
abbrev XK := Value → Option Addr → Hp → Prop
abbrev St := List (Option V)
abbrev VK := V → Hp → Prop
/-- an expression's reading; a test's; an argument list's -/
abbrev TE := St → Hp → VK → Prop
abbrev TT := St → Hp → (Bool → Hp → Prop) → Prop
abbrev TA := St → Hp → (List V → Hp → Prop) → Prop
/-- what is wanted behind a statement -/
structure Ends where
  nx : St → Hp → Prop
  rt : VK
  bk : St → Hp → Prop := fun _ _ => False
  ct : St → Hp → Prop := fun _ _ => False
abbrev TS := Ends → St → Hp → Prop

def EP (X : Cx) (pins : List (Addr × Obj)) (σ : St) (Q : VK) (u : Value) (s' : Shared) : Prop := ∃ v H', Inv X pins σ H' s' ∧ RelV v u ∧ Q v H'
def TP (X : Cx) (pins : List (Addr × Obj)) (σ : St) (Q : Bool → Hp → Prop) (b : Bool) (s' : Shared) : Prop := ∃ H', Inv X pins σ H' s' ∧ Q b H'
def AP (X : Cx) (pins : List (Addr × Obj)) (σ : St) (Q : List V → Hp → Prop) (us : List Value) (s' : Shared) : Prop := ∃ vs H', Inv X pins σ H' s' ∧ Vals vs us ∧ Q vs H'
def SP (X : Cx) (pins : List (Addr × Obj)) (D : Ends) (f : Flow) (s' : Shared) : Prop :=
  match f with
  | .next => ∃ σ' H', Inv X pins σ' H' s' ∧ D.nx σ' H'
  | .brk => ∃ σ' H', Inv X pins σ' H' s' ∧ D.bk σ' H'
  | .cont => ∃ σ' H', Inv X pins σ' H' s' ∧ D.ct σ' H'
  | .ret u => ∃ v σ' H', Inv X pins σ' H' s' ∧ RelV v u ∧ D.rt v H'

def PE (X : Cx) (e : Expr) (t : TE) : Prop :=
  ∀ (pins : List (Addr × Obj)) (s : Shared) (σ : St) (H : Hp) (Q : VK), Inv X pins σ H s → t σ H Q → wpAny (model X.prog X.w) X.A (eval e X.env) (EP X pins σ Q) X.xe s
def PT (X : Cx) (e : Expr) (t : TT) : Prop :=
  ∀ (pins : List (Addr × Obj)) (s : Shared) (σ : St) (H : Hp) (Q : Bool → Hp → Prop), Inv X pins σ H s → t σ H Q → wpAny (model X.prog X.w) X.A (isTrue e X.env (eval e X.env)) (TP X pins σ Q) X.xe s
/-- a test whatever its 'whole' is (and, or) -/
def PW (X : Cx) (e : Expr) (t : TT) : Prop :=
  ∀ (whole : Sem Value) (pins : List (Addr × Obj)) (s : Shared) (σ : St) (H : Hp) (Q : Bool → Hp → Prop), Inv X pins σ H s → t σ H Q → wpAny (model X.prog X.w) X.A (isTrue e X.env whole) (TP X pins σ Q) X.xe s
theorem PW.pt {X : Cx} {e : Expr} {t : TT} (h : PW X e t) : PT X e t := h _
/-- an argument list (no star), from the left -/
def PA (X : Cx) (es : List Expr) (t : TA) : Prop :=
  ∀ (pos : Pos) (pins : List (Addr × Obj)) (s : Shared) (σ : St) (H : Hp) (Q : List V → Hp → Prop), Inv X pins σ H s → t σ H Q → wpAny (model X.prog X.w) X.A (spliced (backTo pos (starEach es X.env))) (AP X pins σ Q) X.xe s
def PS (X : Cx) (st : Stmt) (t : TS) : Prop :=
  ∀ (pins : List (Addr × Obj)) (s : Shared) (σ : St) (H : Hp) (D : Ends), Inv X pins σ H s → t D σ H → wpAny (model X.prog X.w) X.A (exec st X.env) (SP X pins D) X.xe s
def PSs (X : Cx) (st : List Stmt) (t : TS) : Prop :=
  ∀ (pins : List (Addr × Obj)) (s : Shared) (σ : St) (H : Hp) (D : Ends), Inv X pins σ H s → t D σ H → wpAny (model X.prog X.w) X.A (execs st X.env) (SP X pins D) X.xe s
/-- weaken the end -/
theorem thn {α : Type} {t : Sem α} {Q Q' : α → Shared → Prop} {M : Model} {A : Around} {E : Value → Shared → Prop} {s : Shared} (h : wpAny M A t Q E s) (hQ : ∀ a s, Q a s → Q' a s) : wpAny M A t Q' E s := wpAny_mono h hQ fun _ _ x => x
end L2

namespace L2
open PySem PySem.Spec PyProof.Rows
section
variable {X : Cx}


/-! ### names and constants -/
def tVar (i : Nat) : TE := fun σ H Q => ∃ v, σ[i]? = some (some v) ∧ Q v H
def tC (v : V) : TE := fun _ H Q => Q v H
theorem pe_var {i : Nat} {x : Str} {pos : Pos} (hN : X.N[i]? = some x) (hv : Vis X.env.scope x) (hd : (x == ("__debug__" : Str)) = false := by decide) (hcd : (x == ("__classdict__" : Str)) = false := by decide) : PE X (.Name x pos) (tVar i) := by
  intro pins s σ H Q I h
  obtain ⟨v, e, h⟩ := h
  obtain ⟨m, hn, hl⟩ := I.loc
  obtain ⟨u, r, l⟩ := hl i x v hN e hv
  have fin : EP X pins σ Q u s := ⟨v, H, I, r, h⟩
  rcases l with ⟨hk, hm⟩ | ⟨hk, c, hc, hcell⟩
  · exact wpAny_Name (wpAny_loadName_local I.ok.kind hk hn hm fin) hd
  · rcases hk with hk | hk
    · exact wpAny_Name (wpAny_loadName_cell I.ok.kind hk hc hcell fin) hd
    · exact wpAny_Name (wpAny_loadName_free I.ok.kind hk hc hcell fin hcd) hd
theorem pe_int {i j pos} : PE X (.Constant (.int i) j pos) (tC (.int i)) := fun _ _ _ H _ I h => wpAny_Constant_int ⟨.int i, H, I.tok _, ⟨_, rfl⟩, h⟩
theorem pe_bl {b j pos} : PE X (.Constant (.bool b) j pos) (tC (.bl b)) := fun _ _ _ H _ I h => Constant_bool ⟨.bl b, H, I, rfl, h⟩
theorem pe_non {j pos} : PE X (.Constant .none j pos) (tC .non) := fun _ _ _ H _ I h => Constant_none ⟨.non, H, I, rfl, h⟩
theorem pe_str {x j pos} : PE X (.Constant (.str x) j pos) (tC (.str x)) := fun _ _ _ H _ I h => Calls.Constant_str ⟨.str x, H, I.tok _, ⟨_, rfl⟩, h⟩

/-- a global name of the def -/
def Gl (X : Cx) (x : Str) : Prop := X.env.kindOf x = some .globalImplicit
theorem ld_glob {E : Value → Shared → Prop} {pins : List (Addr × Obj)} {s : Shared} {σ : St} {H : Hp} {x : Str} {u : Value} {pos : Pos} {Q : Value → Shared → Prop} (I : Inv X pins σ H s) (hg : Gl X x) (hm : X.mg x = some u) (h : Q u s)
    (hd : (x == ("__debug__" : Str)) = false := by decide) : wpAny (model X.prog X.w) X.A (eval (.Name x pos) X.env) Q E s :=
  Calls.Name_function_global I.ok.kind hg (Calls.loadGlobal_global (by rw [I.ok.glob]; exact I.mod.glob.keeps I.bk) hm h) hd
theorem ld_blt {E : Value → Shared → Prop} {pins : List (Addr × Obj)} {s : Shared} {σ : St} {H : Hp} {x : Str} {u : Value} {pos : Pos} {Q : Value → Shared → Prop} (I : Inv X pins σ H s) (hg : Gl X x) (hm : X.mg x = none) (hv : bootBuiltins x = some u) (h : Q u s)
    (hn : x ≠ "__name__" := by decide) (hd : (x == ("__debug__" : Str)) = false := by decide) : wpAny (model X.prog X.w) X.A (eval (.Name x pos) X.env) Q E s := by
  obtain ⟨mb, h1, h2⟩ := I.mod.blt
  exact Calls.Name_function_global I.ok.kind hg (Calls.loadGlobal_builtin (by rw [I.ok.glob]; exact I.mod.glob.keeps I.bk) hm (by rw [I.ok.blt]; exact h1.keeps I.bk) ((h2 x hn).trans hv) h) hd
/-- a module's constant, a class, a function, as a value -/
theorem pe_glob {x : Str} {v : V} {u : Value} {pos : Pos} (hg : Gl X x) (hm : X.mg x = some u) (r : RelV v u) (hd : (x == ("__debug__" : Str)) = false := by decide) : PE X (.Name x pos) (tC v) :=
  fun _ _ _ H _ I h => ld_glob I hg hm ⟨v, H, I, r, h⟩ hd
theorem pe_bltn {x : Str} {v : V} {u : Value} {pos : Pos} (hg : Gl X x) (hm : X.mg x = none) (hv : bootBuiltins x = some u) (r : RelV v u) (hn : x ≠ "__name__" := by decide) (hd : (x == ("__debug__" : Str)) = false := by decide) : PE X (.Name x pos) (tC v) :=
  fun _ _ _ H _ I h => ld_blt I hg hm hv ⟨v, H, I, r, h⟩ hn hd

/-! ### arithmetic -/
variable {a b : Expr} {ta tb : TE} {pos : Pos}

/-! ### comparisons -/
def PC (X : Cx) (op : CmpOp) (a b : Expr) (t : TE) : Prop :=
  ∀ (pins : List (Addr × Obj)) (s : Shared) (σ : St) (H : Hp) (Q : VK), Inv X pins σ H s → t σ H Q →
    wpAny (model X.prog X.w) X.A (eval a X.env) (fun v s₁ => wpAny (model X.prog X.w) X.A (eval b X.env) (fun u s₂ => wpAny (model X.prog X.w) X.A (compareOp op v u) (EP X pins σ Q) X.xe s₂) X.xe s₁) X.xe s
theorem nobehind (b : Expr) {op : CmpOp} (h : op ≠ .In) (h2 : op ≠ .NotIn) : behindInMarks op b = false := by
  have e1 : (op == CmpOp.In) = false := by cases op <;> first | rfl | exact absurd rfl h
  have e2 : (op == CmpOp.NotIn) = false := by cases op <;> first | rfl | exact absurd rfl h2
  cases b <;> simp [behindInMarks, e1, e2]
/-- is None -/
def tIsN (ta : TE) : TE := fun σ H Q => ta σ H fun x H1 => Q (.bl (decide (x = .non))) H1
def tNotN (ta : TE) : TE := fun σ H Q => ta σ H fun x H1 => Q (.bl (!decide (x = .non))) H1
theorem RelV.none_iff {x : V} {v : Value} (r : RelV x v) : (v == Value.none) = decide (x = .non) := by
  cases x with
  | non => cases r; rfl
  | bl _ => cases r; rfl
  | int _ => obtain ⟨t, rfl⟩ := r; rfl
  | str _ => obtain ⟨t, rfl⟩ := r; rfl
  | byt _ => obtain ⟨t, rfl⟩ := r; rfl
  | flt _ => obtain ⟨t, rfl⟩ := r; rfl
  | ref _ => cases r; rfl
  | ty _ => cases r; rfl
theorem pc_isN {j pos'} (ha : PE X a ta) : PC X .Is a (.Constant .none j pos') (tIsN ta) := by
  intro pins s σ H Q I h
  refine thn (ha pins s σ H _ I h) fun v s1 ⟨x, H1, I1, r1, q1⟩ => ?_
  exact Constant_none (is_none_gen ⟨.bl _, H1, I1, by rw [r1.none_iff]; rfl, q1⟩)
theorem pc_notN {j pos'} (ha : PE X a ta) : PC X .IsNot a (.Constant .none j pos') (tNotN ta) := by
  intro pins s σ H Q I h
  refine thn (ha pins s σ H _ I h) fun v s1 ⟨x, H1, I1, r1, q1⟩ => ?_
  exact Constant_none (isnot_none_gen ⟨.bl _, H1, I1, by rw [r1.none_iff]; rfl, q1⟩)
/-- a comparison as a value, as a test -/
def tB (t : TE) : TT := fun σ H Q => t σ H fun x H1 => ∃ c, x = .bl c ∧ Q c H1
theorem pt_cmp {op : CmpOp} {t : TE} (h : PC X op a b t) (h1 : behindInMarks op b = false := by first | exact nobehind _ (by decide) (by decide) | rfl) : PT X (.Compare a [op] [b] pos) (tB t) := by
  intro pins s σ H Q I hw
  refine wpAny_isTrue_Compare1 (thn (h pins s σ H _ I hw) fun v s1 h1 => thn h1 fun u s2 h2 => thn h2 fun c s3 ⟨x, H1, I1, r1, q1⟩ => ?_) h1
  obtain ⟨d, rfl, q⟩ := q1
  cases r1
  exact wpAny_truthy_bool ⟨H1, I1, q⟩
/-- an expression whose value is a bool, as a test -/
theorem pt_val {e : Expr} {t : TE} (h : PE X e t) (he : ∀ whole, isTrue e X.env whole = (do let v ← whole; standAt e.pos; holding [v] (truthy v)) := by intro _; rfl) : PT X e (tB t) := by
  intro pins s σ H Q I hw
  refine isTrue_plain (thn (h pins s σ H _ I hw) fun v s1 ⟨x, H1, I1, r1, q1⟩ => ?_) (he _)
  obtain ⟨d, rfl, q⟩ := q1
  cases r1
  exact wpAny_truthy_bool ⟨H1, I1, q⟩

/-! ### and, or, not -/
variable {tA tB' : TT} {rest : List Expr}
def tAnd (t u : TT) : TT := fun σ H Q => t σ H fun c H1 => if c = true then u σ H1 Q else Q false H1
def tOr (t u : TT) : TT := fun σ H Q => t σ H fun c H1 => if c = true then Q true H1 else u σ H1 Q
def tNot (t : TT) : TT := fun σ H Q => t σ H fun c H1 => Q (!c) H1
theorem pw_and1 (ha : PT X a tA) : PW X (.BoolOp .And [a] pos) tA := by
  intro wh pins s σ H Q I h
  refine isTrue_and (thn (ha pins s σ H Q I h) fun c s1 e => ?_)
  cases c with
  | true => exact isTrue_and_nil e
  | false => exact e
theorem pw_or1 (ha : PT X a tA) : PW X (.BoolOp .Or [a] pos) tA := by
  intro wh pins s σ H Q I h
  refine isTrue_or (thn (ha pins s σ H Q I h) fun c s1 e => ?_)
  cases c with
  | false => exact isTrue_or_nil e
  | true => exact e
theorem pw_and (ha : PT X a tA) (hb : PW X (.BoolOp .And (b :: rest) pos) tB') : PW X (.BoolOp .And (a :: b :: rest) pos) (tAnd tA tB') := by
  intro wh pins s σ H Q I h
  refine isTrue_and (thn (ha pins s σ H _ I h) fun c s1 ⟨H1, I1, q1⟩ => ?_)
  cases c with
  | true => exact hb wh pins s1 σ H1 Q I1 q1
  | false => exact ⟨H1, I1, q1⟩
theorem pw_or (ha : PT X a tA) (hb : PW X (.BoolOp .Or (b :: rest) pos) tB') : PW X (.BoolOp .Or (a :: b :: rest) pos) (tOr tA tB') := by
  intro wh pins s σ H Q I h
  refine isTrue_or (thn (ha pins s σ H _ I h) fun c s1 ⟨H1, I1, q1⟩ => ?_)
  cases c with
  | true => exact ⟨H1, I1, q1⟩
  | false => exact hb wh pins s1 σ H1 Q I1 q1
theorem pt_not (ha : PT X a tA) : PT X (.UnaryOp .Not a pos) (tNot tA) := by
  intro pins s σ H Q I h
  exact isTrue_not (ha pins s σ H (fun c H1 => Q (!c) H1) I h)
/-- .. as values (bools) -/
def tAndV (ta tb : TE) : TE := fun σ H Q => ta σ H fun x H1 => ∃ c, x = .bl c ∧ if c = true then tb σ H1 Q else Q (.bl false) H1
def tOrV (ta tb : TE) : TE := fun σ H Q => ta σ H fun x H1 => ∃ c, x = .bl c ∧ if c = true then Q (.bl true) H1 else tb σ H1 Q
def tNotV (ta : TE) : TE := fun σ H Q => ta σ H fun x H1 => ∃ c, x = .bl c ∧ Q (.bl (!c)) H1
theorem pe_one {op} {t : TE} (h : PE X a t) : PE X (.BoolOp op [a] pos) t := fun pins s σ H Q I hw => BoolOp_one (h pins s σ H Q I hw)
theorem pe_and (ha : PE X a ta) (hb : PE X (.BoolOp .And (b :: rest) pos) tb) : PE X (.BoolOp .And (a :: b :: rest) pos) (tAndV ta tb) := by
  intro pins s σ H Q I h
  refine BoolOp_and (thn (ha pins s σ H _ I h) fun v s1 ⟨x, H1, I1, r1, q1⟩ => ?_)
  obtain ⟨c, rfl, q1⟩ := q1
  cases r1
  refine wpAny_truthy_bool ?_
  cases c with
  | true => exact hb pins s1 σ H1 Q I1 q1
  | false => exact ⟨.bl false, H1, I1, rfl, q1⟩
theorem pe_or (ha : PE X a ta) (hb : PE X (.BoolOp .Or (b :: rest) pos) tb) : PE X (.BoolOp .Or (a :: b :: rest) pos) (tOrV ta tb) := by
  intro pins s σ H Q I h
  refine BoolOp_or (thn (ha pins s σ H _ I h) fun v s1 ⟨x, H1, I1, r1, q1⟩ => ?_)
  obtain ⟨c, rfl, q1⟩ := q1
  cases r1
  refine wpAny_truthy_bool ?_
  cases c with
  | false => exact hb pins s1 σ H1 Q I1 q1
  | true => exact ⟨.bl true, H1, I1, rfl, q1⟩
theorem pe_not (ha : PE X a ta) : PE X (.UnaryOp .Not a pos) (tNotV ta) := by
  intro pins s σ H Q I h
  refine UnaryOp_ (thn (ha pins s σ H _ I h) fun v s1 ⟨x, H1, I1, r1, q1⟩ => ?_)
  obtain ⟨c, rfl, q1⟩ := q1
  cases r1
  exact not_of (wpAny_truthy_bool ⟨.bl (!c), H1, I1, rfl, q1⟩)
/-- a if t else b -/
def tIf (t : TT) (ta tb : TE) : TE := fun σ H Q => t σ H fun c H1 => if c = true then ta σ H1 Q else tb σ H1 Q
theorem pe_ifExp {c : Expr} (hc : PT X c tA) (ha : PE X a ta) (hb : PE X b tb) : PE X (.IfExp c a b pos) (tIf tA ta tb) := by
  intro pins s σ H Q I h
  refine wpAny_IfExp (thn (hc pins s σ H _ I h) fun d s1 ⟨H1, I1, q1⟩ => ?_)
  cases d with
  | true => exact ha pins s1 σ H1 Q I1 q1
  | false => exact hb pins s1 σ H1 Q I1 q1
end
end L2

namespace L2
open PySem PySem.Spec PyProof.Rows

/-! ### a list, a tuple that is read: tracked, frozen, or an object of the module -/
def SqL (K : PySem.W.Frag) (H : Hp) (a : Addr) (xs : List V) : Prop :=
  Rd H a (.lst xs) ∨
    ∃ (o : Obj) (its : Array Value) (n : Nat), K.lookup a = some o ∧ o.cls = .type "list" ∧ o.dict = none ∧ o.data = .seq its n ∧ its.size ≤ sizeLine ∧ Vals xs its.toList
def SqT (K : PySem.W.Frag) (H : Hp) (a : Addr) (xs : List V) : Prop :=
  Rd H a (.tup xs) ∨
    ∃ (o : Obj) (its : Array Value) (n : Nat), K.lookup a = some o ∧ o.cls = .type "tuple" ∧ o.data = .seq its n ∧ its.size ≤ sizeLine ∧ Vals xs its.toList
def absV : Value → Option V
  | .none => some .non
  | .bool b => some (.bl b)
  | .int i _ => some (.int i)
  | .str x _ => some (.str x)
  | .bytes b _ => some (.byt b)
  | .float b _ => some (.flt b)
  | .ref a => some (.ref a)
  | .type n => some (.ty n)
  | _ => none
theorem RelV.abs {x : V} {u : Value} (r : RelV x u) : absV u = some x := by
  cases x with
  | non => cases r; rfl
  | bl _ => cases r; rfl
  | int _ => obtain ⟨t, rfl⟩ := r; rfl
  | str _ => obtain ⟨t, rfl⟩ := r; rfl
  | byt _ => obtain ⟨t, rfl⟩ := r; rfl
  | flt _ => obtain ⟨t, rfl⟩ := r; rfl
  | ref _ => cases r; rfl
  | ty _ => cases r; rfl
theorem RelV.inj {x y : V} {u : Value} (r : RelV x u) (q : RelV y u) : x = y := Option.some.inj (r.abs.symm.trans q.abs)
theorem Vals.inj : ∀ {xs ys : List V} {us : List Value}, Vals xs us → Vals ys us → xs = ys
  | _, _, _, .nil, .nil => rfl
  | _, _, _, .cons r t, .cons r' t' => by rw [r.inj r', Vals.inj t t']
section
variable {X : Cx} {pins : List (Addr × Obj)} {σ : St} {H : Hp} {s : Shared} {a : Addr} {xs ys : List V}
theorem SqL.of {K : PySem.W.Frag} (h : H a = some (.lst xs)) : SqL K H a xs := .inl (.inl h)
theorem SqT.of {K : PySem.W.Frag} (h : H a = some (.tup xs)) : SqT K H a xs := .inl (.inl h)
theorem Inv.list (I : Inv X pins σ H s) (h : SqL X.K H a xs) : ∃ its : List Value, Vals xs its ∧ PlainL s.heap a its.toArray ∧ xs.length ≤ sizeLine := by
  rcases h with h | ⟨o, its, n, hk, hc, hd, hs, hz, r⟩
  · obtain ⟨z, its, n, r, e⟩ := h.ok I.hok
    exact ⟨its, r, ⟨_, n, e, rfl, rfl, rfl⟩, z⟩
  · refine ⟨its.toList, r, ⟨o, n, I.kIn a o hk, hc, hd, by simpa using hs⟩, ?_⟩
    have e := r.length
    simp only [Array.length_toList] at e
    omega
theorem Inv.tuple (I : Inv X pins σ H s) (h : SqT X.K H a xs) : ∃ its : List Value, Vals xs its ∧ IsTup s.heap a its.toArray ∧ xs.length ≤ sizeLine := by
  rcases h with h | ⟨o, its, n, hk, hc, hs, hz, r⟩
  · obtain ⟨z, its, r, p⟩ := h.ok I.hok
    exact ⟨its, r, p, z⟩
  · refine ⟨its.toList, r, ⟨o, I.kIn a o hk, hc, n, by simpa using hs⟩, ?_⟩
    have e := r.length
    simp only [Array.length_toList] at e
    omega
theorem Inv.list_inj (I : Inv X pins σ H s) (h : SqL X.K H a xs) (h' : SqL X.K H a ys) : xs = ys := by
  obtain ⟨its, r, ⟨o, n, e, _, _, d⟩, _⟩ := I.list h
  obtain ⟨its', r', ⟨o', n', e', _, _, d'⟩, _⟩ := I.list h'
  rw [e] at e'; cases e'
  rw [d] at d'
  injection d' with d1 _
  have : its = its' := by simpa using congrArg Array.toList d1
  subst this
  exact r.inj r'
theorem Inv.tuple_inj (I : Inv X pins σ H s) (h : SqT X.K H a xs) (h' : SqT X.K H a ys) : xs = ys := by
  obtain ⟨its, r, ⟨o, e, _, n, d⟩, _⟩ := I.tuple h
  obtain ⟨its', r', ⟨o', e', _, n', d'⟩, _⟩ := I.tuple h'
  rw [e] at e'; cases e'
  rw [d] at d'
  injection d' with d1 _
  have : its = its' := by simpa using congrArg Array.toList d1
  subst this
  exact r.inj r'
end

/-! ### another wish about exceptions -/
abbrev Cx.wish (X : Cx) (E : Value → Shared → Prop) : Cx := { X with xe := E }
/-- no exception leaves -/
abbrev Cx.nox (X : Cx) : Cx := X.wish fun _ _ => False
theorem Cx.Ok.wish {X : Cx} (ok : X.Ok) (E : Value → Shared → Prop) : (X.wish E).Ok :=
  ⟨ok.mod, ok.kind, ok.glob, ok.blt, ok.above, ok.inj, ok.has, ok.cab, ok.hd, ok.frames, ok.stk, ok.exf, ok.bs, ok.bsz, ok.noex, ok.exfs, ok.funs, ok.frf⟩
theorem Cx.Ok.unwish {X : Cx} {E : Value → Shared → Prop} (ok : (X.wish E).Ok) : X.Ok :=
  ⟨ok.mod, ok.kind, ok.glob, ok.blt, ok.above, ok.inj, ok.has, ok.cab, ok.hd, ok.frames, ok.stk, ok.exf, ok.bs, ok.bsz, ok.noex, ok.exfs, ok.funs, ok.frf⟩
section
variable {X : Cx} {pins : List (Addr × Obj)} {σ : St} {H : Hp} {s : Shared} {E : Value → Shared → Prop}
theorem Inv.wish (I : Inv X pins σ H s) (E : Value → Shared → Prop) : Inv (X.wish E) pins σ H s := ⟨I.ok.wish E, I.os, I.bare, I.base, I.loc, I.cell, I.free, I.freeC, I.pin, I.hok, I.len⟩
theorem Inv.unwish (I : Inv (X.wish E) pins σ H s) : Inv X pins σ H s := ⟨I.ok.unwish, I.os, I.bare, I.base, I.loc, I.cell, I.free, I.freeC, I.pin, I.hok, I.len⟩
theorem SP.unwish {D : Ends} {f : Flow} {s' : Shared} (h : SP (X.wish E) pins D f s') : SP X pins D f s' := by
  cases f with
  | next => obtain ⟨σ', H', I, q⟩ := h; exact ⟨σ', H', I.unwish, q⟩
  | brk => obtain ⟨σ', H', I, q⟩ := h; exact ⟨σ', H', I.unwish, q⟩
  | cont => obtain ⟨σ', H', I, q⟩ := h; exact ⟨σ', H', I.unwish, q⟩
  | ret u => obtain ⟨v, σ', H', I, r, q⟩ := h; exact ⟨v, σ', H', I.unwish, r, q⟩
theorem PSs.nox {st : List Stmt} {t : TS} (h : PSs X.nox st t) : PSs X st t := fun pins s σ H D I hw =>
  wpAny_mono (h pins s σ H D (I.wish _) hw) (fun _ _ q => q.unwish) fun _ _ z => False.elim z
end

/-! ### blocks and small statements -/
section
variable {X : Cx} {st : Stmt} {rest : List Stmt} {t u : TS} {e : Expr} {te : TE} {pos : Pos}
def tNext : TS := fun D σ H => D.nx σ H
def tSeq (t u : TS) : TS := fun D σ H => t { D with nx := u D } σ H
theorem pss_nil : PSs X [] tNext := fun _ _ σ H _ I h => wpAny_execs_nil ⟨σ, H, I, h⟩
theorem pss_cons (h1 : PS X st t) (h2 : PSs X rest u) : PSs X (st :: rest) (tSeq t u) := by
  intro pins s σ H D I h
  refine wpAny_execs_cons (thn (h1 pins s σ H { D with nx := u D } I h) fun f s1 q => ?_)
  cases f with
  | next =>
    obtain ⟨σ', H', I', q⟩ := q
    exact h2 pins s1 σ' H' D I' q
  | ret v => exact q
  | brk => exact q
  | cont => exact q
theorem pss_one (h1 : PS X st t) : PSs X [st] t := by
  intro pins s σ H D I h
  refine wpAny_execs_cons (thn (h1 pins s σ H D I h) fun f s1 q => ?_)
  cases f with
  | next => exact wpAny_execs_nil q
  | ret v => exact q
  | brk => exact q
  | cont => exact q
def tCont : TS := fun D σ H => D.ct σ H
theorem ps_continue : PS X (.Continue pos) tCont := fun _ _ σ H _ I h => wpAny_Continue ⟨σ, H, I, h⟩
/-- in a def's body nothing is shown -/
theorem Inv.quiet {pins : List (Addr × Obj)} {σ : St} {H : Hp} {s : Shared} (I : Inv X pins σ H s) : interactive X.env = false := by simp [interactive, I.ok.kind]
/-- an expression whose value is dropped -/
def tDrop (te : TE) : TS := fun D σ H => te σ H fun _ H1 => D.nx σ H1
theorem ps_expr (he : PE X e te) (hs : swapsWith e none pos.line X.env = pure false := by rfl) : PS X (.Expr e pos) (tDrop te) := by
  intro pins s σ H D I h
  exact wpAny_Expr_any (thn (he pins s σ H _ I h) fun v s1 ⟨x, H1, I1, r1, q1⟩ => ⟨σ, H1, I1, q1⟩) I.quiet hs
def tRet (te : TE) : TS := fun D σ H => te σ H D.rt
theorem ps_ret (he : PE X e te) : PS X (.Return (some e) pos) (tRet te) := by
  intro pins s σ H D I h
  exact wpAny_Return_some (thn (he pins s σ H _ I h) fun v s1 ⟨x, H1, I1, r1, q1⟩ => ⟨x, σ, H1, I1, r1, q1⟩)
def tIfS (c : TT) (t u : TS) : TS := fun D σ H => c σ H fun b H1 => if b = true then t D σ H1 else u D σ H1
theorem ps_if {c : Expr} {a b : List Stmt} {tc : TT} (hc : PT X c tc) (ha : PSs X a t) (hb : PSs X b u) : PS X (.If c a b pos) (tIfS tc t u) := by
  intro pins s σ H D I h
  refine wpAny_If (thn (hc pins s σ H _ I h) fun d s1 ⟨H1, I1, q1⟩ => ?_)
  cases d with
  | true => exact ha pins s1 σ H1 D I1 q1
  | false => exact hb pins s1 σ H1 D I1 q1
end

/-! ### targets -/
abbrev TG := V → St → Hp → (St → Hp → Prop) → Prop
abbrev TGs := List V → St → Hp → (St → Hp → Prop) → Prop
def PG (X : Cx) (target : Expr) (t : TG) : Prop :=
  ∀ (pins : List (Addr × Obj)) (s : Shared) (σ : St) (H : Hp) (v : V) (u : Value) (Q : St → Hp → Prop), Inv X pins σ H s → RelV v u → t v σ H Q →
    wpAny (model X.prog X.w) X.A (assign target X.env u) (fun _ s' => ∃ σ' H', Inv X pins σ' H' s' ∧ Q σ' H') X.xe s
/-- several targets, one after another -/
def PGs (X : Cx) (ts : List Expr) (t : TGs) : Prop :=
  ∀ (pins : List (Addr × Obj)) (s : Shared) (σ : St) (H : Hp) (vs : List V) (us : List Value) (Q : St → Hp → Prop), Inv X pins σ H s → Vals vs us → t vs σ H Q →
    wpAny (model X.prog X.w) X.A (assignInOrder ((assignEach ts X.env).map (·.2)) us) (fun _ s' => ∃ σ' H', Inv X pins σ' H' s' ∧ Q σ' H') X.xe s
/-- o[i] = v, by values -/
abbrev TSet := V → V → V → Hp → (Hp → Prop) → Prop
def PSet (X : Cx) (t : TSet) : Prop :=
  ∀ (pins : List (Addr × Obj)) (s : Shared) (σ : St) (H : Hp) (o i v : V) (ov iv u : Value) (Q : Hp → Prop), Inv X pins σ H s → RelV o ov → RelV i iv → RelV v u → t o i v H Q →
    wpAny (model X.prog X.w) X.A (setItem ov iv u) (fun _ s' => ∃ H', Inv X pins σ H' s' ∧ Q H') X.xe s
section
variable {X : Cx} {pos : Pos}
def gName (i : Nat) : TG := fun v σ H Q => Q (σ.set i (some v)) H
theorem pg_name {i : Nat} {x : Str} (hN : X.N.Nodup) (hi : X.N[i]? = some x) (hx : Loc X.env.scope x) (hf : X.fn x = true ∨ X.env.scope.names.lookup x = some .local := by first | exact .inl rfl | exact .inr rfl | assumption) : PG X (.Name x pos) (gName i) := by
  intro pins s σ H v u Q I r h
  exact wpAny_assign_Name (store_ok I hN hi hx r (fun s' I' => ⟨_, H, I', h⟩) hf)
def gNil : TGs := fun vs σ H Q => vs = [] ∧ Q σ H
def gCons (t : TG) (u : TGs) : TGs := fun vs σ H Q => ∃ v r, vs = v :: r ∧ t v σ H fun σ' H' => u r σ' H' Q
theorem pgs_nil : PGs X [] gNil := by
  intro pins s σ H vs us Q I r h
  obtain ⟨e, h⟩ := h
  subst e
  cases r
  exact assignInOrder_nil ⟨σ, H, I, h⟩
theorem pgs_cons {e : Expr} {es : List Expr} {t : TG} {u : TGs} (h1 : PG X e t) (h2 : PGs X es u)
    (hs : (assignEach (e :: es) X.env).map (·.2) = assign e X.env :: (assignEach es X.env).map (·.2) := by rfl) : PGs X (e :: es) (gCons t u) := by
  intro pins s σ H vs us Q I r h
  obtain ⟨v, vr, e1, h⟩ := h
  subst e1
  cases r with
  | cons r rr =>
    rw [hs]
    refine assignInOrder_cons (thn (h1 pins s σ H _ _ _ I r h) fun _ s1 ⟨σ1, H1, I1, q1⟩ => ?_)
    exact h2 pins s1 σ1 H1 _ _ Q I1 rr q1
/-- (a, b, ..) = a tuple of that length -/
def gTup (K : PySem.W.Frag) (n : Nat) (t : TGs) : TG := fun v σ H Q => ∃ a xs, v = .ref a ∧ SqT K H a xs ∧ xs.length = n ∧ t xs σ H Q
theorem pg_tup {es : List Expr} {k : Nat} {t : TGs} {n : Nat} (hc : X.calm = true) (h : PGs X es t)
    (hn : (assignEach es X.env).length = n := by rfl) (hst : (assignEach es X.env).findIdx? (·.1) = none := by rfl) : PG X (.Tuple es k pos) (gTup X.K n t) := by
  intro pins s σ H v u Q I r hw
  obtain ⟨a, xs, e1, hq, hl, hw⟩ := hw
  subst e1
  cases r
  obtain ⟨its, rv, ht, hz⟩ := I.tuple hq
  refine assign_Tuple_tuple (I.ok.hd hc) ht (by simp [hn, ← hl, rv.length]) hst fun h' hx => ?_
  have I1 : Inv X pins σ H { s with heap := h' } := I.kept (t' := s.toks) fun b o e => hx b o (Nat.ne_of_lt (Heap.lt_size e)) e
  exact h pins _ σ H xs _ Q I1 (by simpa using rv) hw
/-- o[i] = .. -/
def gSub (to ti : TE) (t : TSet) : TG := fun v σ H Q => to σ H fun o H1 => ti σ H1 fun i H2 => t o i v H2 fun H3 => Q σ H3
theorem pg_sub {o i : Expr} {to ti : TE} {t : TSet} (ho : PE X o to) (hi : PE X i ti) (hs : PSet X t)
    (ha : ∀ v, assign (.Subscript o i pos) X.env v = (do
      let ov ← holding [v] (eval o X.env)
      let iv ← holding [v, ov] (eval i X.env)
      standAt pos
      holding [v, ov, iv] (setItem ov iv v)
      release [v, ov, iv] []) := by intro _; rfl) : PG X (.Subscript o i pos) (gSub to ti t) := by
  intro pins s σ H v u Q I r h
  rw [ha]
  refine wpAny_bind (wpAny_holding (thn (ho pins s σ H _ I h) fun ov s1 ⟨x, H1, I1, r1, q1⟩ => ?_))
  refine wpAny_bind (wpAny_holding (thn (hi pins s1 σ H1 _ I1 q1) fun iv s2 ⟨y, H2, I2, r2, q2⟩ => ?_))
  refine wpAny_bind (wpAny_standAt (wpAny_bind (wpAny_holding (thn (hs pins s2 σ H2 x y v ov iv u _ I2 r1 r2 r q2) fun _ s3 ⟨H3, I3, q3⟩ => ?_))))
  exact wpAny_release ⟨σ, H3, I3, q3⟩
/-- target = value -/
def tAsg (te : TE) (g : TG) : TS := fun D σ H => te σ H fun x H1 => g x σ H1 D.nx
theorem ps_asg {tg e : Expr} {te : TE} {g : TG} (he : PE X e te) (hg : PG X tg g) (hs : swapsWithSole [tg] e pos.line X.env = pure false := by rfl) (hw : swappedStores [tg] e X.env = pure none := by rfl)
    (h1 : (assignEach [tg] X.env).map (·.2) = [assign tg X.env] := by rfl) : PS X (.Assign [tg] e pos) (tAsg te g) := by
  intro pins s σ H D I h
  refine wpAny_Assign_stores (thn (he pins s σ H _ I h) fun v s1 ⟨x, H1, I1, r1, q1⟩ => ?_) hs hw
  rw [h1]
  exact thn (hg pins s1 σ H1 x v _ I1 r1 q1) fun _ s2 q => q
/-- name = value -/
theorem ps_set {i : Nat} {x : Str} {e : Expr} {te : TE} {pos' : Pos} (hN : X.N.Nodup) (hi : X.N[i]? = some x) (hx : Loc X.env.scope x) (he : PE X e te) (hs : swapsWith e (some (.Name x pos')) pos.line X.env = pure false := by rfl) (hf : X.fn x = true ∨ X.env.scope.names.lookup x = some .local := by first | exact .inl rfl | exact .inr rfl | assumption) :
    PS X (.Assign [.Name x pos'] e pos) (tAsg te (gName i)) := by
  intro pins s σ H D I h
  refine wpAny_Assign_Name (thn (he pins s σ H _ I h) fun v s1 ⟨y, H1, I1, r1, q1⟩ => ?_) hs
  exact store_ok I1 hN hi hx r1 (fun s2 I2 => ⟨_, H1, I2, q1⟩) hf
/-- a, b = x, y with plain local names: stored from the right; the pair itself is not tracked (the opening rows as in PyProof/Rows/TupAssign.lean:23) -/
def tPar (i j : Nat) (ta : TA) : TS := fun D σ H => ta σ H fun vs H1 => ∃ v w, vs = [v, w] ∧ D.nx ((σ.set i (some v)).set j (some w)) H1
theorem ps_par {i j : Nat} {x y : Str} {a b : Expr} {ta : TA} {px py pt : Pos} {kt k2 pt2} (hc : X.calm = true) (hN : X.N.Nodup) (hi : X.N[i]? = some x) (hj : X.N[j]? = some y) (hij : i ≠ j)
    (hx : X.env.scope.names.lookup x = some .local) (hy : X.env.scope.names.lookup y = some .local) (ha : PA X [a, b] ta)
    (hw : swappedStores [.Tuple [.Name x px, .Name y py] kt pt] (.Tuple [a, b] k2 pt2) X.env = pure (some [x, y]))
    (hs : swapsWithSole [.Tuple [.Name x px, .Name y py] kt pt] (.Tuple [a, b] k2 pt2) pos.line X.env = pure false := by rfl) :
    PS X (.Assign [.Tuple [.Name x px, .Name y py] kt pt] (.Tuple [a, b] k2 pt2) pos) (tPar i j ta) := by
  intro pins s σ H D I h
  rw [exec_Assign_arm]
  refine wpAny_bind (wpAny_standAt ?_)
  rw [hs]
  refine wpAny_bind (wpAny_pure ?_)
  rw [if_neg (by decide)]
  refine wpAny_bind (Tuple_ (thn (ha _ pins s σ H _ I h) fun us s1 ⟨vs, H1, I1, r1, q1⟩ => ?_))
  obtain ⟨v, w, e1, q1⟩ := q1
  subst e1
  obtain ⟨u1, u2, rfl, rv, rw'⟩ : ∃ u1 u2, us = [u1, u2] ∧ RelV v u1 ∧ RelV w u2 := by
    cases r1 with
    | cons p q =>
      cases q with
      | cons p' q' =>
        cases q'
        exact ⟨_, _, rfl, p, p'⟩
  refine wpAny_newObj_type ?_ (by show 2 ≤ sizeLine; decide)
  have I2 : Inv X pins σ H1 { s1 with heap := s1.heap.push { cls := .type "tuple", data := .seq [u1, u2].toArray } } := I1.kept (t' := s1.toks) fun b o e => Heap.get?_push_of_some _ e
  rw [hw]
  refine wpAny_bind (wpAny_pure ?_)
  show wpAny (model X.prog X.w) X.A (do rule "assign.swapped-stores"; let items ← unpackItems (.ref s1.heap.objs.size) 2 none; assignInOrder [fun v => bindName X.env y v, fun v => bindName X.env x v] items.reverse; pure Flow.next) _ _ _
  refine wpAny_bind (wpAny_rule (wpAny_bind (unpackItems_tuple (items := #[u1, u2]) (I.ok.hd hc) (IsTup.new s1.heap _) fun h' hx' => ?_)))
  have I3 := I2.kept (h' := h') (t' := s1.toks) fun b o e => hx' b o (Nat.ne_of_lt (Heap.lt_size e)) e
  show wpAny _ _ (assignInOrder [fun v => bindName X.env y v, fun v => bindName X.env x v] [u2, u1] >>= fun _ => pure Flow.next) _ _ _
  refine wpAny_bind (assignInOrder_cons (wpAny_bindName (store_ok I3 hN hj (.inl hy) rw' (fun s2 I4 => ?_) (.inr hy))))
  refine assignInOrder_cons (wpAny_bindName (store_ok I4 hN hi (.inl hx) rv (fun s3 I5 => assignInOrder_nil (wpAny_pure ?_)) (.inr hx)))
  rw [List.set_comm _ _ (Ne.symm hij)] at I5
  exact ⟨_, H1, I5, q1⟩
end

/-! ### while -/
section
variable {X : Cx} {pos : Pos}
/-- the invariant W with its measure -/
def tWhile (c : TT) (tb : TS) : TS := fun D σ H => ∃ W : Nat → St → Hp → Prop, (∃ m, W m σ H) ∧ ∀ m σ H, W m σ H →
  c σ H fun b H1 => if b = true then ∃ N : St → Hp → Prop, (∀ σ' H', N σ' H' → ∃ m', m' < m ∧ W m' σ' H') ∧ tb { D with nx := N, ct := N, bk := D.nx } σ H1 else D.nx σ H1
theorem ps_while {c : Expr} {body : List Stmt} {tc : TT} {tb : TS} (hp : PassesOwn (model X.prog X.w) X.A X.env X.xe) (hc : PT X c tc) (hb : PSs X body tb) : PS X (.While c body [] pos) (tWhile tc tb) := by
  intro pins s σ H D I h
  obtain ⟨W, ⟨m0, w0⟩, turn⟩ := h
  refine wpAny_While (codeAny_whileLoop (fun n s' => ∃ σ' H', Inv X pins σ' H' s' ∧ W n σ' H') ?_ m0 ⟨σ, H, I, w0⟩)
  rintro n s1 ⟨σ1, H1, I1, w1⟩
  refine wpAny_passesOwn hp (thn (hc pins s1 σ1 H1 _ I1 (turn n σ1 H1 w1)) fun b s2 ⟨H2, I2, q2⟩ => ?_)
  cases b with
  | true =>
    obtain ⟨N, hN, q2⟩ := q2
    rw [if_pos rfl]
    refine wpAny_passesOwn hp (thn (hb pins s2 σ1 H2 _ I2 q2) fun f s3 q3 => ?_)
    cases f with
    | next =>
      obtain ⟨σ3, H3, I3, n3⟩ := q3
      obtain ⟨m', hm, w3⟩ := hN σ3 H3 n3
      exact ⟨m', hm, σ3, H3, I3, w3⟩
    | cont =>
      obtain ⟨σ3, H3, I3, n3⟩ := q3
      obtain ⟨m', hm, w3⟩ := hN σ3 H3 n3
      exact ⟨m', hm, σ3, H3, I3, w3⟩
    | brk => exact q3
    | ret v => exact q3
  | false =>
    rw [if_neg Bool.false_ne_true]
    exact wpAny_execs_nil ⟨σ1, H2, I2, q2⟩
end

/-! ### what a loop or a comprehension walks -/
/-- at turn i: it yields x (the heap may grow), or it stops -/
structure It where
  go : Nat → Hp → Prop
  yld : Nat → Hp → V → Hp → Prop
  stop : Nat → Hp → Prop
/-- the iterator's own objects may turn: they are not the frame's, not pinned, younger than the entry (or a comprehension's own) -/
def FpOk (X : Cx) (pins : List (Addr × Obj)) (H : Hp) (b : Addr) : Prop :=
  H b = none ∧ b ≠ X.env.locals ∧ b ∉ X.fs ∧ (b ∈ X.ex ∨ X.s₀.heap.objs.size ≤ b) ∧ (∀ x c, X.env.cells.lookup x = some c → c ≠ b) ∧ ∀ p ∈ X.pn ++ pins, p.1 ≠ b
theorem Inv.fpOk {X : Cx} {pins : List (Addr × Obj)} {σ : St} {H H' : Hp} {s : Shared} {b : Addr} (I : Inv X pins σ H s) (hb : s.heap.objs.size ≤ b) (hn : H' b = none) : FpOk X pins H' b := by
  refine ⟨hn, Nat.ne_of_gt (Nat.lt_of_lt_of_le I.lt hb), I.nofs hb, .inr (Nat.le_trans I.sz hb), fun x c e z => ?_, fun p hp z => ?_⟩
  · obtain ⟨v, q⟩ := I.cell x c e
    exact absurd (Nat.lt_of_lt_of_le q.lt (by rw [z]; exact hb)) (Nat.lt_irrefl _)
  · exact absurd (Nat.lt_of_lt_of_le (Heap.lt_size (I.pin p hp).1) (by rw [z]; exact hb)) (Nat.lt_irrefl _)
structure Turn (P : Program) (w : World) (K : PySem.W.Frag) (tg : Expr) (J : It) (fp : List Addr) (it : Addr) (tn : Nat → Heap → Prop) : Prop where
  mem : it ∈ fp
  obj : ∀ i h, tn i h → ∀ b ∈ fp, ∃ o, h.get? b = some o ∧ ∀ v, o.data ≠ .cell v
  keep : ∀ i h h', tn i h → (∀ b ∈ fp, ∀ o, h.get? b = some o → h'.get? b = some o) → tn i h'
  item : ∀ (X : Cx), X.prog = P → X.w = w → X.K = K → X.calm = true → ∀ (i : Nat) (pins : List (Addr × Obj)) (s : Shared) (σ : St) (H : Hp) (E : Value → Shared → Prop), Inv X pins σ H s → (∀ b ∈ fp, FpOk X pins H b) → tn i s.heap → J.go i H →
    wpAny (model P w) X.A (pyNext (.ref it)) (fun r s1 => ∃ u, r = some u ∧
      wpAny (model P w) X.A (letOwnedTupleGo tg (.ref it) u) (fun _ s2 => ∃ x H', Inv X pins σ H' s2 ∧ RelV x u ∧ J.yld i H x H' ∧ tn (i + 1) s2.heap ∧ ∀ b ∈ fp, H' b = none) E s1) E s
  done : ∀ (X : Cx), X.prog = P → X.w = w → X.K = K → X.calm = true → ∀ (i : Nat) (pins : List (Addr × Obj)) (s : Shared) (σ : St) (H : Hp) (E : Value → Shared → Prop), Inv X pins σ H s → (∀ b ∈ fp, FpOk X pins H b) → tn i s.heap → J.stop i H →
    wpAny (model P w) X.A (pyNext (.ref it)) (fun r s1 => r = none ∧ Inv X pins σ H s1) E s
  self : ∀ (A : Around) (i : Nat) (s : Shared) (Q : Value → Shared → Prop) (E : Value → Shared → Prop), tn i s.heap → Q (.ref it) s → wpAny (model P w) A (pyIter (.ref it)) Q E s
abbrev TI := St → Hp → (It → Hp → Prop) → Prop
/-- an iterator has come -/
def PIE (X : Cx) (pins : List (Addr × Obj)) (σ : St) (tg : Expr) (R : It → Hp → Prop) (itv : Value) (s2 : Shared) : Prop :=
  ∃ (it : Addr) (fp : List Addr) (tn : Nat → Heap → Prop) (J : It) (H' : Hp), itv = .ref it ∧ Inv X pins σ H' s2 ∧ Turn X.prog X.w X.K tg J fp it tn ∧ tn 0 s2.heap ∧ (∀ b ∈ fp, FpOk X pins H' b) ∧ R J H'
def PI (X : Cx) (tg iter : Expr) (wi : TI) : Prop :=
  ∀ (pins : List (Addr × Obj)) (s : Shared) (σ : St) (H : Hp) (R : It → Hp → Prop), Inv X pins σ H s → wi σ H R →
    wpAny (model X.prog X.w) X.A (eval iter X.env) (fun v s1 => wpAny (model X.prog X.w) X.A (pyIter v) (PIE X pins σ tg R) X.xe s1) X.xe s

/-- the step ahead of the store is nothing for an iterator that keeps no tuple -/
theorem go_of {M : Model} {A : Around} {E : Value → Shared → Prop} {s : Shared} {tg : Expr} {it : Addr} {u : Value} {o : Obj} {n : String} {vs : Array Value} {Q : Unit → Shared → Prop} (ho : s.heap.get? it = some o) (hc : o.cls = .type n) (hd : o.data = .fields vs)
    (hn : ["enumerate", "zip", "dict_itemiterator", "dict_reverseitemiterator", "odict_iterator", "itertools.zip_longest", "itertools.pairwise"].contains n = false) (hQ : Q () s) : wpAny M A (letOwnedTupleGo tg (.ref it) u) Q E s := by
  unfold letOwnedTupleGo
  cases tg <;> first
    | exact wpAny_pure hQ
    | (cases u <;> first
        | exact wpAny_pure hQ
        | (refine wpAny_bind (wpAny_load ho ?_)
           rw [hc, hd]
           show wpAny M A (if (["enumerate", "zip", "dict_itemiterator", "dict_reverseitemiterator", "odict_iterator", "itertools.zip_longest", "itertools.pairwise"].contains n && vs[0]? == some (rawInt _)) = true then _ else _) Q E s
           rw [if_neg (by intro h; rw [hn, Bool.false_and] at h; cases h)]
           exact wpAny_pure hQ))

/-- the list at a, as it stands at each turn (a loop may append to it) -/
def Itl (K : PySem.W.Frag) (a : Addr) : It :=
  ⟨fun i H => ∃ xs x, SqL K H a xs ∧ xs[i]? = some x, fun i H x H' => H' = H ∧ ∀ xs, SqL K H a xs → xs[i]? = some x, fun i H => ∃ xs, SqL K H a xs ∧ xs.length ≤ i⟩
def Itt (K : PySem.W.Frag) (a : Addr) : It :=
  ⟨fun i H => ∃ xs x, SqT K H a xs ∧ xs[i]? = some x, fun i H x H' => H' = H ∧ ∀ xs, SqT K H a xs → xs[i]? = some x, fun i H => ∃ xs, SqT K H a xs ∧ xs.length ≤ i⟩
/-- lo, lo + 1, .. (n of them) -/
def Itr (lo : Int) (n : Nat) : It := ⟨fun i _ => i < n, fun i H x H' => H' = H ∧ x = .int (lo + i), fun i _ => n ≤ i⟩
theorem turn_list {P : Program} {w : World} {K : PySem.W.Frag} {tg : Expr} (a it : Addr) : Turn P w K tg (Itl K a) [it] it (fun i h => h.IsListIter it a i) where
  mem := by simp
  obj := fun i h st b hb => by
    have e : b = it := by simpa using hb
    subst e
    obtain ⟨o, e, c, d⟩ := st
    exact ⟨o, e, fun v z => by rw [d] at z; cases z⟩
  keep := fun i h h' st k => st.at fun o e => k it (by simp) o e
  item := by
    intro X hP hw hK hc i pins s σ H E I hf st hg
    subst hP hw hK
    obtain ⟨xs, x, hq, hx⟩ := hg
    obtain ⟨its, rv, p, hz⟩ := I.list hq
    obtain ⟨u, hu, ru⟩ := rv.get hx
    obtain ⟨f0, f1, f2, f3, f4, f5⟩ := hf it (by simp)
    refine wpAny_pyNext_list_item st p.isList (x := u) (by simpa using hu) fun h' st' sb => ?_
    have I1 : Inv X pins σ H { s with heap := h' } := I.turned (t' := s.toks) (fun b o hb e => (sb.2 b hb).trans e) f0 f1 f3 f4 f5
    obtain ⟨o, e, c, d⟩ := id st'
    exact ⟨u, rfl, go_of (s := { s with heap := h' }) e c d (by decide) ⟨x, H, I1, ru, ⟨rfl, fun ys hy => by rw [I.list_inj hy hq]; exact hx⟩, st', fun b hb => (hf b hb).1⟩⟩
  done := by
    intro X hP hw hK hc i pins s σ H E I hf st hg
    subst hP hw hK
    obtain ⟨xs, hq, hx⟩ := hg
    obtain ⟨its, rv, p, hz⟩ := I.list hq
    obtain ⟨f0, f1, f2, f3, f4, f5⟩ := hf it (by simp)
    have hl := rv.length
    exact wpAny_pyNext_list_end (I.ok.hd hc) st p.isList (by simp; omega) fun h' eb => ⟨rfl, I.turned (t' := s.toks) (fun b o hb e => eb b o hb e) f0 f1 f3 f4 f5⟩
  self := fun _ _ _ _ _ st h => wpAny_pyIter_listiter st h
theorem turn_tuple {P : Program} {w : World} {K : PySem.W.Frag} {tg : Expr} (a it : Addr) : Turn P w K tg (Itt K a) [it] it (fun i h => h.IsTupleIter it a i) where
  mem := by simp
  obj := fun i h st b hb => by
    have e : b = it := by simpa using hb
    subst e
    obtain ⟨o, e, c, d⟩ := st
    exact ⟨o, e, fun v z => by rw [d] at z; cases z⟩
  keep := fun i h h' st k => st.at fun o e => k it (by simp) o e
  item := by
    intro X hP hw hK hc i pins s σ H E I hf st hg
    subst hP hw hK
    obtain ⟨xs, x, hq, hx⟩ := hg
    obtain ⟨its, rv, p, hz⟩ := I.tuple hq
    obtain ⟨u, hu, ru⟩ := rv.get hx
    obtain ⟨f0, f1, f2, f3, f4, f5⟩ := hf it (by simp)
    refine wpAny_pyNext_tuple_item st (show s.heap.IsTuple a its.toArray from p) (x := u) (by simpa using hu) fun h' st' sb => ?_
    have I1 : Inv X pins σ H { s with heap := h' } := I.turned (t' := s.toks) (fun b o hb e => (sb.2 b hb).trans e) f0 f1 f3 f4 f5
    obtain ⟨o, e, c, d⟩ := id st'
    exact ⟨u, rfl, go_of (s := { s with heap := h' }) e c d (by decide) ⟨x, H, I1, ru, ⟨rfl, fun ys hy => by rw [I.tuple_inj hy hq]; exact hx⟩, st', fun b hb => (hf b hb).1⟩⟩
  done := by
    intro X hP hw hK hc i pins s σ H E I hf st hg
    subst hP hw hK
    obtain ⟨xs, hq, hx⟩ := hg
    obtain ⟨its, rv, p, hz⟩ := I.tuple hq
    obtain ⟨f0, f1, f2, f3, f4, f5⟩ := hf it (by simp)
    have hl := rv.length
    exact wpAny_pyNext_tuple_end (I.ok.hd hc) st (show s.heap.IsTuple a its.toArray from p) (by simp; omega) fun h' eb => ⟨rfl, I.turned (t' := s.toks) (fun b o hb e => eb b o hb e) f0 f1 f3 f4 f5⟩
  self := fun _ _ _ _ _ st h => wpAny_pyIter_tupleiter st h
theorem turn_range {P : Program} {w : World} {K : PySem.W.Frag} {tg : Expr} (it : Addr) (lo : Int) (n : Nat) : Turn P w K tg (Itr lo n) [it] it (fun i h => IsRangeIter h it (lo + (i : Nat) * 1) ((n : Int) - (i : Nat)) 1) where
  mem := by simp
  obj := fun i h st b hb => by
    have e : b = it := by simpa using hb
    subst e
    exact ⟨_, st, fun v z => by
      have z' : Data.fields _ = Data.cell v := z
      cases z'⟩
  keep := fun i h h' st k => k it (by simp) _ st
  item := by
    intro X hP hw hK hc i pins s σ H E I hf st hg
    subst hP hw hK
    obtain ⟨f0, f1, f2, f3, f4, f5⟩ := hf it (by simp)
    have W := Walks.range (prog := X.prog) (w := X.w) (I.ok.hd hc) it lo 1 n
    refine W.item i s _ _ hg st fun v h' tk hv st' kk => ?_
    obtain ⟨t, rfl⟩ := hv
    have I1 : Inv X pins σ H { s with heap := h', toks := tk } := I.turned (fun b o hb e => kk b o (by simpa using hb) e) f0 f1 f3 f4 f5
    refine ⟨_, rfl, go_of (s := { s with heap := h', toks := tk }) (n := "range_iterator") st' rfl rfl (by decide) ⟨.int (lo + i), H, I1, ⟨t, ?_⟩, ⟨rfl, rfl⟩, st', fun b hb => (hf b hb).1⟩⟩
    rw [Int.mul_one]
  done := by
    intro X hP hw hK hc i pins s σ H E I hf st hg
    subst hP hw hK
    obtain ⟨f0, f1, f2, f3, f4, f5⟩ := hf it (by simp)
    exact wpAny_pyNext_range_end (I.ok.hd hc) st (by have : n ≤ i := hg; omega) fun h' eb => ⟨rfl, I.turned (t' := s.toks) (fun b o hb e => eb b o hb e) f0 f1 f3 f4 f5⟩
  self := fun _ _ _ _ _ st h => wpAny_pyIter_rangeiter st h
end L2

namespace L2
open PySem PySem.Spec PyProof.Rows
section
variable {X : Cx} {tg : Expr}
def iList (K : PySem.W.Frag) (tl : TE) : TI := fun σ H R => tl σ H fun x H1 => ∃ a, x = .ref a ∧ (∃ xs, SqL K H1 a xs) ∧ R (Itl K a) H1
def iTup (K : PySem.W.Frag) (tl : TE) : TI := fun σ H R => tl σ H fun x H1 => ∃ a, x = .ref a ∧ (∃ xs, SqT K H1 a xs) ∧ R (Itt K a) H1
theorem pi_list {l : Expr} {tl : TE} (hl : PE X l tl) : PI X tg l (iList X.K tl) := by
  intro pins s σ H R I h
  refine thn (hl pins s σ H _ I h) fun v s1 ⟨x, H1, I1, r1, q1⟩ => ?_
  obtain ⟨a, e, ⟨xs, hq⟩, q⟩ := q1
  subst e
  cases r1
  obtain ⟨its, rv, p, hz⟩ := I1.list hq
  refine wpAny_pyIter_list p.isList ?_
  refine ⟨s1.heap.objs.size, [s1.heap.objs.size], _, _, H1, rfl, I1.kept (t' := s1.toks) fun b o e => Heap.get?_push_of_some _ e, turn_list a _, ⟨_, Heap.get?_push_size _ rfl, rfl, rfl⟩, fun b hb => ?_, q⟩
  have e : b = s1.heap.objs.size := by simpa using hb
  subst e
  exact I1.fpOk (Nat.le_refl _) (I1.hok.fresh (Nat.le_refl _))
theorem pi_tup {l : Expr} {tl : TE} (hl : PE X l tl) : PI X tg l (iTup X.K tl) := by
  intro pins s σ H R I h
  refine thn (hl pins s σ H _ I h) fun v s1 ⟨x, H1, I1, r1, q1⟩ => ?_
  obtain ⟨a, e, ⟨xs, hq⟩, q⟩ := q1
  subst e
  cases r1
  obtain ⟨its, rv, p, hz⟩ := I1.tuple hq
  refine wpAny_pyIter_tuple (show s1.heap.IsTuple a its.toArray from p) ?_
  refine ⟨s1.heap.objs.size, [s1.heap.objs.size], _, _, H1, rfl, I1.kept (t' := s1.toks) fun b o e => Heap.get?_push_of_some _ e, turn_tuple a _, ⟨_, Heap.get?_push_size _ rfl, rfl, rfl⟩, fun b hb => ?_, q⟩
  have e : b = s1.heap.objs.size := by simpa using hb
  subst e
  exact I1.fpOk (Nat.le_refl _) (I1.hok.fresh (Nat.le_refl _))
/-- a range object just made, walked -/
theorem range_it {pins : List (Addr × Obj)} {σ : St} {H : Hp} {s : Shared} {R : It → Hp → Prop} {E : Value → Shared → Prop} {lo hi : Int} {t u v : Tok} {tk : Nat} (I : Inv X pins σ H s) (h1 : -(2 ^ 62) ≤ lo) (h2 : lo < 2 ^ 62) (h3 : -(2 ^ 62) ≤ hi) (h4 : hi < 2 ^ 62)
    (q : R (Itr lo (hi - lo).toNat) H) : wpAny (model X.prog X.w) X.A (pyIter (.ref s.heap.objs.size)) (PIE X pins σ tg R) E { s with heap := s.heap.push { cls := .type "range", data := .fields #[.int lo t, .int hi u, .int 1 v] }, toks := tk } := by
  refine wpAny_pyIter_range (IsRange.new ..) (small_one h1 h2 h3 h4) ?_
  have I1 : Inv X pins σ H { s with heap := s.heap.push { cls := .type "range", data := .fields #[.int lo t, .int hi u, .int 1 v] }, toks := tk } := I.kept fun b o e => Heap.get?_push_of_some _ e
  refine ⟨(s.heap.push { cls := .type "range", data := .fields #[.int lo t, .int hi u, .int 1 v] }).objs.size, [(s.heap.push { cls := .type "range", data := .fields #[.int lo t, .int hi u, .int 1 v] }).objs.size], _, _, H, rfl,
    I1.kept (t' := tk) fun b o e => Heap.get?_push_of_some _ e, turn_range _ lo (hi - lo).toNat, ?_, fun b hb => ?_, q⟩
  · have e1 : lo + ((0 : Nat) : Int) * 1 = lo := by simp
    have e2 : (((hi - lo).toNat : Nat) : Int) - ((0 : Nat) : Int) = Builtin.Range.rangeSize lo hi 1 := by rw [rangeSize_one]; split <;> omega
    show IsRangeIter _ _ (lo + ((0 : Nat) : Int) * 1) ((((hi - lo).toNat : Nat) : Int) - ((0 : Nat) : Int)) 1
    rw [e1, e2]
    exact Heap.get?_push_size _ rfl
  · have e : b = (s.heap.push { cls := .type "range", data := .fields #[.int lo t, .int hi u, .int 1 v] }).objs.size := by simpa using hb
    subst e
    exact I1.fpOk (Nat.le_refl _) (I1.hok.fresh (Nat.le_refl _))
def iRng1 (ta : TA) : TI := fun σ H R => ta σ H fun vs H1 => ∃ j : Int, vs = [.int j] ∧ -(2 ^ 62) ≤ j ∧ j < 2 ^ 62 ∧ R (Itr 0 j.toNat) H1
theorem pi_range1 {a : Expr} {ta : TA} {p pos : Pos} (hg : Gl X "range") (hm : X.mg "range" = none) (ha : PA X [a] ta) (hs : starEach [a] X.env = [(false, eval a X.env)] := by rfl) : PI X tg (.Call (.Name "range" p) [a] [] pos) (iRng1 ta) := by
  intro pins s σ H R I h
  refine Call_ (ld_blt I hg hm boot_range (PyProof.Rows.callWith_type1 (thn (ha pos pins s σ H _ I h) fun us s1 ⟨vs, H1, I1, r1, q1⟩ => ?_) hs rfl))
  obtain ⟨j, e, q1, q2, q⟩ := q1
  subst e
  cases r1 with
  | cons r rr =>
    cases rr
    obtain ⟨t, rfl⟩ := r
    exact call_range_1 (range_it I1 (by omega) (by omega) q1 q2 (by simpa using q))

/-! ### for -/
/-- W: the invariant by the turn and a measure; N: what the body is to reach -/
def tFor (wi : TI) (g : TG) (tb : TS) : TS := fun D σ H => wi σ H fun J H1 => ∃ W : Nat → Nat → St → Hp → Prop, (∃ m, W 0 m σ H1) ∧ ∀ i m σ H, W i m σ H →
  (J.stop i H ∧ D.nx σ H) ∨ (J.go i H ∧ ∃ N : St → Hp → Prop, (∀ σ' H', N σ' H' → ∃ m', m' < m ∧ W (i + 1) m' σ' H') ∧ ∀ x H', J.yld i H x H' → g x σ H' fun σ2 H2 => tb { D with nx := N, ct := N, bk := D.nx } σ2 H2)
/-- the records at fp as they stand -/
def pinsAt (fp : List Addr) (h : Heap) : List (Addr × Obj) := fp.filterMap fun b => (h.get? b).map fun o => (b, o)
theorem mem_pinsAt {fp : List Addr} {h : Heap} {b : Addr} {o : Obj} (hb : b ∈ fp) (e : h.get? b = some o) : (b, o) ∈ pinsAt fp h := List.mem_filterMap.mpr ⟨b, hb, by rw [e]; rfl⟩
theorem of_pinsAt {fp : List Addr} {h : Heap} {p : Addr × Obj} (hp : p ∈ pinsAt fp h) : p.1 ∈ fp ∧ h.get? p.1 = some p.2 := by
  obtain ⟨b, hb, e⟩ := List.mem_filterMap.mp hp
  cases q : h.get? b with
  | none => rw [q] at e; cases e
  | some o =>
    rw [q] at e
    have e' : (b, o) = p := Option.some.inj e
    subst e'
    exact ⟨hb, q⟩
theorem Inv.pinned {pins : List (Addr × Obj)} {σ : St} {H : Hp} {s : Shared} {fp : List Addr} (I : Inv X pins σ H s) (hf : ∀ b ∈ fp, FpOk X pins H b) (ho : ∀ b ∈ fp, ∃ o, s.heap.get? b = some o ∧ ∀ v, o.data ≠ .cell v) : Inv X (pins ++ pinsAt fp s.heap) σ H s :=
  I.pins_of fun p hp => (List.mem_append.mp hp).elim (fun z => I.pin p (List.mem_append_right _ z)) fun z => by
    obtain ⟨hb, e⟩ := of_pinsAt z
    obtain ⟨f0, f1, f2, _⟩ := hf p.1 hb
    obtain ⟨o, e', d⟩ := ho p.1 hb
    rw [e] at e'; cases e'
    exact ⟨e, f0, f1, f2, d⟩
theorem Inv.unpinned {pins pl : List (Addr × Obj)} {σ : St} {H : Hp} {s : Shared} (I : Inv X (pins ++ pl) σ H s) : Inv X pins σ H s := I.pins_of fun p hp => I.pin p (List.mem_append_right _ (List.mem_append_left _ hp))
theorem ps_for {iter : Expr} {body : List Stmt} {wi : TI} {g : TG} {tb : TS} {pos : Pos} (hp : PassesOwn (model X.prog X.w) X.A X.env X.xe) (hc : X.calm = true) (hi : PI X tg iter wi) (hg : PG X tg g) (hb : PSs X body tb)
    (hs : ∀ x, foldedSetIterable iter X.env x = pure x := by intro _; rfl) : PS X (.For tg iter body [] pos) (tFor wi g tb) := by
  intro pins s σ H D I h
  refine wpAny_For (thn (hi pins s σ H _ I h) fun v s1 h1 => thn h1 fun itv s2 h2 => ?_) hs
  obtain ⟨it, fp, tn, J, H2, e, I2, T, st2, f2, W, ⟨m0, w0⟩, turn⟩ := h2
  subst e
  -- what stays true of the iterator's objects through the loop
  have stat : ∀ {H' : Hp}, (∀ b ∈ fp, H' b = none) → ∀ b ∈ fp, FpOk X pins H' b := fun hn b hb => ⟨hn b hb, (f2 b hb).2⟩
  refine codeAny_forLoop_any (fun n s' => ∃ i σ' H', Inv X pins σ' H' s' ∧ tn i s'.heap ∧ (∀ b ∈ fp, H' b = none) ∧ W i n σ' H') ?_ m0 ⟨0, σ, H2, I2, st2, fun b hb => (f2 b hb).1, w0⟩
  rintro n s3 ⟨i, σ3, H3, I3, st3, fr3, w3⟩
  rcases turn i n σ3 H3 w3 with ⟨stop, qn⟩ | ⟨go, N, hN, step⟩
  · refine wpAny_passesOwn hp (thn (T.done X rfl rfl rfl hc i pins s3 σ3 H3 X.xe I3 (stat fr3) st3 stop) fun r s4 ⟨hr, I4⟩ => ?_)
    subst hr
    exact wpAny_execs_nil ⟨σ3, H3, I4, qn⟩
  · refine wpAny_passesOwn hp (thn (T.item X rfl rfl rfl hc i pins s3 σ3 H3 X.xe I3 (stat fr3) st3 go) fun r s4 ⟨u, hr, h4⟩ => ?_)
    subst hr
    refine wpAny_passesOwn hp (thn h4 fun _ s5 ⟨x, H5, I5, r5, y5, st5, fr5⟩ => ?_)
    have I5' := I5.pinned (stat fr5) (T.obj _ _ st5)
    refine wpAny_passesOwn hp (thn (hg _ s5 σ3 H5 x u _ I5' r5 (step x H5 y5)) fun _ s6 ⟨σ6, H6, I6, q6⟩ => ?_)
    refine wpAny_passesOwn hp (thn (hb _ s6 σ6 H6 _ I6 q6) fun f s7 q7 => ?_)
    have again : ∀ {σ7 : St} {H7 : Hp}, Inv X (pins ++ pinsAt fp s5.heap) σ7 H7 s7 → N σ7 H7 → ∃ m, m < n ∧ ∃ i σ' H', Inv X pins σ' H' s7 ∧ tn i s7.heap ∧ (∀ b ∈ fp, H' b = none) ∧ W i m σ' H' := fun {σ7 H7} I7 n7 => by
      obtain ⟨m', hm, w7⟩ := hN σ7 H7 n7
      refine ⟨m', hm, i + 1, σ7, H7, I7.unpinned, T.keep _ _ _ st5 fun b hb o e => (I7.pin (b, o) (List.mem_append_right _ (List.mem_append_right _ (mem_pinsAt hb e)))).1, fun b hb => ?_, w7⟩
      obtain ⟨o, e, d⟩ := T.obj _ _ st5 b hb
      exact (I7.pin (b, o) (List.mem_append_right _ (List.mem_append_right _ (mem_pinsAt hb e)))).2.1
    cases f with
    | next => obtain ⟨σ7, H7, I7, n7⟩ := q7; exact again I7 n7
    | cont => obtain ⟨σ7, H7, I7, n7⟩ := q7; exact again I7 n7
    | brk => obtain ⟨σ7, H7, I7, q7⟩ := q7; exact ⟨σ7, H7, I7.unpinned, q7⟩
    | ret v => obtain ⟨x7, σ7, H7, I7, r7, q7⟩ := q7; exact ⟨x7, σ7, H7, I7.unpinned, r7, q7⟩
end

/-! ### the forms one uses -/
/-- over a list that the body leaves as it is -/
theorem for_list {K : PySem.W.Frag} {a : Addr} {xs : List V} {g : TG} {tb : TS} {D : Ends} {σ : St} {H : Hp} (Pv : Nat → St → Hp → Prop) (h0 : Pv 0 σ H) (hl : ∀ i σ H, i ≤ xs.length → Pv i σ H → SqL K H a xs)
    (hs : ∀ i x σ H, xs[i]? = some x → Pv i σ H → g x σ H fun σ2 H2 => tb { D with nx := Pv (i + 1), ct := Pv (i + 1), bk := D.nx } σ2 H2) (hd : ∀ σ H, Pv xs.length σ H → D.nx σ H) :
    ∃ W : Nat → Nat → St → Hp → Prop, (∃ m, W 0 m σ H) ∧ ∀ i m σ H, W i m σ H →
      ((Itl K a).stop i H ∧ D.nx σ H) ∨ ((Itl K a).go i H ∧ ∃ N : St → Hp → Prop, (∀ σ' H', N σ' H' → ∃ m', m' < m ∧ W (i + 1) m' σ' H') ∧ ∀ x H', (Itl K a).yld i H x H' → g x σ H' fun σ2 H2 => tb { D with nx := N, ct := N, bk := D.nx } σ2 H2) := by
  refine ⟨fun i m σ H => m = xs.length - i ∧ i ≤ xs.length ∧ Pv i σ H, ⟨xs.length, by simp, Nat.zero_le _, h0⟩, ?_⟩
  rintro i m σ H ⟨rfl, hi, p⟩
  have q := hl i σ H hi p
  by_cases hlt : i < xs.length
  · refine .inr ⟨⟨xs, xs[i], q, by simp [hlt]⟩, Pv (i + 1), fun σ' H' p' => ⟨xs.length - (i + 1), by omega, rfl, hlt, p'⟩, fun x H' y => ?_⟩
    obtain ⟨e, y⟩ := y
    subst e
    exact hs i x σ _ (y xs q) p
  · have e : i = xs.length := by omega
    subst e
    exact .inl ⟨⟨xs, q, Nat.le_refl _⟩, hd σ H p⟩
theorem for_tup {K : PySem.W.Frag} {a : Addr} {xs : List V} {g : TG} {tb : TS} {D : Ends} {σ : St} {H : Hp} (Pv : Nat → St → Hp → Prop) (h0 : Pv 0 σ H) (hl : ∀ i σ H, i ≤ xs.length → Pv i σ H → SqT K H a xs)
    (hs : ∀ i x σ H, xs[i]? = some x → Pv i σ H → g x σ H fun σ2 H2 => tb { D with nx := Pv (i + 1), ct := Pv (i + 1), bk := D.nx } σ2 H2) (hd : ∀ σ H, Pv xs.length σ H → D.nx σ H) :
    ∃ W : Nat → Nat → St → Hp → Prop, (∃ m, W 0 m σ H) ∧ ∀ i m σ H, W i m σ H →
      ((Itt K a).stop i H ∧ D.nx σ H) ∨ ((Itt K a).go i H ∧ ∃ N : St → Hp → Prop, (∀ σ' H', N σ' H' → ∃ m', m' < m ∧ W (i + 1) m' σ' H') ∧ ∀ x H', (Itt K a).yld i H x H' → g x σ H' fun σ2 H2 => tb { D with nx := N, ct := N, bk := D.nx } σ2 H2) := by
  refine ⟨fun i m σ H => m = xs.length - i ∧ i ≤ xs.length ∧ Pv i σ H, ⟨xs.length, by simp, Nat.zero_le _, h0⟩, ?_⟩
  rintro i m σ H ⟨rfl, hi, p⟩
  have q := hl i σ H hi p
  by_cases hlt : i < xs.length
  · refine .inr ⟨⟨xs, xs[i], q, by simp [hlt]⟩, Pv (i + 1), fun σ' H' p' => ⟨xs.length - (i + 1), by omega, rfl, hlt, p'⟩, fun x H' y => ?_⟩
    obtain ⟨e, y⟩ := y
    subst e
    exact hs i x σ _ (y xs q) p
  · have e : i = xs.length := by omega
    subst e
    exact .inl ⟨⟨xs, q, Nat.le_refl _⟩, hd σ H p⟩
theorem for_range {lo : Int} {n : Nat} {g : TG} {tb : TS} {D : Ends} {σ : St} {H : Hp} (Pv : Nat → St → Hp → Prop) (h0 : Pv 0 σ H)
    (hs : ∀ i σ H, i < n → Pv i σ H → g (.int (lo + i)) σ H fun σ2 H2 => tb { D with nx := Pv (i + 1), ct := Pv (i + 1), bk := D.nx } σ2 H2) (hd : ∀ σ H, Pv n σ H → D.nx σ H) :
    ∃ W : Nat → Nat → St → Hp → Prop, (∃ m, W 0 m σ H) ∧ ∀ i m σ H, W i m σ H →
      ((Itr lo n).stop i H ∧ D.nx σ H) ∨ ((Itr lo n).go i H ∧ ∃ N : St → Hp → Prop, (∀ σ' H', N σ' H' → ∃ m', m' < m ∧ W (i + 1) m' σ' H') ∧ ∀ x H', (Itr lo n).yld i H x H' → g x σ H' fun σ2 H2 => tb { D with nx := N, ct := N, bk := D.nx } σ2 H2) := by
  refine ⟨fun i m σ H => m = n - i ∧ i ≤ n ∧ Pv i σ H, ⟨n, by simp, Nat.zero_le _, h0⟩, ?_⟩
  rintro i m σ H ⟨rfl, hi, p⟩
  by_cases hlt : i < n
  · refine .inr ⟨hlt, Pv (i + 1), fun σ' H' p' => ⟨n - (i + 1), by omega, rfl, hlt, p'⟩, fun x H' y => ?_⟩
    obtain ⟨e, y⟩ := y
    subst e y
    exact hs i σ _ hlt p
  · have e : i = n := by omega
    subst e
    exact .inl ⟨Nat.le_refl _, hd σ H p⟩
end L2

namespace L2
open PySem PySem.Spec PyProof.Rows

abbrev R2 := V → V → Hp → VK → Prop
/-- a two-place operation on values: f is binaryOp op, inplaceOp op or compareOp op -/
def OpR (X : Cx) (f : Value → Value → Sem Value) (r : R2) : Prop :=
  ∀ (pins : List (Addr × Obj)) (s : Shared) (σ : St) (H : Hp) (x y : V) (v u : Value) (Q : VK), Inv X pins σ H s → RelV x v → RelV y u → r x y H Q →
    wpAny (model X.prog X.w) X.A (f v u) (EP X pins σ Q) X.xe s
/-- a one-place operation -/
def UnR (X : Cx) (f : Value → Sem Value) (r : V → Hp → VK → Prop) : Prop :=
  ∀ (pins : List (Addr × Obj)) (s : Shared) (σ : St) (H : Hp) (x : V) (v : Value) (Q : VK), Inv X pins σ H s → RelV x v → r x H Q →
    wpAny (model X.prog X.w) X.A (f v) (EP X pins σ Q) X.xe s
/-- a call of a value that is known (a builtin, a type) with values -/
def CallR (X : Cx) (f : Value) (r : List V → Hp → VK → Prop) : Prop :=
  ∀ (pins : List (Addr × Obj)) (s : Shared) (σ : St) (H : Hp) (xs : List V) (us : List Value) (Q : VK), Inv X pins σ H s → Vals xs us → r xs H Q →
    wpAny (model X.prog X.w) X.A (call f us) (EP X pins σ Q) X.xe s

def tOp (r : R2) (ta tb : TE) : TE := fun σ H Q => ta σ H fun x H1 => tb σ H1 fun y H2 => r x y H2 Q
def tUn (r : V → Hp → VK → Prop) (ta : TE) : TE := fun σ H Q => ta σ H fun x H1 => r x H1 Q
/-- ints in, under C, and a value out -/
def rI (C : Int → Int → Prop) (g : Int → Int → V) : R2 := fun x y H Q => ∃ i j, x = .int i ∧ y = .int j ∧ C i j ∧ Q (g i j) H
def rI0 (g : Int → Int → V) : R2 := fun x y H Q => ∃ i j, x = .int i ∧ y = .int j ∧ Q (g i j) H
def rU (g : Int → V) : V → Hp → VK → Prop := fun x H Q => ∃ i, x = .int i ∧ Q (g i) H

section
variable {X : Cx} {a b c : Expr} {ta tb tc : TE} {pos : Pos}

theorem binT (ha : PE X a ta) (hb : PE X b tb) {pins : List (Addr × Obj)} {s : Shared} {σ : St} {H : Hp} {R : V → V → Hp → Prop} (I : Inv X pins σ H s)
    (h : ta σ H fun x H1 => tb σ H1 fun y H2 => R x y H2) {Q : Value → Shared → Prop} {f : Value → Value → Sem Value}
    (hf : ∀ v u s2 x y H2, Inv X pins σ H2 s2 → RelV x v → RelV y u → R x y H2 → wpAny (model X.prog X.w) X.A (f v u) Q X.xe s2) :
    wpAny (model X.prog X.w) X.A (eval a X.env) (fun v s₁ => wpAny (model X.prog X.w) X.A (eval b X.env) (fun u s₂ => wpAny (model X.prog X.w) X.A (f v u) Q X.xe s₂) X.xe s₁) X.xe s := by
  refine thn (ha pins s σ H _ I h) fun v s1 ⟨x, H1, I1, r1, q1⟩ => ?_
  refine thn (hb pins s1 σ H1 _ I1 q1) fun u s2 ⟨y, H2, I2, r2, q2⟩ => ?_
  exact hf v u s2 x y H2 I2 r1 r2 q2

theorem pe_op {op : Operator} {r : R2} (ho : OpR X (binaryOp op) r) (ha : PE X a ta) (hb : PE X b tb) : PE X (.BinOp a op b pos) (tOp r ta tb) := by
  intro pins s σ H Q I h
  exact wpAny_BinOp (binT ha hb I h fun v u s2 x y H2 I2 rx ry q => ho pins s2 σ H2 x y v u Q I2 rx ry q)
theorem pe_un {op : UnaryOp} {r : V → Hp → VK → Prop} (ho : UnR X (unaryOp op) r) (ha : PE X a ta) : PE X (.UnaryOp op a pos) (tUn r ta) := by
  intro pins s σ H Q I h
  exact UnaryOp_ (thn (ha pins s σ H _ I h) fun v s1 ⟨x, H1, I1, r1, q1⟩ => ho pins s1 σ H1 x v Q I1 r1 q1)

/-! ### ints -/
theorem opI {f : Value → Value → Sem Value} {C : Int → Int → Prop} {g : Int → Int → Int}
    (rule : ∀ (i j : Int) (t u : Tok) (s : Shared) (Q : Value → Shared → Prop) (E : Value → Shared → Prop), C i j → Q (.int (g i j) s.toks) { s with toks := s.toks + 1 } → wpAny (model X.prog X.w) X.A (f (.int i t) (.int j u)) Q E s) :
    OpR X f (rI C fun i j => .int (g i j)) := by
  intro pins s σ H x y v u Q I rx ry h
  obtain ⟨i, j, rfl, rfl, hc, q⟩ := h
  obtain ⟨t, rfl⟩ := rx
  obtain ⟨t', rfl⟩ := ry
  exact rule i j t t' s _ _ hc ⟨.int (g i j), H, I.tok _, ⟨_, rfl⟩, q⟩
theorem opI0 {f : Value → Value → Sem Value} {g : Int → Int → Int}
    (rule : ∀ (i j : Int) (t u : Tok) (s : Shared) (Q : Value → Shared → Prop) (E : Value → Shared → Prop), Q (.int (g i j) s.toks) { s with toks := s.toks + 1 } → wpAny (model X.prog X.w) X.A (f (.int i t) (.int j u)) Q E s) :
    OpR X f (rI0 fun i j => .int (g i j)) := by
  intro pins s σ H x y v u Q I rx ry h
  obtain ⟨i, j, rfl, rfl, q⟩ := h
  obtain ⟨t, rfl⟩ := rx
  obtain ⟨t', rfl⟩ := ry
  exact rule i j t t' s _ _ ⟨.int (g i j), H, I.tok _, ⟨_, rfl⟩, q⟩
theorem opB0 {f : Value → Value → Sem Value} {g : Int → Int → Bool}
    (rule : ∀ (i j : Int) (t u : Tok) (s : Shared) (Q : Value → Shared → Prop) (E : Value → Shared → Prop), Q (.bool (g i j)) s → wpAny (model X.prog X.w) X.A (f (.int i t) (.int j u)) Q E s) :
    OpR X f (rI0 fun i j => .bl (g i j)) := by
  intro pins s σ H x y v u Q I rx ry h
  obtain ⟨i, j, rfl, rfl, q⟩ := h
  obtain ⟨t, rfl⟩ := rx
  obtain ⟨t', rfl⟩ := ry
  exact rule i j t t' s _ _ ⟨.bl (g i j), H, I, rfl, q⟩

def CDiv (i j : Int) : Prop := 0 < j ∧ j < 1073741824
def CPow (i j : Int) : Prop := 0 ≤ j ∧ j ≤ 1000000 ∧ i.natAbs < 2 ^ 64
def CMul (i j : Int) : Prop := (-(2 ^ 64) < i ∧ i < 2 ^ 64) ∨ (-(2 ^ 64) < j ∧ j < 2 ^ 64)
theorem CMul.ok {i j : Int} (h : CMul i j) : IntMulOk i j := by
  rcases h with ⟨h1, h2⟩ | ⟨h1, h2⟩
  · exact .of_left (intBits_le_64 h1 h2)
  · exact .of_right (intBits_le_64 h1 h2)

theorem op_add : OpR X (binaryOp .Add) (rI0 fun i j => .int (i + j)) := opI0 fun _ _ _ _ _ _ _ q => add_int q
theorem op_sub : OpR X (binaryOp .Sub) (rI0 fun i j => .int (i - j)) := opI0 fun _ _ _ _ _ _ _ q => sub_int q
theorem op_mul : OpR X (binaryOp .Mult) (rI CMul fun i j => .int (i * j)) := opI fun _ _ _ _ _ _ _ hc q => mul_int q hc.ok
/-- // by a positive divisor -/
theorem op_fdiv : OpR X (binaryOp .FloorDiv) (rI CDiv fun i j => .int (i / j)) := opI fun i j _ _ _ _ _ hc q => by
  have h1 : (0 : Int) < j := hc.1
  have h2 : j < 1073741824 := hc.2
  exact floordiv_int (by omega) (by rw [Int.fdiv_eq_ediv_of_nonneg i (by omega)]; exact q) (.inl (PyProof.noPylong_small (by omega)))
/-- % by a positive divisor of any size -/
theorem op_mod : OpR X (binaryOp .Mod) (rI (fun _ j => 0 < j) fun i j => .int (i % j)) := opI fun i j _ _ _ _ _ hc q => by
  have h1 : (0 : Int) < j := hc
  exact mod_int' (by omega) (by rw [Int.fmod_eq_emod_of_nonneg i (by omega)]; exact q)
theorem op_pow : OpR X (binaryOp .Pow) (rI CPow fun i j => .int (i ^ j.toNat)) := opI fun _ _ _ _ _ _ _ hc q => pow_int_small hc.1 hc.2.1 hc.2.2 q


theorem unI {f : Value → Sem Value} {g : Int → Int}
    (rule : ∀ (i : Int) (t : Tok) (s : Shared) (Q : Value → Shared → Prop) (E : Value → Shared → Prop), Q (.int (g i) s.toks) { s with toks := s.toks + 1 } → wpAny (model X.prog X.w) X.A (f (.int i t)) Q E s) :
    UnR X f (rU fun i => .int (g i)) := by
  intro pins s σ H x v Q I rx h
  obtain ⟨i, rfl, q⟩ := h
  obtain ⟨t, rfl⟩ := rx
  exact rule i t s _ _ ⟨.int (g i), H, I.tok _, ⟨_, rfl⟩, q⟩
theorem un_neg : UnR X (unaryOp .USub) (rU fun i => .int (-i)) := unI fun _ _ _ _ _ q => neg_int q

/-! ### bools among ints: n += (a < b) -/
end

/-! ### comparisons -/
/-- the scalars that == tells apart as data does -/
def scal : V → V → Bool
  | .non, .non => true | .non, .int _ => true | .int _, .non => true | .non, .bl _ => true | .bl _, .non => true | .non, .str _ => true | .str _, .non => true
  | .int _, .int _ => true | .bl _, .bl _ => true | .str _, .str _ => true | .byt _, .byt _ => true
  | .int _, .str _ => true | .str _, .int _ => true | .bl _, .str _ => true | .str _, .bl _ => true
  | _, _ => false
def rEq : R2 := fun x y H Q => scal x y = true ∧ Q (.bl (decide (x = y))) H
def rNe : R2 := fun x y H Q => scal x y = true ∧ Q (.bl (!decide (x = y))) H

theorem dec_int {i j : Int} : decide (V.int i = V.int j) = (i == j) := by
  rw [Bool.eq_iff_iff]
  simp
theorem dec_bl {i j : Bool} : decide (V.bl i = V.bl j) = (i == j) := by
  rw [Bool.eq_iff_iff]
  simp
theorem dec_str {i j : Str} : decide (V.str i = V.str j) = (i == j) := by
  rw [Bool.eq_iff_iff]
  simp
theorem dec_byt {i j : Array UInt8} : decide (V.byt i = V.byt j) = (i.toList == j.toList) := by
  rw [Bool.eq_iff_iff]
  cases i
  cases j
  simp

section
variable {X : Cx} {a b c : Expr} {ta tb tc : TE} {pos : Pos}
theorem fin_bl {pins : List (Addr × Obj)} {σ : St} {H : Hp} {s : Shared} {Q : VK} {k k' : Bool} (I : Inv X pins σ H s) (q : Q (.bl k) H) (e : k = k') : EP X pins σ Q (.bool k') s := by
  subst e
  exact ⟨.bl k, H, I, rfl, q⟩
theorem op_eq : OpR X (compareOp .Eq) rEq := by
  intro pins s σ H x y v u Q I rx ry h
  obtain ⟨hs, q⟩ := h
  cases x with
  | non =>
    cases rx
    cases y with
    | non => cases ry; exact PySem.EqNone.eq_none_none (fin_bl I q (by simp))
    | bl j => cases ry; exact PySem.EqNone.eq_none_bool (fin_bl I q (by simp))
    | int j => obtain ⟨t', rfl⟩ := ry; exact PySem.EqNone.eq_none_int (fin_bl I q (by simp))
    | str j => obtain ⟨t', rfl⟩ := ry; exact PySem.EqNone.eq_none_str (fin_bl I q (by simp))
    | _ => exact absurd (show false = true from hs) Bool.false_ne_true
  | bl i =>
    cases rx
    cases y with
    | non => cases ry; exact PySem.EqNone.eq_bool_none (fin_bl I q (by simp))
    | bl j => cases ry; exact eq_bool (fin_bl I q dec_bl)
    | str j => obtain ⟨t', rfl⟩ := ry; exact PySem.EqMixed.eq_bool_str (fin_bl I q (by simp))
    | _ => exact absurd (show false = true from hs) Bool.false_ne_true
  | int i =>
    obtain ⟨t, rfl⟩ := rx
    cases y with
    | non => cases ry; exact PySem.EqNone.eq_int_none (fin_bl I q (by simp))
    | int j => obtain ⟨t', rfl⟩ := ry; exact eq_int (fin_bl I q dec_int)
    | str j => obtain ⟨t', rfl⟩ := ry; exact PySem.EqMixed.eq_int_str (fin_bl I q (by simp))
    | _ => exact absurd (show false = true from hs) Bool.false_ne_true
  | str i =>
    obtain ⟨t, rfl⟩ := rx
    cases y with
    | non => cases ry; exact PySem.EqNone.eq_str_none (fin_bl I q (by simp))
    | bl j => cases ry; exact PySem.EqMixed.eq_str_bool (fin_bl I q (by simp))
    | int j => obtain ⟨t', rfl⟩ := ry; exact PySem.EqMixed.eq_str_int (fin_bl I q (by simp))
    | str j => obtain ⟨t', rfl⟩ := ry; exact eq_str (fin_bl I q dec_str)
    | _ => exact absurd (show false = true from hs) Bool.false_ne_true
  | byt i =>
    obtain ⟨t, rfl⟩ := rx
    cases y with
    | byt j => obtain ⟨t', rfl⟩ := ry; exact PySem.W.eq_bytes (fin_bl I q dec_byt)
    | _ => exact absurd (show false = true from hs) Bool.false_ne_true
  | _ => cases y <;> exact absurd (show false = true from hs) Bool.false_ne_true
theorem op_ne : OpR X (compareOp .NotEq) rNe := by
  intro pins s σ H x y v u Q I rx ry h
  obtain ⟨hs, q⟩ := h
  cases x with
  | non =>
    cases rx
    cases y with
    | non => cases ry; exact PySem.EqNone.ne_none_none (fin_bl I q (by simp))
    | bl j => cases ry; exact PySem.EqNone.ne_none_bool (fin_bl I q (by simp))
    | int j => obtain ⟨t', rfl⟩ := ry; exact PySem.EqNone.ne_none_int (fin_bl I q (by simp))
    | str j => obtain ⟨t', rfl⟩ := ry; exact PySem.EqNone.ne_none_str (fin_bl I q (by simp))
    | _ => exact absurd (show false = true from hs) Bool.false_ne_true
  | bl i =>
    cases rx
    cases y with
    | non => cases ry; exact PySem.EqNone.ne_bool_none (fin_bl I q (by simp))
    | bl j => cases ry; exact ne_bool (fin_bl I q (congrArg not dec_bl))
    | str j => obtain ⟨t', rfl⟩ := ry; exact PySem.EqMixed.ne_bool_str (fin_bl I q (by simp))
    | _ => exact absurd (show false = true from hs) Bool.false_ne_true
  | int i =>
    obtain ⟨t, rfl⟩ := rx
    cases y with
    | non => cases ry; exact PySem.EqNone.ne_int_none (fin_bl I q (by simp))
    | int j => obtain ⟨t', rfl⟩ := ry; exact ne_int (fin_bl I q (congrArg not dec_int))
    | str j => obtain ⟨t', rfl⟩ := ry; exact PySem.EqMixed.ne_int_str (fin_bl I q (by simp))
    | _ => exact absurd (show false = true from hs) Bool.false_ne_true
  | str i =>
    obtain ⟨t, rfl⟩ := rx
    cases y with
    | non => cases ry; exact PySem.EqNone.ne_str_none (fin_bl I q (by simp))
    | bl j => cases ry; exact PySem.EqMixed.ne_str_bool (fin_bl I q (by simp))
    | int j => obtain ⟨t', rfl⟩ := ry; exact PySem.EqMixed.ne_str_int (fin_bl I q (by simp))
    | str j => obtain ⟨t', rfl⟩ := ry; exact ne_str (fin_bl I q (congrArg not dec_str))
    | _ => exact absurd (show false = true from hs) Bool.false_ne_true
  | byt i =>
    obtain ⟨t, rfl⟩ := rx
    cases y with
    | byt j => obtain ⟨t', rfl⟩ := ry; exact PySem.W.ne_bytes (fin_bl I q (congrArg not dec_byt))
    | _ => exact absurd (show false = true from hs) Bool.false_ne_true
  | _ => cases y <;> exact absurd (show false = true from hs) Bool.false_ne_true

theorem op_lt : OpR X (compareOp .Lt) (rI0 fun i j => .bl (decide (i < j))) := opB0 fun _ _ _ _ _ _ _ q => lt_int q
theorem op_le : OpR X (compareOp .LtE) (rI0 fun i j => .bl (decide (i ≤ j))) := opB0 fun _ _ _ _ _ _ _ q => le_int q
theorem op_gt : OpR X (compareOp .Gt) (rI0 fun i j => .bl (decide (j < i))) := opB0 fun _ _ _ _ _ _ _ q => gt_int q
theorem op_ge : OpR X (compareOp .GtE) (rI0 fun i j => .bl (decide (j ≤ i))) := opB0 fun _ _ _ _ _ _ _ q => ge_int q




theorem nomark (b : Expr) {op : CmpOp} (h : op ≠ .In := by decide) (h2 : op ≠ .NotIn := by decide) : behindInMarks op b = false := by
  have e1 : (op == CmpOp.In) = false := by cases op <;> first | rfl | exact absurd rfl h
  have e2 : (op == CmpOp.NotIn) = false := by cases op <;> first | rfl | exact absurd rfl h2
  cases b <;> simp [behindInMarks, e1, e2]
/-- a comparison as a value; hm: nomark b, or (for in, not in) by with_unfolding_all rfl -/
theorem pe_cmpR {op : CmpOp} {r : R2} (ho : OpR X (compareOp op) r) (ha : PE X a ta) (hb : PE X b tb) (hm : behindInMarks op b = false) : PE X (.Compare a [op] [b] pos) (tOp r ta tb) := by
  intro pins s σ H Q I h
  exact wpAny_Compare1 (binT ha hb I h fun v u s2 x y H2 I2 rx ry q => ho pins s2 σ H2 x y v u Q I2 rx ry q) hm
/-- a reading of a value as a test -/
def tTest (t : TE) : TT := fun σ H Q => t σ H fun x H' => ∃ k, x = .bl k ∧ Q k H'
theorem pt_cmpR {op : CmpOp} {r : R2} (ho : OpR X (compareOp op) r) (ha : PE X a ta) (hb : PE X b tb) (hm : behindInMarks op b = false) : PT X (.Compare a [op] [b] pos) (tTest (tOp r ta tb)) := by
  intro pins s σ H Q I h
  refine wpAny_isTrue_Compare1 (thn (ha pins s σ H _ I h) fun v s1 ⟨x, H1, I1, r1, q1⟩ => thn (hb pins s1 σ H1 _ I1 q1) fun u s2 ⟨y, H2, I2, r2, q2⟩ =>
    thn (ho pins s2 σ H2 x y v u _ I2 r1 r2 q2) fun c s3 ⟨z, H3, I3, r3, k, e, q3⟩ => ?_) hm
  subst e
  cases r3
  exact wpAny_truthy_bool ⟨H3, I3, q3⟩
/-- a op1 b op2 c -/
def tChain (r r' : R2) (ta tb tc : TE) : TE := fun σ H Q => ta σ H fun x H1 => tb σ H1 fun y H2 => r x y H2 fun z H3 => ∃ k, z = .bl k ∧
  (if k = true then tc σ H3 fun w' H4 => r' y w' H4 Q else Q (.bl false) H3)
theorem pt_chain {op op' : CmpOp} {r r' : R2} (ho : OpR X (compareOp op) r) (ho' : OpR X (compareOp op') r') (ha : PE X a ta) (hb : PE X b tb) (hc : PE X c tc)
    (hm : lastMarks [op, op'] [b, c] = false := by with_unfolding_all rfl) : PT X (.Compare a [op, op'] [b, c] pos) (tTest (tChain r r' ta tb tc)) := by
  intro pins s σ H Q I h
  refine isTrue_chain (thn (ha pins s σ H _ I h) fun v s1 ⟨x, H1, I1, r1, q1⟩ => test_link (thn (hb pins s1 σ H1 _ I1 q1) fun u s2 ⟨y, H2, I2, r2, q2⟩ =>
    thn (ho pins s2 σ H2 x y v u _ I2 r1 r2 q2) fun d s3 ⟨z, H3, I3, r3, k, e, q3⟩ => ?_)) hm
  subst e
  cases r3
  refine wpAny_truthy_bool ?_
  cases k with
  | false =>
    obtain ⟨k', e', q'⟩ := q3
    cases e'
    exact ite_ff ⟨H3, I3, q'⟩
  | true =>
    refine ite_tt (test_last (thn (hc pins s3 σ H3 _ I3 q3) fun w' s4 ⟨z', H4, I4, r4, q4⟩ => thn (ho' pins s4 σ H4 y z' u w' _ I4 r2 r4 q4) fun d' s5 ⟨z2, H5, I5, r5, k2, e2, q5⟩ => ?_))
    subst e2
    cases r5
    exact wpAny_truthy_bool ⟨H5, I5, q5⟩

/-! ### truth -/
theorem line63 : (sizeLine : Nat) < 2 ^ 63 := by rw [sizeLine_eq]; decide

/-! ### strs and bytes -/


/-! ### scalar builtins, by CallR -/
theorem vals1 {x : V} {us : List Value} (r : Vals [x] us) : ∃ u, us = [u] ∧ RelV x u := by
  cases r with
  | cons r1 r2 => cases r2; exact ⟨_, rfl, r1⟩
theorem vals2 {x y : V} {us : List Value} (r : Vals [x, y] us) : ∃ u w', us = [u, w'] ∧ RelV x u ∧ RelV y w' := by
  cases r with
  | cons r1 r2 =>
    cases r2 with
    | cons r3 r4 => cases r4; exact ⟨_, _, rfl, r1, r3⟩
theorem call_abs : CallR X (.builtin "abs") (fun xs H Q => ∃ i, xs = [.int i] ∧ Q (.int (if i < 0 then -i else i)) H) := by
  intro pins s σ H xs us Q I r h
  obtain ⟨i, rfl, q⟩ := h
  obtain ⟨u, rfl, t, rfl⟩ := vals1 r
  exact call_abs_int fun u tk => ⟨.int (if i < 0 then -i else i), H, I.tok _, ⟨_, rfl⟩, q⟩
theorem call_min2 (hc : X.calm = true) : CallR X (.builtin "min") (fun xs H Q => ∃ i j, xs = [.int i, .int j] ∧ Q (.int (if j < i then j else i)) H) := by
  intro pins s σ H xs us Q I r h
  obtain ⟨i, j, rfl, q⟩ := h
  obtain ⟨u, w', rfl, ⟨t, rfl⟩, ⟨t', rfl⟩⟩ := vals2 r
  refine min_two_ints (I.ok.hd hc) fun h' tk k => ⟨_, H, I.kept k, ?_, q⟩
  by_cases hj : j < i
  · rw [if_pos hj, if_pos hj]; exact ⟨_, rfl⟩
  · rw [if_neg hj, if_neg hj]; exact ⟨_, rfl⟩
theorem call_int1 : CallR X (.type "int") (fun xs H Q => (∃ i, xs = [.int i] ∧ Q (.int i) H) ∨ ∃ k, xs = [.bl k] ∧ Q (.int (if k then 1 else 0)) H) := by
  intro pins s σ H xs us Q I r h
  rcases h with ⟨i, rfl, q⟩ | ⟨k, rfl, q⟩
  · obtain ⟨u, rfl, t, rfl⟩ := vals1 r
    exact call_int_int ⟨.int i, H, I, ⟨_, rfl⟩, q⟩
  · obtain ⟨u, rfl, r1⟩ := vals1 r
    cases r1
    exact call_int_bool ⟨.int (if k then 1 else 0), H, I.tok _, ⟨_, rfl⟩, q⟩
end
end L2

namespace L2
open PySem PySem.Spec PyProof.Rows

/-! ### an instance, its attributes a map -/



section
variable {prog : Program} {w : World} {A : Around} {E : Value → Shared → Prop} {s : Shared} {K : PySem.W.Frag} {x dx C f : Addr} {mA : Str → Option Value} {name : Str} {v : Value}





end

/-! ### the attributes as a list of pairs -/

theorem RelO.some_of {v : V} {o : Option Value} (r : RelO (some v) o) : ∃ u, o = some u ∧ RelV v u := by
  cases o with
  | none => exact (show False from r).elim
  | some u => exact ⟨u, rfl, r⟩

section
variable {P : Program} {w : World} {H H' : Hp} {h h' : Heap} {a C dx : Addr} {fs fs' : List (Str × V)}
end

/-! ### what of the text a class must have -/

section
variable {X : Cx} {pins : List (Addr × Obj)} {σ : St} {H : Hp} {s : Shared} {a C dx : Addr} {fs : List (Str × V)} {f : Str} {v : V} {A : Around} {E : Value → Shared → Prop}






end

/-! ### readings and rules -/

section
variable {X : Cx} {o e value : Expr} {f : Str} {pos pos' tpos : Pos} {ta tv : TE}

end

/-! ### isinstance -/
section
variable {X : Cx} {pins : List (Addr × Obj)} {σ : St} {H : Hp} {s : Shared} {A : Around} {E : Value → Shared → Prop} {Q : Value → Shared → Prop} {c : Value} {b : Bool}
end
end L2

namespace L2
open PySem PySem.Spec PyProof.Rows

/-! ### room -/
structure Room (k : Nat) (A : Around) : Prop where
  hd : A.handled = none
  dp : A.depth + 3 * k + 5 < recursionLimit
  un : A.units + 16 * k + 200 < cLine
  gd : A.guards = some []
theorem Room.mono {j k : Nat} {A : Around} (r : Room k A) (h : j ≤ k) : Room j A := ⟨r.hd, by have := r.dp; omega, by have := r.un; omega, r.gd⟩
theorem Room.deeper {k : Nat} {A : Around} (r : Room (k + 1) A) (env : Env) : Room k (A.deeper env) :=
  ⟨r.hd, by have := r.dp; show A.depth + 1 + 3 * k + 5 < _; omega, by have := r.un; show A.units + 3 + 16 * k + 200 < _; omega, r.gd⟩
theorem Room.depth {k : Nat} {A : Around} (r : Room k A) : A.depth < recursionLimit := by have := r.dp; omega
theorem Room.units {k : Nat} {A : Around} (r : Room k A) : A.units + 64 < cLine := by have := r.un; omega

/-! ### argument lists and displays -/
def tNil : TA := fun _ H Q => Q [] H
def tCons (ta : TE) (tr : TA) : TA := fun σ H Q => ta σ H fun x H1 => tr σ H1 fun xs H2 => Q (x :: xs) H2
section
variable {X : Cx} {e : Expr} {es : List Expr} {te : TE} {t : TA} {pos : Pos}
theorem pa_nil : PA X [] tNil := fun _ _ _ _ H Q I h => Calls.spliced_nil ⟨[], H, I, .nil, h⟩
theorem pa_cons (ha : PE X e te) (hr : PA X es t) (hs : starEach (e :: es) X.env = (false, eval e X.env) :: starEach es X.env := by rfl) : PA X (e :: es) (tCons te t) := by
  intro pos pins s σ H Q I h
  rw [hs]
  show wpAny _ _ (spliced ((false, eval e X.env) :: backTo pos (starEach es X.env))) _ _ s
  refine Calls.spliced_cons (thn (ha pins s σ H _ I h) fun u s1 ⟨x, H1, I1, r1, q1⟩ => ?_)
  exact thn (hr pos pins s1 σ H1 _ I1 q1) fun us s2 ⟨xs, H2, I2, r2, q2⟩ => ⟨x :: xs, H2, I2, .cons r1 r2, q2⟩

/-- a tuple, a list of written items -/
def tTup (t : TA) : TE := fun σ H Q => t σ H fun xs H1 => xs.length ≤ sizeLine ∧ ∀ p, H1 p = none → Q (.ref p) (upd H1 p (.tup xs))
def tLst (t : TA) : TE := fun σ H Q => t σ H fun xs H1 => xs.length ≤ sizeLine ∧ ∀ p, H1 p = none → Q (.ref p) (upd H1 p (.lst xs))
theorem pe_tup {x1} (h : PA X es t) : PE X (.Tuple es x1 pos) (tTup t) := by
  intro pins s σ H Q I hq
  refine wpAny_Tuple_spliced (thn (h pos pins s σ H _ I hq) fun us s1 ⟨xs, H1, I1, r, z, q⟩ => ⟨by rw [← r.length]; exact z, ?_⟩)
  have hf : H1 s1.heap.objs.size = none := I1.hok.fresh (Nat.le_refl _)
  refine ⟨.ref s1.heap.objs.size, upd H1 s1.heap.objs.size (.tup xs), I1.laid (t' := s1.toks) (fun b u e => Heap.get?_push_of_some _ e) (Nat.le_refl _) ?_, rfl, q _ hf⟩
  exact ⟨z, us, r, ⟨_, Heap.get?_push_size _ rfl, rfl, _, rfl⟩⟩
theorem pe_lst (h : PA X es t) : PE X (.List es pos) (tLst t) := by
  intro pins s σ H Q I hq
  refine wpAny_List_spliced (thn (h pos pins s σ H _ I hq) fun us s1 ⟨xs, H1, I1, r, z, q⟩ => ⟨by rw [← r.length]; exact z, ?_⟩)
  have hf : H1 s1.heap.objs.size = none := I1.hok.fresh (Nat.le_refl _)
  refine ⟨.ref s1.heap.objs.size, upd H1 s1.heap.objs.size (.lst xs), I1.laid (t' := s1.toks) (fun b u e => Heap.get?_push_of_some _ e) (Nat.le_refl _) ?_, rfl, q _ hf⟩
  exact ⟨z, us, 0, r, Heap.get?_push_size _ rfl⟩
end

/-! ### what a def promises -/
/-- a def's promise: the bound arguments in the parameters' order, the heap, the wanted end, the wanted exception -/
abbrev Sp := List V → Hp → VK → XK → Prop
/-- how an exception lies behind a call (file 08 gives it): the callers' frames, abstract heap and state ahead of the call, the wish, the exception, the state -/
abbrev CXT := List Env → Hp → Shared → XK → Value → Shared → Prop

/-- the state at a call -/
structure Env0 (P : Program) (w : World) (K : PySem.W.Frag) (mg : Str → Option Value) (base : Heap) (A : Around) (outer : List Env) (s : Shared) (H : Hp) : Prop where
  frames : A.frames = some outer
  mod : Mod K mg base
  bs : ∀ b o, base.get? b = some o → s.heap.get? b = some o ∧ H b = none
  bsz : base.objs.size ≤ s.heap.objs.size
  funs : s.heap.FunFrames base outer
  frf : ∀ b ∈ frs outer, H b = none
  hok : HOk P w H s.heap
  bare : AllBare s.gens
/-- a call's end -/
def CE (outer : List Env) (P : Program) (w : World) (H : Hp) (s : Shared) (Q : VK) (u : Value) (s' : Shared) : Prop :=
  ∃ v H', s'.os = s.os ∧ AllBare s'.gens ∧ Un (frs outer) [] H H' s.heap s'.heap ∧ HOk P w H' s'.heap ∧ RelV v u ∧ Q v H'
def CR (CX : CXT) (outer : List Env) (P : Program) (w : World) (H : Hp) (s : Shared) (Q : VK) (E : XK) (r : Result) (s' : Shared) : Prop :=
  match r with
  | .ok (.ret u) => CE outer P w H s Q u s'
  | .ok _ => False
  | .error e => CX outer H s E e s'
structure FnOk (P : Program) (w : World) (K : PySem.W.Frag) (mg : Str → Option Value) (base : Heap) (CX : CXT) (k : Nat) (f : Addr) (fd : FuncData) (ps : List Str) (sp : Sp) : Prop where
  len : ∀ vs H Q E, sp vs H Q E → vs.length = ps.length
  run : ∀ (A : Around) (outer : List Env) (s : Shared) (H : Hp) (args : Args) (us : List Value) (vs : List V) (Q : VK) (E : XK), Room k A → Env0 P w K mg base A outer s H → BindsTo s fd args (ps.zip us) → Vals vs us → sp vs H Q E →
    codeAny (model P w) A (.call (.ref f) args) (CR CX outer P w H s Q E) s
/-- a weaker promise -/
theorem FnOk.imp {P : Program} {w : World} {K : PySem.W.Frag} {mg : Str → Option Value} {base : Heap} {CX : CXT} {k : Nat} {f : Addr} {fd : FuncData} {ps : List Str} {sp sp' : Sp} (F : FnOk P w K mg base CX k f fd ps sp)
    (h : ∀ vs H Q E, sp' vs H Q E → sp vs H Q E) : FnOk P w K mg base CX k f fd ps sp' :=
  ⟨fun vs H Q E q => F.len vs H Q E (h _ _ _ _ q), fun A outer s H args us vs Q E hr he hb hv hs => F.run A outer s H args us vs Q E hr he hb hv (h _ _ _ _ hs)⟩


section
variable {X : Cx} {pins : List (Addr × Obj)} {σ : St} {H : Hp} {s s' : Shared}
/-- from a body: what a callee wants -/
theorem Inv.env0 (I : Inv X pins σ H s) : Env0 X.prog X.w X.K X.mg X.base X.A X.stack s H :=
  ⟨I.ok.frames, I.ok.mod, I.bs, Nat.le_trans I.ok.bsz I.sz, I.stack, I.stkFree, I.hok, I.bare⟩
/-- behind a call -/
theorem Inv.after {Q : VK} {u : Value} (I : Inv X pins σ H s) (h : CE X.stack X.prog X.w H s Q u s') : EP X pins σ Q u s' := by
  obtain ⟨v, H', os, bare, un, hok, r, q⟩ := h
  obtain ⟨hh, g, d, t, os'⟩ := s'
  obtain rfl : os' = s.os := os
  exact ⟨v, H', I.call (h' := hh) (g' := g) (d' := d) (t' := t) (ch := []) un hok bare (fun b z => absurd z (by simp)), r, q⟩
end

/-! ### calls -/
/-- f(..): the written arguments, then the defaults dvs; E: what is wanted of an exception -/
def tCall (sp : Sp) (dvs : List V) (E : XK) (t : TA) : TE := fun σ H Q => t σ H fun vs H1 => sp (vs ++ dvs) H1 Q E

/-- how the parameters are bound: us the positional arguments, kw the keywords' values by name, ds the defaults that fill up -/
def Binds (K : PySem.W.Frag) (fd : FuncData) (ps : List Str) (ds : List Value) : Prop :=
  ∀ (s : Shared) (us : List Value), K.In s.heap → (us ++ ds).length = ps.length → BindsTo s fd ⟨us, []⟩ (ps.zip (us ++ ds))
/-- every parameter is given -/
theorem Binds.all {K : PySem.W.Frag} {fd : FuncData} {ps : List Str} (h : ∀ us : List Value, us.length = ps.length → bindArgs fd ⟨us, []⟩ = pure (ps.zip us)) : Binds K fd ps [] := fun s us _ hl => by
  rw [List.append_nil] at hl ⊢
  exact .of_eq (h us hl)

/-- an exception of a callee reaches what this body wants of exceptions -/
def Passes (CX : CXT) (X : Cx) (E : XK) : Prop := ∀ (pins : List (Addr × Obj)) (σ : St) (H : Hp) (s : Shared) (e : Value) (s' : Shared), Inv X pins σ H s → CX X.stack H s E e s' → X.xe e s'

section
variable {X : Cx} {CX : CXT} {k : Nat} {f C : Addr} {fd : FuncData} {ps : List Str} {sp : Sp} {dvs : List V} {ds : List Value} {E : XK} {x m : Str} {p pos apos : Pos} {e o : Expr} {es : List Expr} {ta : TE} {t : TA}

/-- the callee runs -/
theorem run_fn {pins : List (Addr × Obj)} {σ : St} {H : Hp} {s : Shared} {Q : VK} {us : List Value} {vs : List V} (F : FnOk X.prog X.w X.K X.mg X.base CX k f fd ps sp) (hr : Room k X.A) (hb : Binds X.K fd ps ds) (hd : Vals dvs ds) (hx : Passes CX X E)
    (I : Inv X pins σ H s) (r : Vals vs us) (h : sp (vs ++ dvs) H Q E) : wpAny (model X.prog X.w) X.A (call (.ref f) us) (EP X pins σ Q) X.xe s := by
  have r2 : Vals (vs ++ dvs) (us ++ ds) := r.append hd
  have hl : (us ++ ds).length = ps.length := by rw [← r2.length]; exact F.len _ _ _ _ h
  refine wpAny_call (codeAny_mono (F.run X.A X.stack s H ⟨us, []⟩ (us ++ ds) (vs ++ dvs) Q E hr I.env0 (hb s us I.kIn hl) r2 h) fun r s' hq => ?_)
  cases r with
  | error e => exact hx pins σ H s e s' I hq
  | ok fl =>
    cases fl with
    | ret u => exact I.after hq
    | next => exact False.elim hq
    | brk => exact False.elim hq
    | cont => exact False.elim hq

theorem pe_call (F : FnOk X.prog X.w X.K X.mg X.base CX k f fd ps sp) (hr : Room k X.A) (hg : Gl X x) (hm : X.mg x = some (.ref f)) (hk : PySem.W.keepIn X.K (.ref f) = true) (hb : Binds X.K fd ps ds) (hd : Vals dvs ds) (hx : Passes CX X E)
    (ha : PA X (e :: es) t) (hdb : (x == ("__debug__" : Str)) = false := by decide) (he : starEach (e :: es) X.env = (false, eval e X.env) :: starEach es X.env := by rfl) (hpl : (backTo pos (starEach es X.env)).any (·.1) = false := by rfl) :
    PE X (.Call (.Name x p) (e :: es) [] pos) (tCall sp dvs E t) := by
  intro pins s σ H Q I h
  refine wpAny_Call_Name_kw (ld_glob I hg hm ?_ hdb)
  refine PySem.W.callWith_K (h₀ := X.base) I.ok.mod.kin hk (thn (ha pos pins s σ H _ I h) fun us s1 ⟨vs, H1, I1, r, q⟩ => ⟨I1.kIn, ?_⟩) he hpl
  exact run_fn F hr hb hd hx I1 r q



end

/-! ### keywords -/
section
variable {X : Cx} {CX : CXT} {k : Nat} {f C : Addr} {fd : FuncData} {ps ks : List Str} {sp : Sp} {E : XK} {x m : Str} {p pos apos kpos : Pos} {e o : Expr} {es : List Expr} {kws : List Keyword} {te ta : TE} {t tk : TA} {nm : Option Str}

variable {g : List Value → List Value → List Value} {gV : List V → List V → List V}
end

/-! ### a def's body keeps its promise -/
/-- names: the parameters first -/
structure FnScope (N P : List Str) (sc : Scope) : Prop where
  kind : sc.kind = .function
  co : sc.isCoroutine = false
  gen : sc.isGenerator = false
  nd : N.Nodup
  pre : N.take P.length = P
  par : ∀ x ∈ P, sc.names.lookup x = some .local ∨ sc.names.lookup x = some .cell
  nofree : ∀ y ∈ sc.names, y.2 ≠ .free

theorem bindL_out {kindOf : Str → Option NameKind} {x : Str} : ∀ {binds : List (Str × Value)} {m : Str → Option Value}, (∀ v, (x, v) ∉ binds) → bindL kindOf binds m x = m x
  | [], _, _ => rfl
  | (n, v) :: r, m, h => by
    unfold bindL
    rw [bindL_out fun w hw => h w (List.mem_cons_of_mem _ hw)]
    split
    · have : x ≠ n := by rintro rfl; exact h v List.mem_cons_self
      simp [this]
    · rfl
theorem bindC_out {kindOf : Str → Option NameKind} {x : Str} : ∀ {binds : List (Str × Value)} {m : Str → Option Value}, (∀ v, (x, v) ∉ binds) → bindC kindOf binds m x = m x
  | [], _, _ => rfl
  | (n, v) :: r, m, h => by
    unfold bindC
    rw [bindC_out fun w hw => h w (List.mem_cons_of_mem _ hw)]
    split
    · rfl
    · have : x ≠ n := by rintro rfl; exact h v List.mem_cons_self
      simp [this]
theorem bindL_get {kindOf : Str → Option NameKind} {x : Str} {v : Value} : ∀ {P : List Str} {vs : List Value} {i : Nat} {m : Str → Option Value}, P.Nodup → P[i]? = some x → vs[i]? = some v → kindOf x = some .local →
    bindL kindOf (P.zip vs) m x = some v
  | [], _, _, _, _, h, _, _ => by simp at h
  | _ :: _, [], _, _, _, _, h, _ => by simp at h
  | p :: P, w :: vs, 0, m, nd, h1, h2, hk => by
    simp at h1 h2; subst h1; subst h2
    show bindL kindOf ((p, w) :: P.zip vs) m p = _
    unfold bindL
    rw [bindL_out fun v hv => (List.nodup_cons.mp nd).1 (List.of_mem_zip hv).1, if_pos hk]
    simp
  | p :: P, w :: vs, i + 1, m, nd, h1, h2, hk => by
    show bindL kindOf ((p, w) :: P.zip vs) m x = _
    unfold bindL
    exact bindL_get (i := i) (List.nodup_cons.mp nd).2 (by simpa using h1) (by simpa using h2) hk
theorem bindC_get {kindOf : Str → Option NameKind} {x : Str} {v : Value} : ∀ {P : List Str} {vs : List Value} {i : Nat} {m : Str → Option Value}, P.Nodup → P[i]? = some x → vs[i]? = some v → kindOf x ≠ some .local →
    bindC kindOf (P.zip vs) m x = some v
  | [], _, _, _, _, h, _, _ => by simp at h
  | _ :: _, [], _, _, _, _, h, _ => by simp at h
  | p :: P, w :: vs, 0, m, nd, h1, h2, hk => by
    simp at h1 h2; subst h1; subst h2
    show bindC kindOf ((p, w) :: P.zip vs) m p = _
    unfold bindC
    rw [bindC_out fun v hv => (List.nodup_cons.mp nd).1 (List.of_mem_zip hv).1, if_neg hk]
    simp
  | p :: P, w :: vs, i + 1, m, nd, h1, h2, hk => by
    show bindC kindOf ((p, w) :: P.zip vs) m x = _
    unfold bindC
    exact bindC_get (i := i) (List.nodup_cons.mp nd).2 (by simpa using h1) (by simpa using h2) hk

/-- the names' values at the entry -/
def start (N : List Str) (vs : List V) : St := vs.map some ++ List.replicate (N.length - vs.length) none

/-- the context of a def's body, at its entry; an exception leaves the frame, then lies as CX says -/
def cxOf (CX : CXT) (P : Program) (w : World) (K : PySem.W.Frag) (mg : Str → Option Value) (base : Heap) (N : List Str) (qual : Str) (scope : Scope) (f : Addr) (cd : Value) (A : Around) (outer : List Env) (s : Shared) (H : Hp) (E : XK) : Cx where
  prog := P
  w := w
  K := K
  mg := mg
  base := base
  A := A.deeper (envOfC qual scope s.heap.objs.size f cd)
  N := N
  s₀ := s
  H₀ := H
  env := envOfC qual scope s.heap.objs.size f cd
  outer := outer
  stack := envOfC qual scope s.heap.objs.size f cd :: outer
  ex := []
  calm := true
  fn := fun _ => true
  pn := []
  xe := fun e s' => wpAny (model P w) (A.deeper (envOfC qual scope s.heap.objs.size f cd)) (leaving (envOfC qual scope s.heap.objs.size f cd) e) (fun _ s'' => CX outer H s E e s'') (fun e' s'' => CX outer H s E e' s'') s'

theorem cell_has {sc : Scope} {n : Nat} {x : Str} (h : sc.names.lookup x = some .cell) : ∃ c, (cellsFrom n sc.names []).lookup x = some c := by
  have q := PySem.W.cellsFrom_some sc.names n [] (.inl h)
  exact Option.isSome_iff_exists.mp q

theorem inv_start {CX : CXT} {P : Program} {w : World} {K : PySem.W.Frag} {mg : Str → Option Value} {base : Heap} {N ps : List Str} {qual : Str} {scope : Scope} {f : Addr} {cd : Value} {A : Around} {outer : List Env} {s s1 : Shared} {H : Hp} {E : XK} {us : List Value} {vs : List V}
    (S : FnScope N ps scope) (hd : A.handled = none) (e0 : Env0 P w K mg base A outer s H) (hl : vs.length = ps.length) (r : Vals vs us)
    (x : InCallC s s.heap.objs.size (bindL (envOfC qual scope s.heap.objs.size f cd).kindOf (ps.zip us) fun _ => none) (cellsFrom (s.heap.objs.size + 1) scope.names []) (bindC (envOfC qual scope s.heap.objs.size f cd).kindOf (ps.zip us) fun _ => none) s1) :
    Inv (cxOf CX P w K mg base N qual scope f cd A outer s H E) [] (start N vs) H s1 := by
  have hpl : ps.length ≤ N.length := by have := congrArg List.length S.pre; rw [List.length_take] at this; omega
  obtain ⟨h1, tk, rfl, hk⟩ := x.done
  have noA : ∀ b : Addr, b ∉ (cxOf CX P w K mg base N qual scope f cd A outer s H E).ex := fun b z => absurd (show b ∈ ([] : List Addr) from z) (by simp)
  refine ⟨⟨e0.mod, S.kind, rfl, rfl, Nat.le_refl _, fun y z c h1 h2 => ?_, fun y hy => ?_, fun y c _ h => ?_, fun _ => hd, Around.frames_deeper e0.frames, .inr ⟨rfl, rfl⟩, fun b z => absurd z (noA b), e0.bs, e0.bsz, fun b _ _ => noA b, fun b z => absurd z (noA b), e0.funs, e0.frf⟩,
    rfl, e0.bare, Un.kept hk, ⟨_, x.toInCall.ns, fun i y v h1 h2 h3 => ?_⟩, fun y c h => ⟨_, x.cell y c h⟩, e0.hok.fresh (Nat.le_refl _), fun y c h => ?_, fun p hp => absurd (show p ∈ ([] : List (Addr × Obj)) from hp) (by simp), e0.hok.kept hk, ?_⟩
  · exact name_of_addr x.apart (PySem.mem_of_lookup h1) (PySem.mem_of_lookup h2)
  · have hy : scope.names.lookup y = some .cell ∨ scope.names.lookup y = some .free := hy
    rcases hy with hy | hy
    · exact cell_has hy
    · exact absurd rfl (S.nofree _ (PySem.mem_of_lookup hy))
  · exact Nat.le_of_lt (x.above y c (PySem.mem_of_lookup h))
  · have hi : i < vs.length := by
      unfold start at h2
      by_cases hi : i < vs.length
      · exact hi
      · rw [List.getElem?_append_right (by simpa using hi)] at h2
        rw [List.getElem?_replicate] at h2
        split at h2 <;> cases h2
    have ha : vs[i]? = some v := by
      unfold start at h2
      rw [List.getElem?_append_left (by simpa using hi), List.getElem?_map] at h2
      cases e : vs[i]? with
      | none => rw [e] at h2; cases h2
      | some a => rw [e] at h2; cases h2; rfl
    obtain ⟨u, hu, rv⟩ := r.get ha
    have hp : ps[i]? = some y := by
      rw [← S.pre, List.getElem?_take_of_lt (by omega)]; exact h1
    have ndP : ps.Nodup := by rw [← S.pre]; exact S.nd.sublist (List.take_sublist _ _)
    refine ⟨u, rv, ?_⟩
    rcases S.par y (List.mem_of_getElem? hp) with k | k
    · exact .inl ⟨k, bindL_get ndP hp hu k⟩
    · obtain ⟨c, e⟩ := cell_has (n := s.heap.objs.size + 1) k
      refine .inr ⟨.inl k, c, e, ?_⟩
      have q := x.cell y c e
      rw [bindC_get ndP hp hu (by show scope.names.lookup y ≠ _; rw [k]; decide)] at q
      exact q
  · exact e0.hok.fresh (Nat.le_of_lt (x.above y c (PySem.mem_of_lookup h)))
  · unfold start
    show _ = N.length
    rw [List.length_append, List.length_map, List.length_replicate]
    omega

/-- THE RULE: a def (or a method) of the text, by its body. The body's reading t is chosen for each entry; it is run at the parameters' values -/
theorem fn_of {CX : CXT} {P : Program} {w : World} {K : PySem.W.Frag} {mg : Str → Option Value} {base : Heap} {k : Nat} {f : Addr} {name qual : Str} {params : Arguments} {body : List Stmt} {scope : Scope} {dV kV doc pm cdv ct oc : Value} {an od : Option Addr}
    {osl : Array (Option Value)} {N ps : List Str} {sp : Sp} (lk : K.lookup f = some ⟨oc, od, .func (PySem.W.fnOf name qual params body scope dV kV doc pm an cdv ct), osl⟩) (hcd : PySem.W.codeIn K cdv qual = true) (S : FnScope N ps scope)
    (len : ∀ vs H Q E, sp vs H Q E → vs.length = ps.length)
    (hbody : ∀ (A : Around) (outer : List Env) (s : Shared) (H : Hp) (vs : List V) (Q : VK) (E : XK), Room k (A.deeper (envOfC qual scope s.heap.objs.size f cdv)) → sp vs H Q E →
      ∃ t, PSs (cxOf CX P w K mg base N qual scope f cdv A outer s H E) body t ∧ t { nx := fun _ H' => Q .non H', rt := Q } (start N vs) H) :
    FnOk P w K mg base CX (k + 1) f (PySem.W.fnOf name qual params body scope dV kV doc pm an cdv ct) ps sp := by
  refine ⟨len, fun A outer s H args us vs Q E hr e0 hb r hsp => ?_⟩
  have hl := len _ _ _ _ hsp
  have KX : K.In s.heap := e0.mod.kin.keeps fun b o e => (e0.bs b o e).1
  have lim : s.heap.NoLimit := e0.mod.nolimit.keeps fun b o e => (e0.bs b o e).1
  have hkind : ∀ y ∈ ps.zip us, scope.names.lookup y.1 = some .local ∨ (scope.names.lookup y.1 = some .cell ∧ ((cellsFrom (s.heap.objs.size + 1) scope.names []).lookup y.1).isSome = true) := fun ⟨n, v⟩ hy => by
    rcases S.par n (List.of_mem_zip hy).1 with q | q
    · exact .inl q
    · exact .inr ⟨q, PySem.W.cellsFrom_some _ _ _ (.inl q)⟩
  refine codeAny_call_function hr.depth (KX _ _ lk) rfl S.co S.gen rfl (PySem.W.codeRec_of KX hcd) (hb _ _ _ _ ?_)
  refine wpAny_newFunctionEnv_cells S.kind hkind fun env he s1 x => ?_
  subst he
  refine ⟨lim.keeps x.toInCall.keep, codeAny_func ?_⟩
  obtain ⟨t, ht, hq⟩ := hbody A outer s H vs Q E (hr.deeper _) hsp
  have I : Inv (cxOf CX P w K mg base N qual scope f cdv A outer s H E) [] (start N vs) H s1 := inv_start S hr.hd e0 hl r x
  refine wpAny_mono (ht [] s1 (start N vs) H _ I hq) (fun fl s' hs => ?_) fun e s' hs => hs
  have fin : ∀ {σ' : St} {H' : Hp} {v : V} {u : Value}, Inv (cxOf CX P w K mg base N qual scope f cdv A outer s H E) [] σ' H' s' → RelV v u → Q v H' → CE outer P w H s Q u s' :=
    fun {σ' H' v u} J rv q => ⟨v, H', J.os, J.bare, J.base, J.hok, rv, q⟩
  cases fl with
  | ret u =>
    obtain ⟨v, σ', H', J, rv, q⟩ := hs
    exact fin J rv q
  | next =>
    obtain ⟨σ', H', J, q⟩ := hs
    exact fin (v := V.non) (u := Value.none) J rfl q
  | brk =>
    obtain ⟨_, _, _, q⟩ := hs
    exact False.elim q
  | cont =>
    obtain ⟨_, _, _, q⟩ := hs
    exact False.elim q
end L2

namespace L2
open PySem PySem.Spec PyProof.Rows
section
variable {X : Cx} {x : Str} {p pos : Pos} {e : Expr} {es : List Expr} {t : TA} {id T : String} {r : List V → Hp → VK → Prop}

def tCB (r : List V → Hp → VK → Prop) (t : TA) : TE := fun σ H Q => t σ H fun vs H1 => r vs H1 Q
/-- f(e, ..), f a built-in function -/
theorem pe_callB (hc : CallR X (.builtin id) r) (hg : Gl X x) (hm : X.mg x = none) (hv : bootBuiltins x = some (.builtin id)) (ha : PA X (e :: es) t) (hn : x ≠ "__name__" := by decide) (hdb : (x == ("__debug__" : Str)) = false := by decide)
    (he : starEach (e :: es) X.env = (false, eval e X.env) :: starEach es X.env := by rfl) (hpl : (backTo pos (starEach es X.env)).any (·.1) = false := by rfl) : PE X (.Call (.Name x p) (e :: es) [] pos) (tCB r t) := by
  intro pins s σ H Q I h
  refine wpAny_Call_Name_kw (ld_blt I hg hm hv ?_ hn hdb)
  exact PyProof.Rows.callWith_builtin1 (thn (ha pos pins s σ H _ I h) fun us s1 ⟨vs, H1, I1, r1, q1⟩ => hc pins s1 σ H1 vs us Q I1 r1 q1) he hpl
/-- T(e, ..), T a built-in type -/
theorem pe_callTy (hc : CallR X (.type T) r) (hg : Gl X x) (hm : X.mg x = none) (hv : bootBuiltins x = some (.type T)) (ha : PA X (e :: es) t) (hn : x ≠ "__name__" := by decide) (hdb : (x == ("__debug__" : Str)) = false := by decide)
    (he : starEach (e :: es) X.env = (false, eval e X.env) :: starEach es X.env := by rfl) (hpl : (backTo pos (starEach es X.env)).any (·.1) = false := by rfl) : PE X (.Call (.Name x p) (e :: es) [] pos) (tCB r t) := by
  intro pins s σ H Q I h
  refine wpAny_Call_Name_kw (ld_blt I hg hm hv ?_ hn hdb)
  exact PyProof.Rows.callWith_type1 (thn (ha pos pins s σ H _ I h) fun us s1 ⟨vs, H1, I1, r1, q1⟩ => hc pins s1 σ H1 vs us Q I1 r1 q1) he hpl
end
end L2

namespace HT
open PySem PyProof.Rows



section
open PySem.SeqAt
open PySem.AutoSeq1 (wpAny_loadPart')
open PySem.MeetsSeq PySem.MeetsSeq2 PySem.MeetsSeq3

end

section
variable {prog : Program} {w : World} {A : Around} {E : Value → Shared → Prop} {s : Shared}



/-! ### t[a:b], not the whole -/
/-- a slice's bound as a place among n (d where it is left out) -/
def sIx (n d : Nat) : Option Int → Nat
  | none => d
  | some v => if v < 0 then (v + (n : Int)).toNat else min v.toNat n
theorem sIx_nat (n d k : Nat) : sIx n d (some (k : Int)) = min k n := by
  show (if (k : Int) < 0 then ((k : Int) + (n : Int)).toNat else min (k : Int).toNat n) = min k n
  rw [if_neg (by omega), Int.toNat_natCast]

end
end HT

namespace L2
open PySem PySem.Spec PyProof.Rows

/-! ### the parts of a slice -/
abbrev TO := St → Hp → (Option Int → Hp → Prop) → Prop
/-- a slice's part (left out, or an int) -/
def PO (X : Cx) (e : Option Expr) (t : TO) : Prop :=
  ∀ (pins : List (Addr × Obj)) (s : Shared) (σ : St) (H : Hp) (Q : Option Int → Hp → Prop), Inv X pins σ H s → t σ H Q →
    wpAny (model X.prog X.w) X.A (evalPart e X.env) (fun u s' => ∃ o H', Inv X pins σ H' s' ∧ IsPart u o ∧ Q o H') X.xe s
def tPart (t : TE) : TO := fun σ H Q => t σ H fun x H1 => ∃ i, x = .int i ∧ Q (some i) H1


section
variable {X : Cx} {e : Expr} {te : TE} {lo hi : Option Expr} {tl th : TO} {pos p2 : Pos}

theorem po_some (h : PE X e te) : PO X (some e) (tPart te) := by
  intro pins s σ H Q I hw
  rw [evalPart_some]
  refine thn (h pins s σ H _ I hw) fun u s1 ⟨x, H1, I1, r1, q1⟩ => ?_
  obtain ⟨i, rfl, q⟩ := q1
  obtain ⟨t, rfl⟩ := r1
  exact ⟨some i, H1, I1, .int i t, q⟩

/-- what a slice of a value is, by values: the slice object stands at sl -/
def SlR (X : Cx) (r : V → Option Int → Option Int → Hp → VK → Prop) : Prop :=
  ∀ (pins : List (Addr × Obj)) (s : Shared) (σ : St) (H : Hp) (x : V) (v vl vu : Value) (lo hi : Option Int) (sl : Addr) (Q : VK), Inv X pins σ H s → RelV x v → s.heap.IsSliceOf sl vl vu .none → IsPart vl lo → IsPart vu hi → r x lo hi H Q →
    ∃ T id, typeLookup (.type T) "__getitem__" = pure (some (.builtin id)) ∧ s.TypeIs v T ∧ wpAny (model X.prog X.w) X.A (getItem v (.ref sl)) (EP X pins σ Q) X.xe s
def tSl (r : V → Option Int → Option Int → Hp → VK → Prop) (te : TE) (tl th : TO) : TE := fun σ H Q => te σ H fun x H1 => tl σ H1 fun l H2 => th σ H2 fun u H3 => r x l u H3 Q
/-- a[lo:hi], any a -/
theorem pe_slice {r : V → Option Int → Option Int → Hp → VK → Prop} (hr : SlR X r) (he : PE X e te) (hl : PO X lo tl) (hu : PO X hi th) : PE X (.Subscript e (.Slice lo hi none p2) pos) (tSl r te tl th) := by
  intro pins s σ H Q I h
  refine Subscript_ (thn (he pins s σ H _ I h) fun v s1 ⟨x, H1, I1, r1, q1⟩ => ?_)
  refine wpAny_Slice (thn (hl pins s1 σ H1 _ I1 q1) fun vl s2 ⟨l, H2, I2, pl, q2⟩ => thn (hu pins s2 σ H2 _ I2 q2) fun vu s3 ⟨u, H3, I3, pu, q3⟩ => ?_)
  rw [evalPart_none]
  refine wpAny_pure ?_
  have I4 : Inv X pins σ H3 { s3 with heap := s3.heap.push { cls := .type "slice", data := .fields #[vl, vu, .none] } } := I3.kept (t' := s3.toks) fun b ob q => Heap.get?_push_of_some _ q
  obtain ⟨T, id, hT, ht, hg⟩ := hr pins { s3 with heap := s3.heap.push { cls := .type "slice", data := .fields #[vl, vu, .none] } } σ H3 x v vl vu l u s3.heap.objs.size Q I4 r1 (Heap.IsSliceOf.new ..) pl pu q3
  show wpAny (model X.prog X.w) X.A (subscriptTail e (.Slice lo hi none p2) v (.ref s3.heap.objs.size)) (EP X pins σ Q) X.xe { s3 with heap := s3.heap.push { cls := .type "slice", data := .fields #[vl, vu, .none] } }
  exact tail_any (ops := [.ref s3.heap.objs.size, v]) ht hT hg (by with_unfolding_all rfl)

/-- the items of xs[lo:hi] -/
def cutV (xs : List V) (lo hi : Option Int) : List V := (xs.drop (HT.sIx xs.length 0 lo)).take (HT.sIx xs.length xs.length hi - HT.sIx xs.length 0 lo)
theorem cutV_length (xs : List V) (lo hi : Option Int) : (cutV xs lo hi).length ≤ xs.length := by
  unfold cutV
  rw [List.length_take, List.length_drop]
  omega

/-! ### t < u, t + u -/
end
end L2

namespace L2
open PySem PySem.Spec PyProof.Rows

/-! ### places -/
/-- the place that an index of any sign means -/
def ixN (n : Nat) (i : Int) : Option Nat := if 0 ≤ i then (if i < n then some i.toNat else none) else if -(n : Int) ≤ i then some (i + n).toNat else none
def atI {α : Type} (xs : List α) (i : Int) : Option α := (ixN xs.length i).bind fun j => xs[j]?
theorem ixN_seq {n : Nat} {i : Int} {j : Nat} (h : ixN n i = some j) : seqIndex? i n = some j ∧ j < n ∧ -(n : Int) ≤ i ∧ i < n := by
  unfold ixN at h
  by_cases h0 : 0 ≤ i
  · rw [if_pos h0] at h
    by_cases h1 : i < n
    · rw [if_pos h1] at h
      have e : i.toNat = j := Option.some.inj h
      exact ⟨by rw [seqIndex_of h0 h1, e], by omega, by omega, h1⟩
    · rw [if_neg h1] at h; cases h
  · rw [if_neg h0] at h
    by_cases h1 : -(n : Int) ≤ i
    · rw [if_pos h1] at h
      have e : (i + n).toNat = j := Option.some.inj h
      exact ⟨by rw [seqIndex_neg (by omega) h1, e], by omega, h1, by omega⟩
    · rw [if_neg h1] at h; cases h
theorem atI_get {α : Type} {xs : List α} {i : Int} {v : α} (h : atI xs i = some v) : ∃ j, seqIndex? i xs.length = some j ∧ xs[j]? = some v ∧ j < xs.length ∧ -(xs.length : Int) ≤ i ∧ i < xs.length := by
  unfold atI at h
  cases e : ixN xs.length i with
  | none => rw [e] at h; cases h
  | some j =>
    rw [e] at h
    obtain ⟨h1, h2, h3, h4⟩ := ixN_seq e
    exact ⟨j, h1, h, h2, h3, h4⟩
theorem atI_nat {α : Type} {xs : List α} {j : Nat} {v : α} (h : xs[j]? = some v) : atI xs (j : Int) = some v := by
  have hj : j < xs.length := (List.getElem?_eq_some_iff.mp h).1
  have e : ixN xs.length (j : Int) = some j := by
    unfold ixN
    rw [if_pos (by omega), if_pos (by omega)]; simp
  unfold atI; rw [e]; exact h

/-! ### what may be subscripted -/
/-- what stands as an index of a plain subscript -/
def PlainIx (b : Expr) : Prop := ∀ o i, subscripted b false o i = operate [o, i] (getItem o i)
/-- a subscript by values -/
def IxR (X : Cx) (r : R2) : Prop :=
  ∀ (value slice : Expr) (pins : List (Addr × Obj)) (s : Shared) (σ : St) (H : Hp) (x y : V) (v u : Value) (Q : VK), Inv X pins σ H s → RelV x v → RelV y u → r x y H Q →
    subscripted slice false v u = operate [v, u] (getItem v u) → wpAny (model X.prog X.w) X.A (subscriptTail value slice v u) (EP X pins σ Q) X.xe s
/-- a call of a builtin's method by values: the receiver, the arguments -/
def MtR (X : Cx) (id : String) (r : V → List V → Hp → VK → Prop) : Prop :=
  ∀ (pins : List (Addr × Obj)) (s : Shared) (σ : St) (H : Hp) (x : V) (xs : List V) (v : Value) (us : List Value) (Q : VK), Inv X pins σ H s → RelV x v → Vals xs us → r x xs H Q →
    wpAny (model X.prog X.w) X.A (call (.builtin id) (v :: us)) (EP X pins σ Q) X.xe s
section
variable {X : Cx} {a b : Expr} {ta tb : TE} {pos : Pos}
/-- a[b] -/
theorem pe_ix {r : R2} (hr : IxR X r) (ha : PE X a ta) (hb : PE X b tb) (hs : PlainIx b) : PE X (.Subscript a b pos) (tOp r ta tb) := by
  intro pins s σ H Q I h
  exact Subscript_ (binT ha hb I h fun v u s2 x y H2 I2 rx ry q => hr a b pins s2 σ H2 x y v u Q I2 rx ry q (hs _ _))

def rIxL (K : PySem.W.Frag) : R2 := fun x y H Q => ∃ p xs i v, x = .ref p ∧ y = .int i ∧ SqL K H p xs ∧ atI xs i = some v ∧ Q v H
def rIxT (K : PySem.W.Frag) : R2 := fun x y H Q => ∃ p xs i v, x = .ref p ∧ y = .int i ∧ SqT K H p xs ∧ atI xs i = some v ∧ Q v H
theorem ix_list : IxR X (rIxL X.K) := by
  intro value slice pins s σ H x y v u Q I rx ry h hs
  obtain ⟨p, xs, i, z, rfl, rfl, hq, he, q⟩ := h
  cases rx
  obtain ⟨t, rfl⟩ := ry
  obtain ⟨its, r, pl, hz⟩ := I.list hq
  obtain ⟨j, h1, h2, h3, h4, h5⟩ := atI_get he
  obtain ⟨w, ew, rw'⟩ := r.get h2
  have hl := r.length
  have hn := line63
  have fin : EP X pins σ Q w s := ⟨z, H, I, rw', q⟩
  by_cases h0 : 0 ≤ i
  · have hj : i.toNat = j := by
      rw [seqIndex_of h0 h5] at h1
      exact Option.some.inj h1
    exact item_listR pl.isList h0 (by omega) (by rw [hj]; simpa using ew) fin hs
  · have hj : (i + (its.toArray.size : Int)).toNat = j := by
      rw [seqIndex_neg (by omega) h4] at h1
      rw [List.size_toArray, ← hl]
      exact Option.some.inj h1
    exact subscriptTail_builtinR (x := w) pl.isList.typeIs slot_list_getitem.lookup
      (wpAny_getItem_list_neg (Q := fun r s' => r = w ∧ EP X pins σ Q r s') pl.isList (by omega) (by rw [List.size_toArray] <;> omega) (by omega) (by rw [hj]; simpa using ew) ⟨rfl, fin⟩) hs
theorem ix_tup : IxR X (rIxT X.K) := by
  intro value slice pins s σ H x y v u Q I rx ry h hs
  obtain ⟨p, xs, i, z, rfl, rfl, hq, he, q⟩ := h
  cases rx
  obtain ⟨t, rfl⟩ := ry
  obtain ⟨its, r, pl, hz⟩ := I.tuple hq
  obtain ⟨j, h1, h2, h3, h4, h5⟩ := atI_get he
  obtain ⟨w, ew, rw'⟩ := r.get h2
  have hl := r.length
  have hn := line63
  have fin : EP X pins σ Q w s := ⟨z, H, I, rw', q⟩
  exact subscriptTail_builtinR (x := w) pl.typeIs slot_tuple_getitem.lookup
    (getItem_tuple (j := j) (Q := fun r s' => r = w ∧ EP X pins σ Q r s') pl (by omega) (by omega) (by rw [List.size_toArray, ← hl]; exact h1) (by simpa using ew) ⟨rfl, fin⟩) hs

/-! ### xs[i] = v, any sign -/
/-- the list's object behind a store -/
theorem mapSeq_set (its : List Value) (n j : Nat) (u : Value) : Obj.mapSeq (·.setIfInBounds j u) { cls := .type "list", data := .seq its.toArray n } = { cls := .type "list", data := .seq (its.set j u).toArray n } := by
  simp [Obj.mapSeq]
theorem Inv.lst {pins : List (Addr × Obj)} {σ : St} {H : Hp} {s : Shared} {p : Addr} {xs : List V} (I : Inv X pins σ H s) (h : H p = some (.lst xs)) :
    ∃ (its : List Value) (n : Nat), Vals xs its ∧ s.heap.get? p = some { cls := .type "list", data := .seq its.toArray n } ∧ xs.length ≤ sizeLine := by
  obtain ⟨z, its, n, r, e⟩ := I.hok p _ h
  exact ⟨its, n, r, e, z⟩
/-- the list at p is written by an update of its object -/
theorem Inv.lstUpd {pins : List (Addr × Obj)} {σ : St} {H : Hp} {s : Shared} {p : Addr} {xs ys : List V} {its its' : List Value} {n n' : Nat} {f : Obj → Obj} (I : Inv X pins σ H s) (h : H p = some (.lst xs))
    (ho : s.heap.get? p = some { cls := .type "list", data := .seq its.toArray n }) (hf : f { cls := .type "list", data := .seq its.toArray n } = { cls := .type "list", data := .seq its'.toArray n' }) (r : Vals ys its') (hz : ys.length ≤ sizeLine) (t : Nat) :
    Inv X pins σ (upd H p (.lst ys)) { s with heap := s.heap.update p f, toks := t } := by
  have e : (s.heap.update p f).get? p = some { cls := .type "list", data := .seq its'.toArray n' } := by
    rw [Heap.get?_update_self f ho (by rw [hf] <;> rfl), hf]
  refine I.write (x := p) (e := p) (by rw [h]; trivial) (.inl rfl) (fun b u hb q => (Heap.get?_update_other _ _ (Ne.symm hb)).trans q) ⟨_, e⟩ ?_
  exact ⟨hz, its', n', r, e⟩
def rSetL : V → V → V → Hp → (Hp → Prop) → Prop := fun o i v H Q => ∃ p xs k j, o = .ref p ∧ i = .int k ∧ H p = some (.lst xs) ∧ ixN xs.length k = some j ∧ Q (upd H p (.lst (xs.set j v)))
theorem set_list : PSet X rSetL := by
  intro pins s σ H o i v ov iv u Q I ro ri rv h
  obtain ⟨p, xs, k, j, rfl, rfl, hp, hj, q⟩ := h
  cases ro
  obtain ⟨t, rfl⟩ := ri
  obtain ⟨its, n, r, ho, hz⟩ := I.lst hp
  obtain ⟨h1, h2, h3, h4⟩ := ixN_seq hj
  have hl := r.length
  have hn := line63
  have I' : Inv X pins σ (upd H p (.lst (xs.set j v))) { s with heap := s.heap.update p (Obj.mapSeq (·.setIfInBounds j u)) } :=
    I.lstUpd hp ho (mapSeq_set its n j u) (r.set rv j) (by rw [List.length_set]; exact hz) s.toks
  by_cases h0 : 0 ≤ k
  · have hk : k.toNat = j := by
      rw [seqIndex_of h0 h4] at h1
      exact Option.some.inj h1
    exact PySem.W.ki_setAt ho h0 (by omega) (by rw [List.size_toArray, ← hl]; exact h4) (by rw [hk]; exact ⟨_, I', q⟩)
  · have hk : (k + (its.toArray.size : Int)).toNat = j := by
      rw [seqIndex_neg (by omega) h3] at h1
      rw [List.size_toArray, ← hl]
      exact Option.some.inj h1
    exact PySem.W.ki_setBack ho (by omega) (by rw [List.size_toArray, ← hl]; exact h3) (by omega) (by rw [hk]; exact ⟨_, I', q⟩)

/-! ### slices -/
theorem slice_bounds (lo hi : Option Int) (n : Nat) : (sliceBounds lo hi none n).1 = ((HT.sIx n 0 lo : Nat) : Int) ∧ (sliceBounds lo hi none n).2.1 = ((HT.sIx n n hi : Nat) : Int) ∧ (sliceBounds lo hi none n).2.2 = 1 := by
  refine ⟨?_, ?_, rfl⟩
  · cases lo with
    | none => simp [sliceBounds, HT.sIx]
    | some i =>
      simp only [sliceBounds, HT.sIx, Option.getD_none, show (1 : Int) > 0 by decide, if_true]
      by_cases h : i < 0
      · simp only [h, if_true] <;> omega
      · simp only [h, if_false] <;> omega
  · cases hi with
    | none => simp [sliceBounds, HT.sIx]
    | some i =>
      simp only [sliceBounds, HT.sIx, Option.getD_none, show (1 : Int) > 0 by decide, if_true]
      by_cases h : i < 0
      · simp only [h, if_true] <;> omega
      · simp only [h, if_false] <;> omega
theorem slicePick_cut (its : List Value) (lo hi : Option Int) : slicePick its.toArray lo hi none = ((its.drop (HT.sIx its.length 0 lo)).take (HT.sIx its.length its.length hi - HT.sIx its.length 0 lo)).toArray := by
  obtain ⟨h1, h2, h3⟩ := slice_bounds lo hi its.toArray.size
  unfold slicePick
  rw [h1, h2, h3]
  simp only [sliceRange_one, pick_run, List.size_toArray] <;> rfl
/-- xs[lo:hi] of a list: a new list -/
def rSlL (K : PySem.W.Frag) : V → Option Int → Option Int → Hp → VK → Prop := fun x lo hi H Q => ∃ a xs, x = .ref a ∧ SqL K H a xs ∧ ∀ p, H p = none → Q (.ref p) (upd H p (.lst (cutV xs lo hi)))
theorem sl_list : SlR X (rSlL X.K) := by
  intro pins s σ H x v vl vu lo hi sl Q I rx hs pl pu h
  obtain ⟨a, xs, rfl, hx, q⟩ := h
  cases rx
  obtain ⟨its, r, ht, hz⟩ := I.list hx
  have hlen := r.length
  refine ⟨"list", _, slot_list_getitem.lookup, ht.isList.typeIs, ?_⟩
  refine wpAny_getItem_list_slice ht.isList hs pl pu .none (by simp) ?_ (by rw [List.size_toArray] <;> omega)
  rw [slicePick_cut, ← hlen]
  refine ⟨.ref s.heap.objs.size, _, I.laid (t' := s.toks) (o := .lst (cutV xs lo hi)) (fun b ob q => Heap.get?_push_of_some _ q) (Nat.le_refl _) ?_, rfl, q _ (I.hok.fresh (Nat.le_refl _))⟩
  exact ⟨Nat.le_trans (cutV_length xs lo hi) hz, _, 0, (r.drop (HT.sIx xs.length 0 lo)).take (HT.sIx xs.length xs.length hi - HT.sIx xs.length 0 lo), Heap.get?_push_size _ rfl⟩

/-! ### in, not in: flat items -/
def flatV : V → Bool
  | .non => true
  | .bl _ => true
  | .int _ => true
  | .str _ => true
  | _ => false
/-- == of flat values -/
def eqV : V → V → Bool
  | .non, .non => true
  | .bl a, .bl b => a == b
  | .bl a, .int b => (if a then 1 else 0) == b
  | .int a, .bl b => a == (if b then 1 else 0)
  | .int a, .int b => a == b
  | .str a, .str b => a == b
  | _, _ => false
theorem eqAt_V {A : Around} {s : Shared} {y x : V} {u v : Value} (ry : RelV y u) (rx : RelV x v) (fy : flatV y = true) (fx : flatV x = true) : SeqAt.EqAt A s u v (eqV y x) := by
  cases y with
  | non =>
    cases ry
    cases x with
    | non => cases rx; exact SeqAt.EqAt.same _
    | bl b => cases rx; exact SeqAt.EqAt.none_bool b
    | int b => obtain ⟨t, rfl⟩ := rx; exact SeqAt.EqAt.none_int b t
    | str b => obtain ⟨t, rfl⟩ := rx; exact SeqAt.EqAt.none_str b t
    | _ => exact absurd (show false = true from fx) Bool.false_ne_true
  | bl a =>
    cases ry
    cases x with
    | non => cases rx; exact SeqAt.EqAt.bool_none a
    | bl b => cases rx; exact SeqAt.EqAt.bool_bool a b
    | int b => obtain ⟨t, rfl⟩ := rx; exact SeqAt.EqAt.bool_int a b t
    | str b => obtain ⟨t, rfl⟩ := rx; exact SeqAt.EqAt.bool_str a b t
    | _ => exact absurd (show false = true from fx) Bool.false_ne_true
  | int a =>
    obtain ⟨t', rfl⟩ := ry
    cases x with
    | non => cases rx; exact SeqAt.EqAt.int_none a t'
    | bl b => cases rx; exact SeqAt.EqAt.int_bool a t' b
    | int b => obtain ⟨t, rfl⟩ := rx; exact SeqAt.EqAt.int_int a t' b t
    | str b => obtain ⟨t, rfl⟩ := rx; exact SeqAt.EqAt.int_str a t' b t
    | _ => exact absurd (show false = true from fx) Bool.false_ne_true
  | str a =>
    obtain ⟨t', rfl⟩ := ry
    cases x with
    | non => cases rx; exact SeqAt.EqAt.str_none a t'
    | bl b => cases rx; exact SeqAt.EqAt.str_bool a t' b
    | int b => obtain ⟨t, rfl⟩ := rx; exact SeqAt.EqAt.str_int a t' b t
    | str b => obtain ⟨t, rfl⟩ := rx; exact SeqAt.EqAt.str_str a t' b t
    | _ => exact absurd (show false = true from fx) Bool.false_ne_true
  | _ => exact absurd (show false = true from fy) Bool.false_ne_true
/-- the items' answers, read off the values (a value's own answer does not lean on its token) -/
def eqU (x : V) (u : Value) : Bool := match u with
  | .none => eqV .non x
  | .bool b => eqV (.bl b) x
  | .int i _ => eqV (.int i) x
  | .str z _ => eqV (.str z) x
  | _ => false
theorem eqU_of {x y : V} {u : Value} (r : RelV y u) (f : flatV y = true) : eqU x u = eqV y x := by
  cases y with
  | non => cases r; rfl
  | bl b => cases r; rfl
  | int i => obtain ⟨t, rfl⟩ := r; rfl
  | str z => obtain ⟨t, rfl⟩ := r; rfl
  | _ => exact absurd (show false = true from f) Bool.false_ne_true
theorem any_eqU {x : V} : ∀ {xs : List V} {us : List Value}, Vals xs us → xs.all flatV = true → us.any (eqU x) = xs.any fun y => eqV y x
  | _, _, .nil, _ => rfl
  | y :: xs, u :: us, .cons r t, f => by
    rw [List.all_cons, Bool.and_eq_true] at f
    rw [List.any_cons, List.any_cons, eqU_of r f.1, any_eqU t f.2]
theorem mem_eqAt {A : Around} {s : Shared} {x : V} {v : Value} (rx : RelV x v) (fx : flatV x = true) : ∀ {xs : List V} {us : List Value}, Vals xs us → xs.all flatV = true → ∀ u ∈ us, SeqAt.EqAt A s u v (eqU x u)
  | _, _, .nil, _ => fun u hu => by cases hu
  | y :: xs, u :: us, .cons r t, f => fun u' hu => by
    rw [List.all_cons, Bool.and_eq_true] at f
    rcases List.mem_cons.mp hu with rfl | hu
    · rw [eqU_of r f.1]; exact eqAt_V r rx f.1 fx
    · exact mem_eqAt rx fx t f.2 u' hu
def inV (x : V) (xs : List V) : Bool := xs.any fun y => eqV y x
/-- x in a list or tuple of flat items -/
def rIn (K : PySem.W.Frag) (neg : Bool) : R2 := fun x y H Q => ∃ p xs, y = .ref p ∧ (SqL K H p xs ∨ SqT K H p xs) ∧ flatV x = true ∧ xs.all flatV = true ∧ Q (.bl (if neg then !inV x xs else inV x xs)) H
theorem op_in_seq : OpR X (compareOp .In) (rIn X.K false) := by
  intro pins s σ H x y v u Q I rx ry h
  obtain ⟨p, xs, rfl, hq, fx, fs, q⟩ := h
  cases ry
  rcases hq with hq | hq
  · obtain ⟨its, r, pl, hz⟩ := I.list hq
    refine SeqAt.in_listAt (eqU x) pl.isList (fun w hw => mem_eqAt rx fx r fs w (by simpa using hw)) ⟨.bl _, H, I, rfl, ?_⟩
    rw [show its.toArray.any (eqU x) = its.any (eqU x) by simp, any_eqU r fs]
    exact q
  · obtain ⟨its, r, pl, hz⟩ := I.tuple hq
    refine SeqAt.in_tupleAt (eqU x) pl (fun w hw => mem_eqAt rx fx r fs w (by simpa using hw)) ⟨.bl _, H, I, rfl, ?_⟩
    rw [show its.toArray.any (eqU x) = its.any (eqU x) by simp, any_eqU r fs]
    exact q

/-! ### len, list(x), tuple(x) of any list or tuple that is read -/
theorem call_len_seq : CallR X (.builtin "len") (fun xs H Q => ∃ p ys, xs = [.ref p] ∧ (SqL X.K H p ys ∨ SqT X.K H p ys) ∧ Q (.int ys.length) H) := by
  intro pins s σ H xs us Q I r h
  obtain ⟨p, ys, rfl, hq, q⟩ := h
  obtain ⟨u, rfl, rx⟩ := vals1 r
  cases rx
  have hn := line63
  rcases hq with hq | hq
  · obtain ⟨its, r', pl, hz⟩ := I.list hq
    have hlen := r'.length
    exact Calls.call_len_list pl.isList (by simp only [List.size_toArray] <;> omega) ⟨.int ys.length, H, I.tok _, ⟨s.toks + 1, by rw [List.size_toArray, hlen]⟩, q⟩
  · obtain ⟨its, r', pl, hz⟩ := I.tuple hq
    have hlen := r'.length
    exact len_tuple pl (by simp only [List.size_toArray] <;> omega) ⟨.int ys.length, H, I.tok _, ⟨s.toks + 1, by rw [List.size_toArray, hlen]⟩, q⟩
theorem call_list_of : CallR X (.type "list") (fun xs H Q => ∃ p ys, xs = [.ref p] ∧ (SqL X.K H p ys ∨ SqT X.K H p ys) ∧ ∀ l, H l = none → Q (.ref l) (upd H l (.lst ys))) := by
  intro pins s σ H xs us Q I r h
  obtain ⟨p, ys, rfl, hq, q⟩ := h
  obtain ⟨u, rfl, rx⟩ := vals1 r
  cases rx
  have fin : ∀ (its : List Value), Vals ys its → ys.length ≤ sizeLine → ∀ (h' : Heap) (c' : Nat), (∀ b o', s.heap.get? b = some o' → h'.get? b = some o') →
      h'.get? s.heap.objs.size = some { cls := .type "list", dict := none, data := .seq its.toArray c', slots := #[] } → EP X pins σ Q (.ref s.heap.objs.size) { s with heap := h' } := fun its r' hz h' c' kp e =>
    ⟨.ref s.heap.objs.size, _, I.laid (t' := s.toks) kp (Nat.le_refl _) (show ObjOk X.prog X.w _ h' _ (.lst ys) from ⟨hz, its, c', r', e⟩), rfl, q _ (I.hok.fresh (Nat.le_refl _))⟩
  rcases hq with hq | hq
  · obtain ⟨its, r', pl, hz⟩ := I.list hq
    have hlen := r'.length
    obtain ⟨o, ho, hc, n, hd⟩ := pl.isList
    exact call_list_seq p (.inl rfl) ho hc hd (fun h' c' kp e => fin its r' hz h' c' kp e) (by simp only [List.size_toArray] <;> omega)
  · obtain ⟨its, r', pl, hz⟩ := I.tuple hq
    have hlen := r'.length
    obtain ⟨o, ho, hc, n, hd⟩ := pl
    exact call_list_seq p (.inr rfl) ho hc hd (fun h' c' kp e => fin its r' hz h' c' kp e) (by simp only [List.size_toArray] <;> omega)
theorem call_tuple_of : CallR X (.type "tuple") (fun xs H Q => ∃ p ys, xs = [.ref p] ∧ ((SqL X.K H p ys ∧ ∀ l, H l = none → Q (.ref l) (upd H l (.tup ys))) ∨ (SqT X.K H p ys ∧ Q (.ref p) H))) := by
  intro pins s σ H xs us Q I r h
  obtain ⟨p, ys, rfl, h⟩ := h
  obtain ⟨u, rfl, rx⟩ := vals1 r
  cases rx
  rcases h with ⟨hq, q⟩ | ⟨hq, q⟩
  · obtain ⟨its, r', pl, hz⟩ := I.list hq
    have hlen := r'.length
    refine call_tuple_list pl.isList (fun h' kp => ?_) (by simp only [List.size_toArray] <;> omega)
    have I1 : Inv X pins σ H { s with heap := h' } := I.kept (t' := s.toks) kp
    have I2 : Inv X pins σ (upd H h'.objs.size (.tup ys)) { s with heap := h'.push { cls := .type "tuple", data := .seq its.toArray } } :=
      I1.laid (t' := s.toks) (fun b o e => Heap.get?_push_of_some _ e) (Nat.le_refl _) (show ObjOk X.prog X.w _ _ _ (.tup ys) from ⟨hz, its, r', IsTup.new _ _⟩)
    exact ⟨.ref h'.objs.size, _, I2, rfl, q _ (I1.hok.fresh (Nat.le_refl _))⟩
  · obtain ⟨its, r', pl, hz⟩ := I.tuple hq
    exact call_tuple_same pl ⟨.ref p, H, I, rfl, q⟩

/-! ### the call of a builtin's method: o.m(..) -/
/-- the value is of that builtin type -/
def tyV (K : PySem.W.Frag) (T : String) (x : V) (H : Hp) : Prop := match x with
  | .str _ => T = "str"
  | .int _ => T = "int"
  | .ref p => (T = "list" ∧ ∃ xs, SqL K H p xs) ∨ (T = "tuple" ∧ ∃ o, K.lookup p = some o ∧ o.cls = .type "tuple" ∧ o.dict = none) ∨
      (T = "dict" ∧ ((∃ kvs, H p = some (.dK kvs)) ∨ ∃ kvs, H p = some (.dT kvs))) ∨ (T = "set" ∧ ∃ S n, H p = some (.set S n))
  | _ => False
theorem tyV_is {pins : List (Addr × Obj)} {σ : St} {H : Hp} {s : Shared} {T : String} {x : V} {v : Value} (I : Inv X pins σ H s) (r : RelV x v) (ty : tyV X.K T x H) :
    s.TypeIs v T ∧ ∀ a, v = .ref a → ∃ ob, s.heap.get? a = some ob ∧ ob.dict = none := by
  cases x with
  | str z =>
    obtain ⟨t, rfl⟩ := r
    cases (show T = "str" from ty)
    exact ⟨typeIs_str s z t, fun _ e => nomatch e⟩
  | int i =>
    obtain ⟨t, rfl⟩ := r
    cases (show T = "int" from ty)
    exact ⟨typeIs_int s i t, fun _ e => nomatch e⟩
  | ref p =>
    cases r
    rcases ty with ⟨rfl, xs, hq⟩ | ⟨rfl, o, hk, hc, hd⟩ | ⟨rfl, hk⟩ | ⟨rfl, S, n, hk⟩
    · obtain ⟨its, _, pl, _⟩ := I.list hq
      refine ⟨pl.isList.typeIs, fun a e => ?_⟩
      cases e
      obtain ⟨o, n, e, c, hd, _⟩ := pl
      exact ⟨o, e, hd⟩
    · refine ⟨⟨o, I.kIn p o hk, hc⟩, fun a e => ?_⟩
      cases e
      exact ⟨o, I.kIn _ o hk, hd⟩
    · have z : ∃ o, s.heap.get? p = some o ∧ o.ExactDict := by
        rcases hk with ⟨kvs, hk⟩ | ⟨kvs, hk⟩
        · obtain ⟨_, _, _, _, o, _, _, e, ex, _⟩ := I.hok p _ hk
          exact ⟨o, e, ex⟩
        · obtain ⟨_, _, _, _, o, _, _, e, ex, _⟩ := I.hok p _ hk
          exact ⟨o, e, ex⟩
      obtain ⟨o, e, ex⟩ := z
      refine ⟨⟨o, e, ex.1⟩, fun a e2 => ?_⟩
      cases e2
      exact ⟨o, e, ex.2.1⟩
    · obtain ⟨o, _, _, _, e, ex, _⟩ := I.hok p _ hk
      refine ⟨⟨o, e, ex.1⟩, fun a e2 => ?_⟩
      cases e2
      exact ⟨o, e, ex.2.1⟩
  | _ => exact False.elim ty
def tBM0 (K : PySem.W.Frag) (T : String) (r : V → List V → Hp → VK → Prop) (to : TE) : TE := fun σ H Q => to σ H fun x H1 => tyV K T x H1 ∧ r x [] H1 Q
def tBM (K : PySem.W.Frag) (T : String) (r : V → List V → Hp → VK → Prop) (to : TE) (t : TA) : TE := fun σ H Q => to σ H fun x H1 => tyV K T x H1 ∧ t σ H1 fun xs H2 => r x xs H2 Q
variable {o e : Expr} {es : List Expr} {to : TE} {t : TA} {name : Str} {apos cpos : Pos} {T id : String} {r : V → List V → Hp → VK → Prop}
theorem pe_bm0 (pa : PlainAttrs T) (slot : Slot T name id) (hty : typeOf (.builtin id) = pure (.type "method_descriptor")) (hm : MtR X id r) (ho : PE X o to)
    (hbase : attributeBase o name X.env (eval o X.env) = eval o X.env := by rfl) (hline : (apos.endLine == cpos.line) = true := by rfl) : PE X (.Call (.Attribute o name apos) [] [] cpos) (tBM0 X.K T r to) := by
  intro pins s σ H Q I h
  refine wpAny_Call_method0_late hbase hline (thn (ho pins s σ H _ I h) fun v s1 ⟨x, H1, I1, r1, ty, q1⟩ => ?_)
  obtain ⟨h1, h2⟩ := tyV_is I1 r1 ty
  exact ⟨T, id, pa, slot, hty, h1, h2, Calls.callWith_builtin rfl (PySem.evalArgs_none (hm pins s1 σ H1 x [] v [] Q I1 r1 .nil q1))⟩
theorem pe_bm (pa : PlainAttrs T) (slot : Slot T name id) (hty : typeOf (.builtin id) = pure (.type "method_descriptor")) (hm : MtR X id r) (ho : PE X o to) (ha : PA X (e :: es) t)
    (hbase : attributeBase o name X.env (eval o X.env) = eval o X.env := by rfl)
    (hfew : ((backTo cpos (starEach (e :: es) X.env)).all (fun x => !x.1) && (backToKw cpos (keywordEach [] X.env)).all (fun x => x.1.isSome)
      && decide ((e :: es).length + ([] : List Keyword).length + (if ([] : List Keyword).isEmpty then 0 else 1) < 30)) = true := by rfl)
    (hline : (apos.endLine == cpos.line) = true := by rfl) (hs : starEach (e :: es) X.env = (false, eval e X.env) :: starEach es X.env := by rfl) (hplain : (backTo cpos (starEach es X.env)).any (·.1) = false := by rfl) :
    PE X (.Call (.Attribute o name apos) (e :: es) [] cpos) (tBM X.K T r to t) := by
  intro pins s σ H Q I h
  refine wpAny_Call_method_late hbase hfew hline rfl (thn (ho pins s σ H _ I h) fun v s1 ⟨x, H1, I1, r1, ty, q1⟩ => ?_)
  obtain ⟨h1, h2⟩ := tyV_is I1 r1 ty
  refine ⟨T, id, pa, slot, hty, h1, h2, ?_⟩
  have hA := ha cpos pins s1 σ H1 _ I1 q1
  rw [hs] at hA ⊢
  refine Calls.callWith_builtin (by show (false || (backTo cpos (starEach es X.env)).any (·.1)) = false; rw [hplain] <;> rfl) (Calls.evalArgs_plain ?_)
  exact thn hA fun us s2 ⟨vs, H2, I2, r2, q2⟩ => hm pins s2 σ H2 x vs v us Q I2 r1 r2 q2
/- xs.append(e), list.index on a module's tuple .. are MtR facts of 06m -/
end
end L2

namespace L2
open PySem PySem.Spec PyProof.Rows

def MtM (X : Cx) (id : String) (r : V → List V → Hp → VK → Prop) : Prop :=
  ∀ (pins : List (Addr × Obj)) (s : Shared) (σ : St) (H : Hp) (x : V) (xs : List V) (v : Value) (us : List Value) (Q : VK), Inv X pins σ H s → RelV x v → Vals xs us → r x xs H Q →
    wpAny (model X.prog X.w) X.A (call (.builtin id) (v :: us)) (EP X pins σ Q) X.xe s

/-! ### lists of values -/
theorem Vals.one : ∀ {x : V} {us : List Value}, Vals [x] us → ∃ u, us = [u] ∧ RelV x u
  | _, _, .cons r .nil => ⟨_, rfl, r⟩
theorem Vals.two : ∀ {x y : V} {us : List Value}, Vals [x, y] us → ∃ u v, us = [u, v] ∧ RelV x u ∧ RelV y v
  | _, _, _, .cons r (.cons q .nil) => ⟨_, _, rfl, r, q⟩
theorem Vals.zero : ∀ {us : List Value}, Vals [] us → us = []
  | _, .nil => rfl
theorem Vals.rep {xs : List V} {us : List Value} (h : Vals xs us) : ∀ k : Nat, Vals (List.replicate k xs).flatten (List.replicate k us).flatten
  | 0 => .nil
  | k + 1 => by
    rw [List.replicate_succ, List.replicate_succ, List.flatten_cons, List.flatten_cons]
    exact Vals.append h (Vals.rep h k)
theorem foldl_rep (its : List Value) : ∀ (k : Nat) (acc : List Value),
    List.foldl (fun x1 x2 => x1 ++ x2) acc.toArray (List.replicate k its.toArray) = (acc ++ (List.replicate k its).flatten).toArray
  | 0, acc => by simp
  | k + 1, acc => by
    have e : acc.toArray ++ its.toArray = (acc ++ its).toArray := by simp
    have e2 : (acc ++ its) ++ (List.replicate k its).flatten = acc ++ (List.replicate (k + 1) its).flatten := by
      rw [List.replicate_succ, List.flatten_cons, List.append_assoc]
    rw [← e2, ← foldl_rep its k (acc ++ its), ← e, List.replicate_succ, List.foldl_cons]

section
variable {X : Cx} {pins : List (Addr × Obj)} {σ : St} {H : Hp} {s : Shared} {l b : Addr} {xs ys zs : List V}

/-! ### the two steps: a tracked list is rewritten, a new list is laid -/
theorem Inv.lset {its its' : List Value} {n : Nat} {f : Array Value → Array Value} {t' : Nat} (I : Inv X pins σ H s) (hH : H l = some (.lst xs))
    (e : s.heap.get? l = some { cls := .type "list", data := .seq its.toArray n }) (hf : f its.toArray = its'.toArray) (hv : Vals ys its') (hz : ys.length ≤ sizeLine) :
    Inv X pins σ (upd H l (.lst ys)) { s with heap := s.heap.update l (Obj.mapSeq f), toks := t' } := by
  have q := PySem.IsL.update e f
  rw [hf] at q
  refine I.write (x := l) (e := l) (by rw [hH]; exact trivial) (.inl rfl) (fun b' u hb hu => (Heap.get?_update_other s.heap (Obj.mapSeq f) (Ne.symm hb)).trans hu) ⟨_, q⟩ ?_
  exact ⟨hz, its', _, hv, q⟩
theorem Inv.lnew {its : List Value} {t' : Nat} (I : Inv X pins σ H s) (hv : Vals ys its) (hz : ys.length ≤ sizeLine) :
    Inv X pins σ (upd H s.heap.objs.size (.lst ys)) { s with heap := s.heap.push { cls := .type "list", data := .seq its.toArray }, toks := t' } :=
  I.laid (fun _ _ q => Heap.get?_push_of_some _ q) (Nat.le_refl _) ⟨hz, its, 0, hv, Heap.get?_push_size _ rfl⟩
theorem Inv.fresh (I : Inv X pins σ H s) : H s.heap.objs.size = none := I.hok.fresh (Nat.le_refl _)
theorem Inv.lstM (I : Inv X pins σ H s) (hH : H l = some (.lst xs)) : xs.length ≤ sizeLine ∧ ∃ (its : List Value) (n : Nat), Vals xs its ∧ xs.length = its.length ∧ s.heap.get? l = some { cls := .type "list", data := .seq its.toArray n } := by
  obtain ⟨z, its, n, r, e⟩ := I.hok l _ hH
  exact ⟨z, its, n, r, r.length, e⟩

theorem notLongL {n : Nat} (h : n ≤ sizeLine) : Builtin.List.listTooLong n = false := by
  unfold Builtin.List.listTooLong
  exact decide_eq_false (by omega)
end

section
variable {X : Cx}

/-! ### methods -/
def rAppend : V → List V → Hp → VK → Prop := fun x vs H Q => ∃ l xs y, x = .ref l ∧ vs = [y] ∧ H l = some (.lst xs) ∧ xs.length < sizeLine ∧ Q .non (upd H l (.lst (xs ++ [y])))
theorem mt_append : MtM X "list.append" rAppend := by
  intro pins s σ H x vs v us Q I rx rv h
  obtain ⟨l, xs, y, rfl, rfl, hH, hz, q⟩ := h
  cases rx
  obtain ⟨u, rfl, ru⟩ := rv.one
  obtain ⟨z, its, n, r, hl, e⟩ := I.lstM hH
  refine call_meets F.slot_list_append ⟨_, e, rfl⟩ F.entry_list_append (F.args_list_append_2 _ _) (PySem.list_append l its.toArray n u (by rw [List.size_toArray]; omega)) ⟨e, ?_⟩
  refine ⟨.non, _, I.lset (its' := its ++ [u]) hH e (by simp) (r.append (.cons ru .nil)) ?_, rfl, q⟩
  rw [List.length_append, List.length_singleton]
  omega





def rClear : V → List V → Hp → VK → Prop := fun x vs H Q => ∃ l xs, x = .ref l ∧ vs = [] ∧ H l = some (.lst xs) ∧ Q .non (upd H l (.lst []))
theorem mt_clear : MtM X "list.clear" rClear := by
  intro pins s σ H x vs v us Q I rx rv h
  obtain ⟨l, xs, rfl, rfl, hH, q⟩ := h
  cases rx
  have hus := rv.zero
  subst hus
  obtain ⟨z, its, n, r, hl, e⟩ := I.lstM hH
  refine call_meets F.slot_list_clear ⟨_, e, rfl⟩ F.entry_list_clear (F.args_list_clear_1 _) (AutoSeq1.list_clear_list_0 l its.toArray n (by rw [List.size_toArray]; omega)) ⟨e, ?_⟩
  exact ⟨.non, _, I.lset (its' := []) (ys := []) hH e rfl .nil (Nat.zero_le _), rfl, q⟩

/-! ### list + list, list += list, list * int -/
def rCat : R2 := fun x y H Q => ∃ l b xs zs, x = .ref l ∧ y = .ref b ∧ H l = some (.lst xs) ∧ H b = some (.lst zs) ∧ xs.length + zs.length ≤ sizeLine ∧ ∀ p, H p = none → Q (.ref p) (upd H p (.lst (xs ++ zs)))
theorem op_cat : OpR X (binaryOp .Add) rCat := by
  intro pins s σ H x y v u Q I rx ry h
  obtain ⟨l, b, xs, zs, rfl, rfl, hH, hB, hz, q⟩ := h
  cases rx
  cases ry
  obtain ⟨z, its, n, r, hl, e⟩ := I.lstM hH
  obtain ⟨z2, its2, n2, r2, hl2, e2⟩ := I.lstM hB
  refine PySem.P.add_list e e2 ?_ (by rw [List.size_toArray, List.size_toArray]; omega)
  have ea : its.toArray ++ its2.toArray = (its ++ its2).toArray := by simp
  rw [ea]
  exact ⟨.ref _, _, I.lnew (t' := s.toks) (r.append r2) (by rw [List.length_append]; omega), rfl, q _ I.fresh⟩
/-- a list times an int (a negative one is nothing) -/
def rRep : R2 := fun x y H Q => ∃ l k xs, x = .ref l ∧ y = .int k ∧ H l = some (.lst xs) ∧ -(2 ^ 63) ≤ k ∧ k < 2 ^ 63 ∧ xs.length * k.toNat ≤ sizeLine ∧
  ∀ p, H p = none → Q (.ref p) (upd H p (.lst (List.replicate k.toNat xs).flatten))
theorem len_rep {α : Type} (xs : List α) (k : Nat) : (List.replicate k xs).flatten.length = k * xs.length := by
  induction k with
  | zero => simp
  | succ k ih => rw [List.replicate_succ, List.flatten_cons, List.length_append, ih, Nat.succ_mul, Nat.add_comm]
theorem op_rep : OpR X (binaryOp .Mult) rRep := by
  intro pins s σ H x y v u Q I rx ry h
  obtain ⟨l, k, xs, rfl, rfl, hH, h1, h2, hz, q⟩ := h
  cases rx
  obtain ⟨t, rfl⟩ := ry
  obtain ⟨z, its, n, r, hl, e⟩ := I.lstM hH
  have hlen : its.toArray.size * k.toNat ≤ sizeLine := by rw [List.size_toArray, ← hl]; exact hz
  have hcap : ¬ its.toArray.size * k.toNat > (2 ^ 63 - 1) / 8 := by
    have : (sizeLine : Nat) ≤ (2 ^ 63 - 1) / 8 := by decide
    omega
  have hfit : ¬ (!Builtin.List.listFitsIndex k) = true := by
    rw [fitsIndex_both h1 h2]
    exact Bool.false_ne_true
  have hlong : ¬ Builtin.List.listTooLong (its.toArray.size * k.toNat) = true := by
    rw [notLongL hlen]
    exact Bool.false_ne_true
  have hnew : List.foldl (fun x1 x2 => x1 ++ x2) #[] (List.replicate (if its.toArray.isEmpty = true then 0 else k.toNat) its.toArray) = (List.replicate k.toNat its).flatten.toArray := by
    have f0 : ∀ m : Nat, List.foldl (fun x1 x2 => x1 ++ x2) #[] (List.replicate m its.toArray) = (List.replicate m its).flatten.toArray := fun m => by
      have := foldl_rep its m []
      rw [List.nil_append] at this
      exact this
    rw [f0]
    cases its with
    | nil => simp
    | cons a r' => rw [if_neg (by simp)]
  refine wpAny_binaryOp_repeat_ref (T := "list") (U := "int") (by decide) ⟨_, e, rfl⟩ (fun s' => typeIs_int s' k t) noFill_list_mul F.fills_int_mul F.slot_int_rmul repeat_list F.slot_int_index.lookup
    (call_meets F.slot_int_rmul (typeIs_int s k t) F.entry_int_rmul (F.args_int_rmul_2 _ _) (int___rmul___int_list k t l its.toArray n)
      ⟨e, rfl, ⟨_, e, rfl⟩, call_meets F.slot_list_mul ⟨_, e, rfl⟩ F.entry_list_mul (F.args_list_mul_2 _ _) (AutoListH.list___mul___list_int_3 l its.toArray n k t hfit hcap hlong) ⟨e, ?_⟩⟩)
  rw [hnew]
  exact ⟨.ref _, _, I.lnew (t' := s.toks) (r.rep k.toNat) (by rw [len_rep, Nat.mul_comm]; exact hz), rfl, q _ I.fresh⟩

/-! ### del xs[i] -/
end

/-! ### xs[a:b] = ys -/
section
variable {prog : Program} {w : World} {A : Around} {E : Value → Shared → Prop} {s : Shared}
end

section
variable {X : Cx}
end
end L2

namespace Att
open PySem PySem.W PySem.Calls PyProof.Rows

/-! ### the script -/
theorem ints_of_wellAll {P : Params} {h : Heap} : ∀ (ns : List Int) (vs : List Value), WellAll P h vs (ns.map WData.int) → IntsAre vs ns := by
  intro ns
  induction ns with
  | nil =>
    intro vs w
    rw [List.map_nil] at w
    cases w
    exact .nil
  | cons n ns ih =>
    intro vs w
    rw [List.map_cons] at w
    cases w with
    | cons a b =>
      cases a
      exact .cons _ _ (ih _ b)

theorem script_of {l : OpenLaw} {n : Nat} (hn : l.most = some n) {P : Params} {h : Heap} {args : List WData} {vals : List Value}
    (hpre : l.row.toRowW.claim.pre args = true) (hwl : WellAll P h vals args) :
    ∃ a vs ns, vals = [Value.ref a] ∧ args = [WData.list (ns.map WData.int)] ∧ h.get? a = some { cls := .type "list", data := .seq vs.toArray } ∧ IntsAre vs ns ∧ ns.length ≤ n := by
  have hsh : WShape.hasAll [] args [.list .int] = true := (pre_splitW hpre).1
  have hc : l.pre.holds [] { args := args } = true := (pre_splitW hpre).2
  obtain ⟨d, r, rfl, h1, h2⟩ := hasAllW_cons hsh
  obtain rfl := hasAllW_nil h2
  obtain ⟨xs, rfl, h3⟩ := hasW_list h1
  obtain ⟨ns, rfl⟩ := items_int h3
  have hlen : ns.length ≤ n := by
    unfold OpenLaw.pre at hc
    have h4 : (WTm.not (.lt (.lit (.int (n : Int))) (.len (.arg 0)))).holds [] { args := [.list (ns.map .int)] } = true := by
      have h4 := (holds_andW hc).1
      rw [hn] at h4
      exact h4
    have h5 := condW_of h4 (w_not (w_lt w_lit (w_len_list (w_arg rfl))))
    rw [List.length_map] at h5
    refine Nat.le_of_not_lt fun q => ?_
    have q' : (n : Int) < ((ns.length : Nat) : Int) := by omega
    first
      | (rw [decide_eq_true q'] at h5; exact absurd h5 (by decide))
      | (simp at h5; omega)
  cases hwl with
  | cons w1 w2 =>
    cases w2
    cases w1 with
    | list ho hall => exact ⟨_, _, ns, rfl, rfl, ho, ints_of_wellAll ns _ hall, hlen⟩

theorem post_true (l : OpenLaw) (args : List WData) : l.row.toRowW.claim.post args (.bool true) args = true :=
  postW_of (r := l.row.toRowW) (X := (true == true))
    (show WShape.has [] (.bool true) .bool = true by first | rfl | decide | simp [WShape.has, WShape.arms, WShape.armsAll])
    (show (WTm.eq .res (.lit (.bool true))).value [] { args := args, res := some (.bool true), after := args } = some (.bool (true == true)) from w_eq_bool (w_res rfl) w_lit) rfl

/-! ### the attachment: holds_open's last premise (the goal 'hc' behind k_head) from a wpAny of the law's body -/

/-- the same from a codeAny of the CALL (for a layer whose function contracts speak of calls) -/
theorem attach_call {l : OpenLaw} {n : Nat} {q : Program} {loose : List Str} {XP : (Str → Option Value) → Heap → Prop} {YP : World → Heap → Prop} {d : DefRec}
    (hn : l.most = some n) (hdf : d.params.defaults = [])
    (call : ∀ (w : World) (s₀ s₁ : Shared) (mg mb : Str → Option Value) (fa : Addr) (o : Obj) (pm cd doc : Value) (a : Addr) (vs : List Value) (ns : List Int),
      Ground q loose [] XP w s₀ mg mb s₁.heap → YP w s₁.heap →
      s₁.heap.get? fa = some o → o.data = .func (docDef d.name d.params d.body d.scope pm cd doc) → s₁.heap.CodeRec cd d.name → mg d.name = some (.ref fa) →
      s₁.heap.get? a = some { cls := .type "list", data := .seq vs.toArray } → IntsAre vs ns → ns.length ≤ n → s₁.gens = #[] →
      codeAny (model l.prog w) callerA (.call (.ref fa) ⟨[.ref a], []⟩) (fun r s' => r = .ok (.ret (.bool true)) ∧ OldK s₁.heap s'.heap ∧ s'.os = s₁.os ∧ AllBare s'.gens) s₁) :
    WalkO q loose XP YP l.row.toRowW d [] (fun f vs => PySem.call f vs) := by
  intro w s₀ s₁ mg mb G Y fa o pm cd doc dV kV ho hd hcd hD hmg hg args vals as hpre hlay hrd hwl hlo
  obtain rfl : dV = .none := Dflts.none hD hdf
  obtain rfl : kV = .none := Dflts.noKw hD
  obtain ⟨a, vs, ns, rfl, rfl, hobj, hints, hlen⟩ := script_of hn hpre hwl
  refine enter_call (codeAny_mono (call w s₀ s₁ mg mb fa o pm cd doc a vs ns G Y ho (fd_plain hd) hcd hmg hobj hints hlen hg) fun r s' hq => ?_)
  obtain ⟨rfl, h2, h3, h4⟩ := hq
  exact ⟨.inl ⟨.bool true, .bool true, [], rfl, fun _ => rfl, .bool true, post_true l _, fun _ => ⟨List.Pairwise.nil, fun _ hm => (nomatch hm)⟩⟩, h2, h3, h4⟩


/-! ### rules over ANY heap (no ledger) from facts about the written part K: the library's own take a ledger (News) for what they write -/
section
variable {prog : Program} {w : World} {A : Around} {E : Value → Shared → Prop} {s : Shared} {K : Frag}





/-! the whole heap as the ledger: makes every rule that writes through a ledger a rule over any heap -/

end
end Att

namespace L2
open PySem PySem.Spec PyProof.Rows

theorem vals_ints : ∀ {vs : List Value} {ns : List Int}, IntsAre vs ns → Vals (ns.map V.int) vs
  | _, _, .nil => .nil
  | _, _, .cons n t h => .cons ⟨t, rfl⟩ (vals_ints h)

/-- nothing is tracked but the script, known to the object (or it is an object of the module) -/
def Only (H : Hp) : Prop := ∀ b, H b = none ∨ ∃ o xs, H b = some (.frz o (.lst xs))

/-- THE HEAD: the law's promise, at the heap behind the top. F, the promise of the law's def, may use that base is part of the heap (so K.In base, base.Ns mainGlobals mg stand in Mod) -/
theorem law_call {P : Program} {w : World} {K : PySem.W.Frag} {mg mb : Str → Option Value} {CX : CXT} {k : Nat} {fa a : Addr} {fd : FuncData} {x : Str} {sp : Sp} {s₁ : Shared} {vs : List Value} {ns : List Int}
    (KX : K.In s₁.heap) (hns : s₁.heap.Ns mainGlobals mg) (hb : s₁.heap.Ns builtinsNs mb) (hbb : ∀ x : Str, x ≠ "__name__" → mb x = bootBuiltins x) (hlim : s₁.heap.NoLimit) (hg : s₁.gens = #[])
    (ha : s₁.heap.get? a = some { cls := .type "list", data := .seq vs.toArray }) (hi : IntsAre vs ns) (hl : ns.length ≤ sizeLine) (hr : Room k callerA)
    (F : ∀ base : Heap, K.In base → base.Ns mainGlobals mg → FnOk P w K mg base CX k fa fd [x] sp) (hbind : ∀ (s : Shared) (u : Value), BindsTo s fd ⟨[u], []⟩ [(x, u)])
    (hsp : ∀ H : Hp, Only H → SqL K H a (ns.map V.int) → sp [.ref a] H (fun v _ => v = .bl true) fun _ _ _ => False)
    (hCX : ∀ H e s', CX [] H s₁ (fun _ _ _ => False) e s' → False) :
    codeAny (model P w) callerA (.call (.ref fa) ⟨[.ref a], []⟩) (fun r s' => r = .ok (.ret (.bool true)) ∧ OldK s₁.heap s'.heap ∧ s'.os = s₁.os ∧ AllBare s'.gens) s₁ := by
  have rv := vals_ints hi
  have lenV := hi.length
  -- from an abstract heap in which nothing but the script may be tracked
  have core : ∀ H : Hp, Only H → SqL K H a (ns.map V.int) → HOk P w H s₁.heap → (∀ b, H b ≠ none → b = a) → (H a ≠ none → K.lookup a = none) →
      codeAny (model P w) callerA (.call (.ref fa) ⟨[.ref a], []⟩) (fun r s' => r = .ok (.ret (.bool true)) ∧ OldK s₁.heap s'.heap ∧ s'.os = s₁.os ∧ AllBare s'.gens) s₁ := by
    intro H hO hS hok hA hK
    have base_of : ∀ {b : Addr} {o : Obj}, s₁.heap.get? b = some o → H b = none → (hidT s₁.heap H).get? b = some o := fun e n => hidT_get e n
    have noA : ∀ {b : Addr} {o : Obj} {es : Array DictEntry} {ep : Nat}, s₁.heap.get? b = some o → o.data = .dict es ep → H b = none := fun {b o es ep} e d => by
      cases q : H b with
      | none => rfl
      | some u =>
        have e' : b = a := hA b (by rw [q]; simp)
        subst e'
        rw [ha] at e; cases e
        have d' : Data.seq vs.toArray _ = Data.dict es ep := d
        cases d'
    have nsK : ∀ {b : Addr} {m : Str → Option Value}, s₁.heap.Ns b m → (hidT s₁.heap H).Ns b m := fun {b m} ⟨o, es, ep, e, d, r⟩ => ⟨o, es, ep, base_of e (noA e d), d, r⟩
    have hKb : K.In (hidT s₁.heap H) := fun b o e => base_of (KX b o e) (by
      cases q : H b with
      | none => rfl
      | some u =>
        have e' : b = a := hA b (by rw [q]; simp)
        subst e'
        rw [hK (by rw [q]; simp)] at e; cases e)
    have hM : Mod K mg (hidT s₁.heap H) := ⟨hKb, nsK hns, ⟨mb, nsK hb, hbb⟩, let ⟨mc, h1, h2⟩ := hlim; ⟨mc, nsK h1, h2⟩⟩
    have e0 : Env0 P w K mg (hidT s₁.heap H) callerA [] s₁ H := ⟨rfl, hM, fun b o e => of_hidT e, Nat.le_of_eq (hidT_size _ _), trivial, fun b hb => absurd (show b ∈ ([] : List Addr) from hb) (by simp), hok, .of_eq hg⟩
    refine codeAny_mono ((F _ hKb (nsK hns)).run callerA [] s₁ H ⟨[.ref a], []⟩ [.ref a] [.ref a] _ _ hr e0 (hbind s₁ (.ref a)) (.cons rfl .nil) (hsp H hO hS)) fun r s' h => ?_
    cases r with
    | error e => exact (hCX H e s' h).elim
    | ok fl =>
      cases fl with
      | next => exact False.elim h
      | brk => exact False.elim h
      | cont => exact False.elim h
      | ret u =>
        obtain ⟨v, H', os, bare, un, hok', r', q⟩ := h
        have q' : v = .bl true := q
        subst q'
        obtain rfl : u = Value.bool true := r'
        refine ⟨rfl, OldK.of_keep fun b o e => ?_, os, bare⟩
        cases q : H b with
        | none => exact un.keep b o e q (by intro z; exact absurd (show b ∈ ([] : List Addr) from z) (by simp)) (by simp)
        | some u =>
          rcases hO b with z | ⟨ob, xs, z⟩
          · rw [q] at z; cases z
          · have z2 := un.frzs b ob _ z
            obtain ⟨e1, _⟩ := hok b _ z
            obtain ⟨e2, _⟩ := hok' b _ z2
            rw [e] at e1; cases e1
            exact e2
  cases hk : K.lookup a with
  | some o =>
    -- the script is one of the module's own objects
    have e := KX a o hk
    rw [ha] at e
    cases e
    refine core (fun _ => none) (fun _ => .inl rfl) (.inr ⟨_, vs.toArray, _, hk, rfl, rfl, rfl, by rw [List.size_toArray, lenV]; exact hl, by simpa using rv⟩) (fun b u z => by have z' : (none : Option HO) = some u := z; cases z') (fun b z => absurd rfl z) fun z => absurd rfl z
  | none =>
    refine core (fun b => if b = a then some (.frz { cls := .type "list", data := .seq vs.toArray } (.lst (ns.map V.int))) else none) (fun b => ?_) (.inl (.inr ⟨{ cls := .type "list", data := .seq vs.toArray }, if_pos rfl⟩)) (fun b u z => ?_) (fun b z => ?_) fun _ => hk
    · by_cases hb : b = a
      · exact .inr ⟨_, _, if_pos hb⟩
      · exact .inl (if_neg hb)
    · by_cases hb : b = a
      · have z' := (if_pos hb).symm.trans z
        cases z'
        subst hb
        exact ⟨ha, by rw [List.length_map]; exact hl, vs, _, rv, ha⟩
      · have z' := (if_neg hb).symm.trans z
        cases z'
    · by_cases hb : b = a
      · exact hb
      · exact absurd (if_neg hb) z
end L2

namespace L2
open PySem PySem.Spec PyProof.Rows


/-- the goal that k_head leaves (case hc), from the law's promise. F gives the function object fd (K's own) once, then the promise over every base -/
theorem walk_of {l : PySem.W.OpenLaw} {n k : Nat} {q : Program} {loose : List Str} {XP : (Str → Option Value) → Heap → Prop} {YP : World → Heap → Prop} {d : DefRec} {K : Params → PySem.W.Frag} {CX : World → CXT} {sp : World → Sp} {x : Str}
    (hn : l.most = some n) (hn2 : n ≤ sizeLine) (hdf : d.params.defaults = []) (hr : Room k callerA)
    (hY : ∀ (w : World) (h : Heap), YP w h → (K w.params).In h)
    (F : ∀ (w : World) (mg : Str → Option Value) (fa : Addr) (h : Heap), (K w.params).In h → h.Ns mainGlobals mg → mg d.name = some (.ref fa) →
      ∃ fd : FuncData, (∀ (s : Shared) (u : Value), BindsTo s fd ⟨[u], []⟩ [(x, u)]) ∧
        ∀ base : Heap, (K w.params).In base → base.Ns mainGlobals mg → FnOk l.prog w (K w.params) mg base (CX w) k fa fd [x] (sp w))
    (hsp : ∀ (w : World) (H : Hp) (a : Addr) (ns : List Int), ns.length ≤ n → Only H → SqL (K w.params) H a (ns.map V.int) → sp w [.ref a] H (fun v _ => v = .bl true) fun _ _ _ => False)
    (hCX : ∀ (w : World) (H : Hp) (s : Shared) (e : Value) (s' : Shared), CX w [] H s (fun _ _ _ => False) e s' → False) :
    PySem.W.WalkO q loose XP YP l.row.toRowW d [] (fun f vs => PySem.call f vs) := by
  refine Att.attach_call hn hdf fun w s₀ s₁ mg mb fa o pm cd doc a vs ns G Y ho hd hcd hmg hobj hints hlen hg => ?_
  have KX := hY w _ Y
  obtain ⟨fd, hb, hF⟩ := F w mg fa _ KX G.T.g hmg
  exact law_call KX G.T.g G.T.b G.T.builtins G.T.nolimit hg hobj hints (Nat.le_trans hlen hn2) hr hF hb (fun H hO hS => hsp w H a ns hlen hO hS) fun H e s' => hCX w H s₁ e s'
end L2

/- THE LAST THEOREM (shape; LID, My.* are yours):
   My.Adr: a structure of the addresses that your layer names (classes, functions); My.Txt K t: a structure (Prop) of the equations over K;
   My.txt_mk : {K} {implicit addresses ..} (e1 : nsIn K mainGlobals "law" = some (some (.ref f))) (e2 : K.lookup f = some ⟨oc, od, .func (fnOf "law" "law" params body scope dV kV doc pm an cdv ct), sl⟩) (e3 : codeIn K cdv "law" = true) .. : ∃ t, My.Txt K t

set_option maxRecDepth 100000 in
set_option maxHeartbeats 0 in
theorem PySem.Challenge.cw_LID_holds : PySem.Challenge.rw_LID.Holds := by
  w_on; o_law; k_head; (case hw => w_witness2)
  k_fill
  refine L2.walk_of (l := PySem.Challenge.rw_LID) (n := 63) (k := 40) (x := "script") (CX := fun w => ..) (sp := fun _ => My.sp_law) rfl (by decide) rfl ⟨rfl, by decide, by decide⟩ (fun w h Y => PySem.W.kIn_of Y) ?F ?S ?C
  case F =>
    intro w mg fa h KX G hmg
    have T : ∃ t, My.Txt (L2.KOf KX) t := by
      dsimp only [L2.KOf]                          -- K must stand as «<heap const> w.params» for k_is
      refine' My.txt_mk ?e1 ?e2 ?e3 ..
      (case e1 => PySem.W.k_is)                    -- in the order: a name -> its address -> its object -> its parts
      (case e2 => PySem.W.k_is)
      ..
    obtain ⟨t, T⟩ := T
    have e0 := hmg.symm.trans (PySem.W.mg_of KX G T.law)
    cases e0                                       -- fa is the law's own address
    exact ⟨_, fun s u => .of_eq rfl, fun base kb nb => My.law_fn T kb nb⟩     -- if «.of_eq rfl» comes too early: refine' ⟨_, ?b, fun base kb nb => My.law_fn T kb nb⟩; exact fun s u => .of_eq rfl
  case S => exact fun w H a ns hl hO hS => ..
  case C => exact ..
(the tactic k_is has no namespace: write k_is) -/

/-! SHORT WORDS over the layer: a def of the text, its body, what a loop and a test want. -/
namespace L2
open PySem PySem.Spec PyProof.Rows

/-! ### the text by places -/
def defArgs (s : Stmt) : Arguments := match s with
  | .FunctionDef _ a _ _ _ _ _ _ _ _ => a
  | _ => { posonlyargs := [], args := [], vararg := none, kwonlyargs := [], kw_defaults := [], kwarg := none, defaults := [] }
def defBody (s : Stmt) : List Stmt := match s with
  | .FunctionDef _ _ b _ _ _ _ _ _ _ => b
  | _ => []
def defScope (s : Stmt) : Scope := match s with
  | .FunctionDef _ _ _ _ _ _ sc _ _ _ => sc
  | _ => { kind := .function, names := [], isGenerator := false, isCoroutine := false }

/-! ### no exception leaves a def -/
abbrev CX0 : CXT := fun _ _ _ _ _ _ => False
abbrev E0 : XK := fun _ _ _ => False
theorem pass0 {X : Cx} : Passes CX0 X E0 := fun _ _ _ _ _ _ _ h => h.elim

/-! ### a def (or method) of the text as it stands behind the top -/
structure Fun (K : PySem.W.Frag) (x qual : Str) (st : Stmt) (f : Addr) (fd : FuncData) : Prop where
  ex : ∃ (oc : Value) (od : Option Addr) (kV doc pm : Value) (an : Option Addr) (cdv ct : Value) (osl : Array (Option Value)),
    fd = PySem.W.fnOf x qual (defArgs st) (defBody st) (defScope st) .none kV doc pm an cdv ct ∧ K.lookup f = some ⟨oc, od, .func fd, osl⟩ ∧ PySem.W.codeIn K cdv qual = true
  kp : PySem.W.keepIn K (.ref f) = true
section
variable {P : Program} {w : World} {K : PySem.W.Frag} {mg : Str → Option Value} {base : Heap}
/-- THE RULE for a def: its body as a term of rules, and the reading of that term -/
theorem Fun.ok {x qual : Str} {st : Stmt} {f : Addr} {fd : FuncData} {N ps : List Str} {k : Nat} {sp : Sp} (F : Fun K x qual st f fd) (S : FnScope N ps (defScope st)) (len : ∀ vs H Q E, sp vs H Q E → vs.length = ps.length)
    (hbody : ∀ (cdv : Value) (A : Around) (outer : List Env) (s : Shared) (H : Hp) (vs : List V) (Q : VK) (E : XK), Room k (A.deeper (envOfC qual (defScope st) s.heap.objs.size f cdv)) → sp vs H Q E →
      ∃ t, PSs (cxOf CX0 P w K mg base N qual (defScope st) f cdv A outer s H E).nox (defBody st) t ∧ t { nx := fun _ H' => Q .non H', rt := Q } (start N vs) H) : FnOk P w K mg base CX0 (k + 1) f fd ps sp := by
  obtain ⟨oc, od, kV, doc, pm, an, cdv, ct, osl, rfl, lk, hcd⟩ := F.ex
  refine fn_of lk hcd S len fun A outer s H vs Q E hr hsp => ?_
  obtain ⟨t, h, q⟩ := hbody cdv A outer s H vs Q E hr hsp
  exact ⟨t, h.nox, q⟩
/-- how its arguments bind (no defaults): h is «fun _ _ _ _ _ _ us hl => match us, hl with | [_, _], _ => rfl», one _ a parameter -/
theorem Fun.binds {x qual : Str} {st : Stmt} {f : Addr} {fd : FuncData} {ps : List Str} (F : Fun K x qual st f fd)
    (h : ∀ (kV doc pm : Value) (an : Option Addr) (cdv ct : Value) (us : List Value), us.length = ps.length → bindArgs (PySem.W.fnOf x qual (defArgs st) (defBody st) (defScope st) .none kV doc pm an cdv ct) ⟨us, []⟩ = pure (ps.zip us)) : Binds K fd ps [] := by
  obtain ⟨oc, od, kV, doc, pm, an, cdv, ct, osl, rfl, lk, hcd⟩ := F.ex
  exact .all (h kV doc pm an cdv ct)
theorem fun_mk {x qual : Str} {st : Stmt} {f : Addr} {oc : Value} {od an : Option Addr} {osl : Array (Option Value)} {kV doc pm cdv ct : Value} (l : K.lookup f = some ⟨oc, od, .func (PySem.W.fnOf x qual (defArgs st) (defBody st) (defScope st) .none kV doc pm an cdv ct), osl⟩)
    (c : PySem.W.codeIn K cdv qual = true) (k : PySem.W.keepIn K (.ref f) = true) : Fun K x qual st f (PySem.W.fnOf x qual (defArgs st) (defBody st) (defScope st) .none kV doc pm an cdv ct) := ⟨⟨oc, od, kV, doc, pm, an, cdv, ct, osl, rfl, l, c⟩, k⟩
end
theorem hu_of {A : Around} {k : Nat} (hr : Room k A) : A.units + 1 < cLine := Nat.lt_of_le_of_lt (Nat.add_le_add_left (by decide : 1 ≤ 64) _) hr.units

/-! ### expressions in short: the name that stands in the i-th slot -/
section
variable {X : Cx}
theorem pv (i : Nat) {x : Str} {pos : Pos} (hN : X.N[i]? = some x := by rfl) (hv : Vis X.env.scope x := by first | exact Or.inl rfl | exact Or.inr (Or.inl rfl) | exact Or.inr (Or.inr rfl)) (hd : (x == ("__debug__" : Str)) = false := by decide)
    (hcd : (x == ("__classdict__" : Str)) = false := by decide) : PE X (.Name x pos) (tVar i) := pe_var hN hv hd hcd
end

/-! ### tests -/
theorem iteF {A B : Prop} (h : B) : if false = true then A else B := by
  rw [if_neg Bool.false_ne_true]
  exact h
theorem iteT {A B : Prop} (h : A) : if true = true then A else B := by
  rw [if_pos rfl]
  exact h

/-! ### heaps -/
/-- all that was tracked is as it was -/
def Same (H H' : Hp) : Prop := ∀ b o, H b = some o → H' b = some o
theorem Same.seq {K : PySem.W.Frag} {H H' : Hp} {a : Addr} {xs : List V} (e : Same H H') (h : SqL K H a xs) : SqL K H' a xs := by
  rcases h with (h | ⟨o, h⟩) | h
  · exact .inl (.inl (e _ _ h))
  · exact .inl (.inr ⟨o, e _ _ h⟩)
  · exact .inr h

end L2
namespace L2
open PySem PySem.Spec PyProof.Rows

/-! ### comprehensions -/
theorem closure_go {env : Env} : ∀ (names : List (Str × NameKind)) (acc : List (Str × Addr)), (∀ x ∈ names, x.2 = .free → ∃ c, env.cells.lookup x.1 = some c) →
    (∀ x c, acc.lookup x = some c → env.cells.lookup x = some c) →
    ∃ cl : List (Str × Addr), forIn names acc (fun (x : Str × NameKind) (r : List (Str × Addr)) => match x with
        | (name, kind) => (if kind == NameKind.free then do let c ← cellOf env name; pure (ForInStep.yield ((name, c) :: r)) else pure (ForInStep.yield r) : Sem (ForInStep (List (Str × Addr))))) = pure cl ∧
      (∀ x c, cl.lookup x = some c → env.cells.lookup x = some c) ∧ (∀ x ∈ names, x.2 = .free → ∃ c, cl.lookup x.1 = some c) ∧ (∀ x c, acc.lookup x = some c → ∃ c', cl.lookup x = some c') := by
  intro names
  induction names with
  | nil => intro acc _ h2; exact ⟨acc, rfl, h2, fun _ h => (nomatch h), fun x c h => ⟨c, h⟩⟩
  | cons p r ih =>
    intro acc h1 h2
    obtain ⟨n, k⟩ := p
    rw [List.forIn_cons]
    have hr : ∀ x ∈ r, x.2 = .free → ∃ c, env.cells.lookup x.1 = some c := fun x hx => h1 x (List.mem_cons_of_mem _ hx)
    by_cases hk : k = .free
    · subst hk
      obtain ⟨c, hc⟩ := h1 (n, .free) List.mem_cons_self rfl
      have hce : cellOf env n = pure c := by unfold cellOf; rw [show env.cells.lookup n = some c from hc]
      have h2' : ∀ x c', ((n, c) :: acc).lookup x = some c' → env.cells.lookup x = some c' := fun x c' h => by
        rw [List.lookup_cons] at h
        cases hx : x == n with
        | true => rw [hx] at h; cases h; rw [eq_of_beq hx]; exact hc
        | false => rw [hx] at h; exact h2 x c' h
      obtain ⟨cl, e, a, b, d⟩ := ih ((n, c) :: acc) hr h2'
      refine ⟨cl, ?_, a, fun x hx hf => ?_, fun x c' h => ?_⟩
      · show ((cellOf env n >>= fun c => pure (ForInStep.yield ((n, c) :: acc))) >>= _) = _
        rw [hce]
        exact e
      · rcases List.mem_cons.mp hx with rfl | hx
        · exact d n c (by simp [List.lookup_cons])
        · exact b x hx hf
      · cases hx : x == n with
        | true => exact d x c (by rw [List.lookup_cons, hx])
        | false => exact d x c' (by rw [List.lookup_cons, hx]; exact h)
    · have hb : (k == NameKind.free) = false := by simpa using hk
      obtain ⟨cl, e, a, b, d⟩ := ih acc hr h2
      refine ⟨cl, ?_, a, fun x hx hf => ?_, d⟩
      · show ((if (k == NameKind.free) = true then _ else _) >>= _) = _
        rw [hb]
        exact e
      · rcases List.mem_cons.mp hx with rfl | hx
        · exact absurd hf hk
        · exact b x hx hf
theorem closure_of {scope : Scope} {env : Env} (h : ∀ x ∈ scope.names, x.2 = .free → ∃ c, env.cells.lookup x.1 = some c) :
    ∃ cl : List (Str × Addr), closureFor scope env = pure cl ∧ (∀ x c, cl.lookup x = some c → env.cells.lookup x = some c) ∧ (∀ x ∈ scope.names, x.2 = .free → ∃ c, cl.lookup x.1 = some c) := by
  obtain ⟨cl, e, a, b, _⟩ := closure_go (env := env) scope.names [] h (fun _ _ h => nomatch h)
  refine ⟨cl, ?_, a, b⟩
  have q : closureFor scope env = (forIn scope.names ([] : List (Str × Addr)) (fun (x : Str × NameKind) (r : List (Str × Addr)) => match x with
        | (name, kind) => (if kind == NameKind.free then do let c ← cellOf env name; pure (ForInStep.yield ((name, c) :: r)) else pure (ForInStep.yield r) : Sem (ForInStep (List (Str × Addr))))) >>= fun r => pure r) := rfl
  rw [q, e]
  rfl

/-- the context of a comprehension's block -/
def cxComp (X : Cx) (N : List Str) (scope : Scope) (cl : List (Str × Addr)) (s : Shared) (H : Hp) (fp : List Addr) (pins : List (Addr × Obj)) : Cx where
  prog := X.prog
  w := X.w
  K := X.K
  mg := X.mg
  base := X.base
  A := X.A
  N := N
  s₀ := s
  H₀ := H
  env := compEnvC scope cl s.heap.objs.size X.env
  outer := X.stack
  stack := X.stack
  ex := fp
  fn := fun _ => false
  calm := X.calm
  pn := X.pn ++ pins
  xe := fun _ _ => False

/-- what a block's context hangs on besides -/
structure CC where
  cl : List (Str × Addr)
  s : Shared
  H : Hp
  fp : List Addr
  pins : List (Addr × Obj)
abbrev cxC (X : Cx) (N : List Str) (scope : Scope) (c : CC) : Cx := cxComp X N scope c.cl c.s c.H c.fp c.pins

/-- what stands in the block's slots at its entry: the targets' (nt of them) are empty, the others are the outer names' -/
def compSt (nt : Nat) (fr : List Nat) (σ : St) : St := List.replicate nt none ++ fr.map fun j => (σ[j]?).join

/-- what a comprehension's scope must be: N the targets and the free names, fr the outer slots of these -/
structure CompScope (N : List Str) (nt : Nat) (fr : List Nat) (ON : List Str) (sc osc : Scope) : Prop where
  kind : sc.kind = .function
  nocell : ∀ x ∈ sc.names, x.2 ≠ .cell
  names : ∀ x ∈ sc.names, x.2 = .local → sc.names.lookup x.1 = some .local
  len : N.length = nt + fr.length
  out : ∀ (i : Nat) (j : Nat), fr[i]? = some j → ∃ x, N[nt + i]? = some x ∧ ON[j]? = some x ∧ osc.names.lookup x = some .cell ∧ sc.names.lookup x = some .free
  cells : ∀ x ∈ sc.names, x.2 = .free → osc.names.lookup x.1 = some .cell
  looks : ∀ x ∈ sc.names, x.2 = .free → sc.names.lookup x.1 = some .free

theorem relabel_look {sc : Scope} {env : Env} : ∀ (names : List (Str × NameKind)) (x : Str) (k : NameKind),
    (names.map fun (n, k) => if (k == NameKind.free && env.scope.kind == .function && env.kindOf n == some .cell) then (n, NameKind.cell) else (n, k)).lookup x = some k →
    names.lookup x = some k ∨ (k = .cell ∧ names.lookup x = some .free)
  | [], _, _, h => by simp at h
  | (n, k0) :: r, x, k, h => by
    have ih := relabel_look (sc := sc) (env := env) r x k
    rw [List.map_cons] at h
    have h' : List.lookup x ((if (k0 == NameKind.free && env.scope.kind == .function && env.kindOf n == some .cell) = true then (n, NameKind.cell) else (n, k0)) :: (r.map fun (n, k) => if (k == NameKind.free && env.scope.kind == .function && env.kindOf n == some .cell) then (n, NameKind.cell) else (n, k))) = some k := h
    by_cases hc : (k0 == NameKind.free && env.scope.kind == .function && env.kindOf n == some .cell) = true
    · rw [if_pos hc, List.lookup_cons] at h'
      rw [List.lookup_cons]
      cases hx : x == n with
      | true =>
        rw [hx] at h'
        cases h'
        rw [Bool.and_eq_true, Bool.and_eq_true] at hc
        have : k0 = .free := by simpa using hc.1.1
        subst this
        exact .inr ⟨rfl, rfl⟩
      | false => rw [hx] at h'; exact ih h'
    · rw [if_neg hc, List.lookup_cons] at h'
      rw [List.lookup_cons]
      cases hx : x == n with
      | true => rw [hx] at h'; exact .inl h'
      | false => rw [hx] at h'; exact ih h'

/-- the turn of a comprehension's loop -/
theorem comp_loop {prog : Program} {w : World} {A : Around} {R : Result → Shared → Prop} {s : Shared} {elt target iter : Expr} {ifs : List Expr} {scope : Scope} {pos : Pos} {it acc : Value} {env : Env} (I : Nat → Shared → Prop)
    (turn : ∀ n s, I n s → wpAny (model prog w) A (pyNext it) (fun r s₁ => match r with
      | none => R (.ok .next) s₁
      | some v => wpAny (model prog w) A (letOwnedTupleGo target it v) (fun _ s₂ => wpAny (model prog w) A (assign target env v) (fun _ s₂ =>
          wpAny (model prog w) A (forIn ifs true fun c r => if r = true then do let ok ← isTrue c env (eval c env); pure (ForInStep.yield ok) else pure (ForInStep.yield r)) (fun ok s₃ =>
            if ok = true then wpAny (model prog w) A (eval elt env) (fun x s₄ =>
              wpAny (model prog w) A (call (.builtin "list.append") [acc, x]) (fun _ s₅ => ∃ m, m < n ∧ I m s₅) (fun _ _ => False) s₄) (fun _ _ => False) s₃
            else ∃ m, m < n ∧ I m s₃) (fun _ _ => False) s₂) (fun _ _ => False) s₂) (fun _ _ => False) s₁) (fun _ _ => False) s)
    (n : Nat) (h : I n s) :
    codeAny (model prog w) A (.compLoop (.ListComp elt [⟨target, iter, ifs, 0⟩] scope pos) 0 it acc env) R s := by
  refine codeAny_loop rfl I (fun n s hI => ?_) n h
  show wpAny _ A ((compTurn (.ListComp elt [⟨target, iter, ifs, 0⟩] scope pos) 0 it acc env).onRaise (fun x => do noteFrame x env; theTreesLotGoes x)) _ _ s
  refine wpAny_noted ?_
  rw [compTurn_list]
  refine wpAny_bind (wpAny_standAt (wpAny_bind (wpAny_mono (turn n s hI) (fun r s₁ h₁ => ?_) fun _ _ h' => h'.elim)))
  cases r with
  | none => exact wpAny_pure h₁
  | some v =>
    refine wpAny_bind (wpAny_mono h₁ (fun _ s₂ h₁ => ?_) fun _ _ h' => h'.elim)
    refine wpAny_bind (wpAny_mono h₁ (fun _ s₂ h₂ => wpAny_bind (wpAny_mono h₂ (fun ok s₃ h₃ => ?_) fun _ _ h' => h'.elim)) fun _ _ h' => h'.elim)
    cases ok with
    | false => exact wpAny_pure ⟨rfl, h₃⟩
    | true =>
      exact wpAny_bind (wpAny_bind (wpAny_mono h₃ (fun x s₄ h₄ => wpAny_bind (wpAny_mono h₄ (fun _ s₅ h₅ => wpAny_pure (wpAny_pure ⟨rfl, h₅⟩)) fun _ _ h' => h'.elim)) fun _ _ h' => h'.elim))

section
variable {X : Cx} {tg elt iter : Expr} {ifs : List Expr} {scope : Scope} {pos : Pos} {N : List Str} {nt : Nat} {fr : List Nat}
/-- the block's state at its entry -/
theorem comp_start {pins : List (Addr × Obj)} {σ : St} {H : Hp} {s s4 : Shared} {fp : List Addr} {cl : List (Str × Addr)} (S : CompScope N nt fr X.N scope X.env.scope) (I : Inv X pins σ H s)
    (hf : ∀ b ∈ fp, FpOk X pins H b) (hlt : ∀ b ∈ fp, b < s.heap.objs.size)
    (hcl : ∀ x c, cl.lookup x = some c → X.env.cells.lookup x = some c) (hcf : ∀ x ∈ scope.names, x.2 = .free → ∃ c, cl.lookup x.1 = some c)
    (hk : ∀ b o, s.heap.get? b = some o → s4.heap.get? b = some o) (hn : ∃ m, s4.heap.Ns s.heap.objs.size m) (ho : s4.os = s.os) (hg : s4.gens = s.gens) :
    Inv (cxComp X N scope cl s H fp pins) [] (compSt nt fr σ) H s4 := by
  have hC : H s.heap.objs.size = none := I.hok.fresh (Nat.le_refl _)
  have neC : ∀ b o, s.heap.get? b = some o → b ≠ s.heap.objs.size := fun b o e => Nat.ne_of_lt (Heap.lt_size e)
  have kd : (cxComp X N scope cl s H fp pins).env.scope.kind = .function := S.kind
  have lk : ∀ x, scope.names.lookup x = some .free → ∃ c, cl.lookup x = some c := fun x h => hcf (x, .free) (PySem.mem_of_lookup h) rfl
  refine ⟨⟨I.ok.mod, kd, I.ok.glob, I.ok.blt, Nat.le_refl _, fun x y c h1 h2 => I.ok.inj x y c (hcl x c h1) (hcl y c h2), fun x hx => ?_, fun _ _ h _ => absurd (show false = true from h) Bool.false_ne_true, I.ok.hd, I.ok.frames, .inl rfl, fun b hb => ⟨Nat.ne_of_lt (hlt b hb), fun x c e => (hf b hb).2.2.2.2.1 x c (hcl x c e)⟩,
    I.bs, Nat.le_trans I.ok.bsz I.sz, fun b o e hb => ?_, fun b hb hs => ?_, I.stack, I.stkFree⟩, ho, by rw [hg]; exact I.bare, Un.kept hk, ?_, fun x c e => ?_, hC, fun x c e => I.freeC x c (hcl x c e), fun p hp => ?_, I.hok.kept hk, ?_⟩
  · have hx' : (relabel scope X.env).names.lookup x = some .cell ∨ (relabel scope X.env).names.lookup x = some .free := hx
    rcases hx' with h | h
    · rcases relabel_look (sc := scope) scope.names x _ h with q | ⟨_, q⟩
      · exact absurd rfl (S.nocell _ (PySem.mem_of_lookup q))
      · exact lk x q
    · rcases relabel_look (sc := scope) scope.names x _ h with q | ⟨q, _⟩
      · exact lk x q
      · cases q
  · rcases (hf b hb).2.2.2.1 with z | z
    · exact I.ok.noex b o e z
    · exact absurd (Nat.lt_of_lt_of_le (Heap.lt_size e) (Nat.le_trans I.ok.bsz z)) (Nat.lt_irrefl _)
  · rcases List.mem_cons.mp (I.stkSub b hs) with z | z
    · exact (hf b hb).2.1 z
    · exact (hf b hb).2.2.1 z
  · obtain ⟨m, hm⟩ := hn
    refine ⟨m, hm, fun i x v h1 h2 h3 => ?_⟩
    obtain ⟨m0, hn0, hl0⟩ := I.loc
    -- the slot holds something: it is one of the outer names
    have hi : nt ≤ i := by
      refine Nat.le_of_not_lt fun hlt => ?_
      unfold compSt at h2
      rw [List.getElem?_append_left (by simpa using hlt), List.getElem?_replicate] at h2
      rw [if_pos hlt] at h2
      cases h2
    obtain ⟨d, rfl⟩ : ∃ d, i = nt + d := ⟨i - nt, by omega⟩
    unfold compSt at h2
    rw [List.getElem?_append_right (by simp), List.length_replicate, Nat.add_sub_cancel_left, List.getElem?_map] at h2
    cases ej : fr[d]? with
    | none => rw [ej] at h2; cases h2
    | some j =>
      rw [ej] at h2
      have h2' : (σ[j]?).join = some v := Option.some.inj h2
      have hσ : σ[j]? = some (some v) := by
        cases e : σ[j]? with
        | none => rw [e] at h2'; cases h2'
        | some q => rw [e] at h2'; exact congrArg some h2'
      obtain ⟨y, e1, e2, e3, e4⟩ := S.out d j ej
      have e1' : N[nt + d]? = some x := h1
      rw [e1] at e1'; cases e1'
      obtain ⟨u, ru, l⟩ := hl0 j x v e2 hσ (.inr (.inl e3))
      refine ⟨u, ru, ?_⟩
      rcases l with ⟨q, _⟩ | ⟨_, c, ec, z⟩
      · have q' : X.env.scope.names.lookup x = some .local := q
        rw [e3] at q'; cases q'
      · obtain ⟨c', hc'⟩ := lk x e4
        have : c' = c := by have := hcl x c' hc'; rw [ec] at this; exact (Option.some.inj this).symm
        subst this
        obtain ⟨o, ho', hd⟩ := z
        refine .inr ⟨?_, c', hc', ⟨o, hk _ _ ho', hd⟩⟩
        rcases h3 with q | q | q
        · have q' : (relabel scope X.env).names.lookup x = some .local := q
          rcases relabel_look (sc := scope) scope.names x _ q' with z | ⟨z, _⟩
          · rw [e4] at z; cases z
          · cases z
        · exact .inl q
        · exact .inr q
  · obtain ⟨v, o, ho', hd⟩ := I.cell x c (hcl x c e)
    exact ⟨v, o, hk _ _ ho', hd⟩
  · have hp' : p ∈ X.pn ++ pins := by
      rcases List.mem_append.mp hp with z | z
      · exact z
      · exact absurd z (by simp)
    obtain ⟨e, n, ne, nf, d⟩ := I.pin p hp'
    refine ⟨hk _ _ e, n, neC _ _ e, fun z => ?_, d⟩
    rcases List.mem_cons.mp (I.stkSub p.1 z) with q | q
    · exact ne q
    · exact nf q
  · show (compSt nt fr σ).length = N.length
    unfold compSt
    rw [List.length_append, List.length_replicate, List.length_map, S.len]

/-- behind the block -/
theorem comp_end {pins pins' : List (Addr × Obj)} {σ σ' : St} {H H1 : Hp} {s s3 s5 : Shared} {D : Addr} {h' : Heap} {fp : List Addr} {cl : List (Str × Addr)} (I : Inv X pins σ H s) (hf : ∀ b ∈ fp, FpOk X pins H b)
    (hD : H D = none) (hDs : s.heap.objs.size ≤ D) (hDC : D < s3.heap.objs.size) (hk : ∀ b o, s.heap.get? b = some o → s3.heap.get? b = some o) (hos : s3.os = s.os)
    (J : Inv (cxComp X N scope cl s3 (upd H D (.lst [])) fp pins) pins' σ' H1 s5) (hs : Heap.SameBut s3.heap.objs.size s5.heap h') :
    Inv X pins σ H1 { s5 with heap := h' } := by
  have hsz : s.heap.objs.size ≤ s3.heap.objs.size := Nat.le_of_lt (Nat.lt_of_le_of_lt hDs hDC)
  have up3 : ∀ b, b < s.heap.objs.size → b ≠ D ∧ b ≠ s3.heap.objs.size := fun b hb => ⟨Nat.ne_of_lt (Nat.lt_of_lt_of_le hb hDs), Nat.ne_of_lt (Nat.lt_of_lt_of_le hb hsz)⟩
  have H3 : ∀ b, b ≠ D → (upd H D (.lst [])) b = H b := fun b hb => upd_ne hb
  refine I.call' (ch := fp) (s' := { s5 with heap := h' }) (J.os.trans hos) ⟨fun b o e n hb hx => ?_, fun b o e n hb hx => ?_, fun b o e n hx => ?_, fun b o e hx => ?_, fun b xs e => ?_, fun b o u e => ?_, fun b ps e => ?_⟩ ?_ J.bare fun b hb => ?_
  · obtain ⟨n1, n2⟩ := up3 b (Heap.lt_size e)
    exact (hs.2 b n2).trans (J.base.keep b o (hk b o e) ((H3 b n1).trans n) hb hx)
  · obtain ⟨n1, n2⟩ := up3 b (Heap.lt_size e)
    obtain ⟨sl, q⟩ := J.base.slot b o (hk b o e) ((H3 b n1).trans n) hb hx
    exact ⟨sl, (hs.2 b n2).trans q⟩
  · obtain ⟨n1, n2⟩ := up3 b (Heap.lt_size e)
    exact J.base.free b o (hk b o e) ((H3 b n1).trans n) hx
  · obtain ⟨n1, n2⟩ := up3 b (Heap.lt_size e)
    obtain ⟨o', q⟩ := J.base.there b o (hk b o e) hx
    exact ⟨o', (hs.2 b n2).trans q⟩
  · exact J.base.tups b xs ((H3 b (ne_of_none e hD)).trans e)
  · exact J.base.frzs b o u ((H3 b (ne_of_none e hD)).trans e)
  · exact J.base.tbls b ps ((H3 b (ne_of_none e hD)).trans e)
  · intro b u e
    refine (J.hok b u e).stay (fun c v hc q => (hs.2 c ?_).trans q) (fun _ q => q) fun _ _ q => q
    have hfree : H1 s3.heap.objs.size = none := J.free
    rintro rfl
    rcases hc with z | z
    · rw [z] at hfree; rw [hfree] at e; cases e
    · rw [hfree] at z; cases z
  · obtain ⟨f0, f1, f2, f3, f4, f5⟩ := hf b hb
    exact ⟨f3, f1, f4, f5⟩

abbrev TC := Addr → St → Hp → (Hp → Prop) → Prop
/-- the element is put behind the list's others -/
def cEmit (te : TE) : TC := fun D σ H Q => te σ H fun y H1 => ∃ ys, H1 D = some (.lst ys) ∧ ys.length < sizeLine ∧ Q (upd H1 D (.lst (ys ++ [y])))
def cTest (tt : TT) (te : TE) : TC := fun D σ H Q => tt σ H fun b H1 => if b = true then cEmit te D σ H1 Q else Q H1
/-- W: the invariant by the turn, a measure, the block's slots and the heap -/
def tComp (wi : TI) (nt : Nat) (fr : List Nat) (g : CC → TG) (tc : CC → TC) : TE := fun σ H Q => wi σ H fun J H1 => ∀ (c : CC) D, H1 D = none → ∃ W : Nat → Nat → St → Hp → Prop, (∃ m, W 0 m (compSt nt fr σ) (upd H1 D (.lst []))) ∧
  ∀ i m σ' H', W i m σ' H' → (J.stop i H' ∧ Q (.ref D) H') ∨ (J.go i H' ∧ ∀ x H2, J.yld i H' x H2 → g c x σ' H2 fun σ3 H3 => tc c D σ3 H3 fun H4 => ∃ m', m' < m ∧ W (i + 1) m' σ3 H4)

/-- the act of a turn: the tests, the element -/
def PAct (Y : Cx) (D : Addr) (ifs : List Expr) (elt : Expr) (tc : TC) : Prop :=
  ∀ (pins : List (Addr × Obj)) (s : Shared) (σ : St) (H : Hp) (Q : Hp → Prop), Inv Y pins σ H s → tc D σ H Q →
    wpAny (model Y.prog Y.w) Y.A (forIn ifs true fun c r => if r = true then do let ok ← isTrue c Y.env (eval c Y.env); pure (ForInStep.yield ok) else pure (ForInStep.yield r)) (fun ok s₃ =>
      if ok = true then wpAny (model Y.prog Y.w) Y.A (eval elt Y.env) (fun x s₄ =>
        wpAny (model Y.prog Y.w) Y.A (call (.builtin "list.append") [.ref D, x]) (fun _ s₅ => ∃ H', Inv Y pins σ H' s₅ ∧ Q H') Y.xe s₄) Y.xe s₃
      else ∃ H', Inv Y pins σ H' s₃ ∧ Q H') Y.xe s
theorem emit_ok {Y : Cx} {D : Addr} {te : TE} (he : PE Y elt te) {pins : List (Addr × Obj)} {s : Shared} {σ : St} {H : Hp} {Q : Hp → Prop} (I : Inv Y pins σ H s) (h : cEmit te D σ H Q) :
    wpAny (model Y.prog Y.w) Y.A (eval elt Y.env) (fun x s₄ =>
        wpAny (model Y.prog Y.w) Y.A (call (.builtin "list.append") [.ref D, x]) (fun _ s₅ => ∃ H', Inv Y pins σ H' s₅ ∧ Q H') Y.xe s₄) Y.xe s := by
  refine thn (he pins s σ H _ I h) fun u s1 ⟨y, H1, I1, r1, ys, hD, hz, q⟩ => ?_
  refine thn (mt_append pins s1 σ H1 (.ref D) [y] (.ref D) [u] (fun v H' => v = .non ∧ Q H') I1 rfl (.cons r1 .nil) ⟨D, ys, y, rfl, rfl, hD, hz, rfl, q⟩) fun v s2 ⟨z, H2, I2, _, _, q2⟩ => ⟨H2, I2, q2⟩
theorem act_plain {Y : Cx} {D : Addr} {te : TE} (he : PE Y elt te) : PAct Y D [] elt (cEmit te) := by
  intro pins s σ H Q I h
  refine wpAny_tests_nil ?_
  rw [if_pos rfl]
  exact emit_ok he I h
theorem act_test {Y : Cx} {D : Addr} {c : Expr} {tt : TT} {te : TE} (hc : PT Y c tt) (he : PE Y elt te) : PAct Y D [c] elt (cTest tt te) := by
  intro pins s σ H Q I h
  refine wpAny_tests_one (thn (hc pins s σ H _ I h) fun b s1 ⟨H1, I1, q1⟩ => ?_)
  cases b with
  | true =>
    rw [if_pos rfl] at q1 ⊢
    exact emit_ok he I1 q1
  | false =>
    rw [if_neg Bool.false_ne_true] at q1 ⊢
    exact ⟨H1, I1, q1⟩

/-- the whole block, whatever becomes of the list -/
theorem comp_core {wi : TI} {g : CC → TG} {tc : CC → TC} {use : Option (Value → Sem Unit)} {Q0 : Value → Shared → Prop} (hc : X.calm = true) (S : CompScope N nt fr X.N scope X.env.scope) (hi : PI X tg iter wi)
    (hg : ∀ c : CC, PG (cxC X N scope c) tg (g c)) (ha : ∀ (c : CC) D, PAct (cxC X N scope c) D ifs elt (tc c))
    {pins : List (Addr × Obj)} {s : Shared} {σ : St} {H : Hp} {Q : VK} (I : Inv X pins σ H s) (h : tComp wi nt fr g tc σ H Q) (hfr : ∀ x ∈ scope.names, x.2 = .free → X.env.kindOf x.1 = some .cell)
    (fin : ∀ (D C : Addr) (s5 : Shared) (H1 : Hp), FpOk X pins H1 C → s5.heap.get? C ≠ none → C ≠ X.env.locals → (∃ m, s5.heap.Ns C m) → (∀ h', Heap.SameBut C s5.heap h' → Inv X pins σ H1 { s5 with heap := h' }) → Q (.ref D) H1 →
      compPost (model X.prog X.w) X.A X.xe use Q0 (.ref D) C (.ok .next) s5)
    (hs : ∀ x, foldedSetIterable iter X.env x = pure x := by intro _; rfl) :
    wpAny (model X.prog X.w) X.A (comprehension (.ListComp elt [⟨tg, iter, ifs, 0⟩] scope pos) scope X.env (firstIterPos [⟨tg, iter, ifs, 0⟩] pos) (newList []) false (eval iter X.env) use) Q0 X.xe s := by
  have hcells : ∀ x ∈ scope.names, x.2 = .free → ∃ c, X.env.cells.lookup x.1 = some c := fun x hx hf => I.ok.has x.1 (.inl (hfr x hx hf))
  obtain ⟨cl, hcl, h1, h2⟩ := closure_of hcells
  refine wpAny_comprehension_free (use := use) rfl hs hcl S.kind S.names (thn (hi pins s σ H _ I h) fun xv s1 hx => thn hx fun itv s2 hpe => ?_)
  obtain ⟨it, fp, tn, J, H2, rfl, I2, T, st2, f2, hW⟩ := hpe
  have hlt : ∀ b ∈ fp, b < s2.heap.objs.size := fun b hb => let ⟨o, e, _⟩ := T.obj 0 _ st2 b hb; Heap.lt_size e
  refine wpAny_newObj_type (wpAny_newFunctionEnv S.nocell (by intro y hy; simp at hy) (fun h₁ hns₁ hsb₁ => ?_) S.kind) (by show 0 ≤ sizeLine; exact Nat.zero_le _)
  have hD : H2 s2.heap.objs.size = none := I2.hok.fresh (Nat.le_refl _)
  have I3 : Inv X pins σ (upd H2 s2.heap.objs.size (.lst [])) { s2 with heap := s2.heap.push { cls := .type "list", dict := none, data := .seq ([] : List Value).toArray } } := I2.lnew (t' := s2.toks) (ys := []) .nil (Nat.zero_le _)
  generalize hs3 : ({ s2 with heap := s2.heap.push { cls := .type "list", dict := none, data := .seq ([] : List Value).toArray } } : Shared) = s3 at hns₁ hsb₁ I3 ⊢
  obtain ⟨W, ⟨m0, w0⟩, turn⟩ := hW ⟨cl, s3, upd H2 s2.heap.objs.size (.lst []), fp, pins⟩ _ hD
  have k23 : ∀ b o, s2.heap.get? b = some o → s3.heap.get? b = some o := fun b o e => by rw [← hs3]; exact Heap.get?_push_of_some _ e
  have z3 : s3.heap.objs.size = s2.heap.objs.size + 1 := by rw [← hs3]; exact Heap.size_push ..
  have os3 : s3.os = s2.os := by rw [← hs3]
  have f3 : ∀ b ∈ fp, FpOk X pins (upd H2 s2.heap.objs.size (.lst [])) b := fun b hb => ⟨by rw [upd_ne (Nat.ne_of_lt (hlt b hb))]; exact (f2 b hb).1, (f2 b hb).2⟩
  have k34 : ∀ b o, s3.heap.get? b = some o → h₁.get? b = some o := fun b o e => hsb₁.extBut b o (Nat.ne_of_lt (Heap.lt_size e)) (Heap.get?_push_of_some _ e)
  generalize hs4 : ({ s3 with heap := h₁, toks := s3.toks + ([] : List (Str × Value)).length } : Shared) = s4
  have e4h : s4.heap = h₁ := by rw [← hs4]
  have I4 : Inv (cxComp X N scope cl s3 (upd H2 s2.heap.objs.size (.lst [])) fp pins) [] (compSt nt fr σ) (upd H2 s2.heap.objs.size (.lst [])) s4 :=
    comp_start S I3 f3 (fun b hb => by rw [z3]; exact Nat.lt_succ_of_lt (hlt b hb)) h1 h2 (fun b o e => by rw [e4h]; exact k34 b o e) ⟨_, by rw [e4h]; exact hns₁⟩ (by rw [← hs4]) (by rw [← hs4])
  have st4 : tn 0 s4.heap := T.keep 0 _ _ st2 fun b hb o e => by rw [e4h]; exact k34 b o (k23 b o e)
  have loop : codeAny (model X.prog X.w) X.A (.compLoop (.ListComp elt [⟨tg, iter, ifs, 0⟩] scope pos) 0 (.ref it) (.ref s2.heap.objs.size) (compEnvC scope cl s3.heap.objs.size X.env))
      (compPost (model X.prog X.w) X.A X.xe use Q0 (.ref s2.heap.objs.size) s3.heap.objs.size) s4 := by
    have stat : ∀ {H' : Hp}, (∀ b ∈ fp, H' b = none) → ∀ b ∈ fp, FpOk (cxComp X N scope cl s3 (upd H2 s2.heap.objs.size (.lst [])) fp pins) [] H' b := fun {H'} hn b hb =>
      ⟨hn b hb, Nat.ne_of_lt (show b < s3.heap.objs.size by rw [z3]; exact Nat.lt_succ_of_lt (hlt b hb)), fun z => I4.ok.exfs b hb z, .inl hb, fun x c e => (f2 b hb).2.2.2.2.1 x c (h1 x c e), fun p hp => (f2 b hb).2.2.2.2.2 p (by
        rcases List.mem_append.mp hp with z | z
        · exact z
        · exact absurd z (by simp))⟩
    refine comp_loop (env := compEnvC scope cl s3.heap.objs.size X.env) (fun n s' => ∃ i σ' H', Inv (cxComp X N scope cl s3 (upd H2 s2.heap.objs.size (.lst [])) fp pins) [] σ' H' s' ∧ tn i s'.heap ∧ (∀ b ∈ fp, H' b = none) ∧ W i n σ' H') ?_ m0
      ⟨0, _, _, I4, st4, fun b hb => (f3 b hb).1, w0⟩
    rintro n s5 ⟨i, σ5, H5, I5, st5, fr5, w5⟩
    rcases turn i n σ5 H5 w5 with ⟨stop, qn⟩ | ⟨go, step⟩
    · refine thn (T.done (cxComp X N scope cl s3 (upd H2 s2.heap.objs.size (.lst [])) fp pins) rfl rfl rfl hc i [] s5 σ5 H5 (fun _ _ => False) I5 (stat fr5) st5 stop) fun r s6 ⟨hr, I6⟩ => ?_
      subst hr
      obtain ⟨m, hm, _⟩ := id I6.loc
      refine fin _ _ s6 H5 (I2.fpOk (by rw [z3]; exact Nat.le_succ _) I6.free) ?_ ?_ ⟨m, hm⟩ (fun h' hs' => comp_end I2 f2 hD (Nat.le_refl _) (by rw [z3]; exact Nat.lt_succ_self _) k23 os3 I6 hs') qn
      · obtain ⟨o, _, _, ho, _⟩ := hm
        intro z
        have ho' : s6.heap.get? s3.heap.objs.size = some o := ho
        rw [z] at ho'; cases ho'
      · exact Nat.ne_of_gt (Nat.lt_trans I2.lt (by rw [z3]; exact Nat.lt_succ_self _))
    · refine thn (T.item (cxComp X N scope cl s3 (upd H2 s2.heap.objs.size (.lst [])) fp pins) rfl rfl rfl hc i [] s5 σ5 H5 (fun _ _ => False) I5 (stat fr5) st5 go) fun r s6 ⟨u, hr, h6⟩ => ?_
      subst hr
      refine thn h6 fun _ s7 ⟨x, H7, I7, r7, y7, st7, fr7⟩ => ?_
      have I7' := I7.pinned (stat fr7) (T.obj _ _ st7)
      refine thn (hg ⟨cl, s3, upd H2 s2.heap.objs.size (.lst []), fp, pins⟩ _ s7 σ5 H7 x u _ I7' r7 (step x H7 y7)) fun _ s8 ⟨σ8, H8, I8, q8⟩ => ?_
      refine thn (ha ⟨cl, s3, upd H2 s2.heap.objs.size (.lst []), fp, pins⟩ _ _ s8 σ8 H8 _ I8 q8) fun ok s9 h9 => ?_
      have again : ∀ {s7' : Shared}, (∃ H', Inv (cxComp X N scope cl s3 (upd H2 s2.heap.objs.size (.lst [])) fp pins) ([] ++ pinsAt fp s7.heap) σ8 H' s7' ∧ ∃ m', m' < n ∧ W (i + 1) m' σ8 H') →
          ∃ m, m < n ∧ ∃ i σ' H', Inv (cxComp X N scope cl s3 (upd H2 s2.heap.objs.size (.lst [])) fp pins) [] σ' H' s7' ∧ tn i s7'.heap ∧ (∀ b ∈ fp, H' b = none) ∧ W i m σ' H' := fun {s7'} ⟨H', I', m', hm, w'⟩ => by
        refine ⟨m', hm, i + 1, σ8, H', I'.unpinned, T.keep _ _ _ st7 fun b hb o e => (I'.pin (b, o) (List.mem_append_right _ (List.mem_append_right _ (mem_pinsAt hb e)))).1, fun b hb => ?_, w'⟩
        obtain ⟨o, e, d⟩ := T.obj _ _ st7 b hb
        exact (I'.pin (b, o) (List.mem_append_right _ (List.mem_append_right _ (mem_pinsAt hb e)))).2.1
      cases ok with
      | true =>
        rw [if_pos rfl] at h9 ⊢
        exact thn h9 fun y s10 h10 => thn h10 fun _ s11 h11 => again h11
      | false =>
        rw [if_neg Bool.false_ne_true] at h9 ⊢
        exact again h9
  exact codeAny_compStart_list loop (T.self X.A 0 s4 _ _ st4 loop)

/-- [elt for tg in iter if ..] as a value -/
theorem pe_comp {wi : TI} {g : CC → TG} {tc : CC → TC} (hc : X.calm = true) (S : CompScope N nt fr X.N scope X.env.scope) (hi : PI X tg iter wi)
    (hg : ∀ c : CC, PG (cxC X N scope c) tg (g c)) (ha : ∀ (c : CC) D, PAct (cxC X N scope c) D ifs elt (tc c))
    (hs : ∀ x, foldedSetIterable iter X.env x = pure x := by intro _; rfl) :
    PE X (.ListComp elt [⟨tg, iter, ifs, 0⟩] scope pos) (tComp wi nt fr g tc) := by
  intro pins s σ H Q I h
  rw [eval_ListComp]
  refine comp_core (use := none) hc S hi hg ha I h (fun x hx hf => S.cells x hx hf) (fun D C s5 H1 _ _ _ hm hI q => ?_) hs
  obtain ⟨m, hm⟩ := hm
  exact ⟨m, hm, fun h' hs' => ⟨.ref D, H1, hI h' hs', rfl, q⟩⟩
/-- name = [elt for tg in iter if ..] -/
theorem ps_setC {i : Nat} {y : Str} {py spos : Pos} {wi : TI} {g : CC → TG} {tc : CC → TC} (hN : X.N.Nodup) (hy : X.N[i]? = some y) (hl : X.env.scope.names.lookup y = some .local) (hc : X.calm = true) (S : CompScope N nt fr X.N scope X.env.scope) (hi : PI X tg iter wi)
    (hg : ∀ c : CC, PG (cxC X N scope c) tg (g c)) (ha : ∀ (c : CC) D, PAct (cxC X N scope c) D ifs elt (tc c))
    (hs : ∀ x, foldedSetIterable iter X.env x = pure x := by intro _; rfl)
    (hsw : swapsWith (.ListComp elt [⟨tg, iter, ifs, 0⟩] scope pos) (some (.Name y py)) spos.line X.env = pure true := by rfl) :
    PS X (.Assign [.Name y py] (.ListComp elt [⟨tg, iter, ifs, 0⟩] scope pos) spos) (tAsg (tComp wi nt fr g tc) (gName i)) := by
  intro pins s σ H D I h
  rw [exec_Assign_Name_used _ _ _ _ hsw]
  refine wpAny_bind (wpAny_standAt (wpAny_bind ?_))
  show wpAny _ X.A (do let _ ← comprehension (.ListComp elt [⟨tg, iter, ifs, 0⟩] scope pos) scope X.env _ (newList []) false (eval iter X.env) (some (assign (.Name y py) X.env))) _ _ s
  refine wpAny_bind (wpAny_mono (comp_core (use := some (assign (.Name y py) X.env)) (Q := fun x H1 => D.nx (σ.set i (some x)) H1) (Q0 := fun _ s' => SP X pins D .next s') hc S hi hg ha I h (fun x hx hf => S.cells x hx hf) (fun Dd C s5 H1 fp hC _ hm hI q => ?_) hs) (fun _ s' hq => wpAny_pure (wpAny_pure hq)) fun _ _ e => e)
  obtain ⟨m, hm⟩ := hm
  have I5 : Inv X pins σ H1 s5 := hI s5.heap ⟨rfl, fun _ _ => rfl⟩
  show wpAny _ X.A (assign (.Name y py) X.env (.ref Dd)) _ _ _
  refine wpAny_assign_Name (store_ok2 I5 hN hy (.inl hl) (v := .ref Dd) rfl (fun s6 I6 hsb => ?_) (.inr hl))
  obtain ⟨a, hs6, ha6⟩ := hsb
  have hCa : C ≠ a := by
    rcases ha6 with e | e
    · rw [e]; exact fp.2.1
    · exact fun z => fp.2.2.2.2.1 _ _ e z.symm
  exact ⟨m, hm.sameBut hs6 hCa, fun h' hs' => ⟨_, H1, I6.turned (t' := s6.toks) (fun b o hb e => (hs'.2 b hb).trans e) fp.1 fp.2.1 fp.2.2.2.1 fp.2.2.2.2.1 fp.2.2.2.2.2, q⟩⟩
end

end L2
namespace L2
open PySem PySem.Spec PyProof.Rows

section
variable {prog : Program} {w : World} {A : Around} {E : Value → Shared → Prop} {s : Shared}
theorem nextOf_tuple_item {it t : Addr} {i : Nat} {items} {x : Value} {Q : Value → Shared → Prop} (hit : s.heap.IsTupleIter it t i)
    (ht : s.heap.IsTuple t items) (hx : items[i]? = some x)
    (hQ : ∀ h', h'.IsTupleIter it t (i + 1) → Heap.SameBut it s.heap h' → Q x { s with heap := h' }) :
    wpAny (model prog w) A (Builtin.SmallTypes.nextOf (.ref it)) Q E s := by
  obtain ⟨o, ho, hc, hd⟩ := id hit
  obtain ⟨ol, hol, _, nl, hdl⟩ := ht
  unfold Builtin.SmallTypes.nextOf
  refine wpAny_bind (wpAny_callSpecial?_slot (name := Str.ofString "__next__") hit.typeIs F.slot_tuple_iterator_next
    (wpAny_call_entry F.slot_tuple_iterator_next hit.typeIs F.entry_tuple_iterator_next ?_ (F.args_tuple_iterator_next_1 _)))
  show wpAny _ _ (field (.ref it) 0 >>= _) _ _ s
  refine wpAny_bind (wpAny_field ho hd (x := .ref t) rfl ?_)
  show wpAny _ _ (if (Value.ref t == Value.none) = true then _ else _) _ _ s
  rw [if_neg (show ¬ ((Value.ref t == Value.none) = true) from Bool.false_ne_true)]
  show wpAny _ _ (field (.ref it) 1 >>= _) _ _ s
  refine wpAny_bind (wpAny_field ho hd (x := .int i 0) rfl ?_)
  show wpAny _ _ (seqItems? (.ref t) >>= _) _ _ s
  refine wpAny_bind (wpAny_seqItems hol hdl ?_)
  simp only [Int.toNat_natCast, hx]
  refine wpAny_bind (wpAny_setField ho hd (by simp) (wpAny_pure ⟨x, rfl, wpAny_pure (hQ _ ?_ (Heap.SameBut.update ..))⟩))
  exact ⟨_, Heap.get?_update_self _ ho (Obj.isFreed_of_fields (Obj.data_mapFields hd _)), (Obj.cls_mapFields ..).trans hc, by
    rw [Obj.data_mapFields hd]; simp [rawInt]⟩
theorem nextOf_tuple_end {it t : Addr} {i : Nat} {items} {Q : Value → Shared → Prop} (hh : A.handled = none)
    (hit : s.heap.IsTupleIter it t i) (ht : s.heap.IsTuple t items) (hx : items[i]? = none)
    (hE : ∀ h' e, Heap.ExtBut it s.heap h' → (∃ o, h'.get? e = some o ∧ o.cls = .type "StopIteration") → E (.ref e) { s with heap := h' }) :
    wpAny (model prog w) A (Builtin.SmallTypes.nextOf (.ref it)) Q E s := by
  obtain ⟨o, ho, hc, hd⟩ := id hit
  obtain ⟨ol, hol, _, nl, hdl⟩ := ht
  unfold Builtin.SmallTypes.nextOf
  refine wpAny_bind (wpAny_callSpecial?_slot (name := Str.ofString "__next__") hit.typeIs F.slot_tuple_iterator_next
    (wpAny_call_entry F.slot_tuple_iterator_next hit.typeIs F.entry_tuple_iterator_next ?_ (F.args_tuple_iterator_next_1 _)))
  show wpAny _ _ (field (.ref it) 0 >>= _) _ _ s
  refine wpAny_bind (wpAny_field ho hd (x := .ref t) rfl ?_)
  show wpAny _ _ (if (Value.ref t == Value.none) = true then _ else _) _ _ s
  rw [if_neg (show ¬ ((Value.ref t == Value.none) = true) from Bool.false_ne_true)]
  show wpAny _ _ (field (.ref it) 1 >>= _) _ _ s
  refine wpAny_bind (wpAny_field ho hd (x := .int i 0) rfl ?_)
  show wpAny _ _ (seqItems? (.ref t) >>= _) _ _ s
  refine wpAny_bind (wpAny_seqItems hol hdl ?_)
  simp only [Int.toNat_natCast, hx]
  refine wpAny_bind (wpAny_rule (wpAny_bind (wpAny_setField ho hd (by simp) ?_)))
  show wpAny _ _ (newExc (.type "StopIteration") [] >>= _) _ _ _
  refine wpAny_bind ?_
  simp only [newExc, newTuple]
  refine wpAny_bind (wpAny_newObj_type ?_ (by size_fits))
  refine wpAny_bind (m := firstArgMember _ _) (wpAny_of_eq (a := Value.none) (by first | rfl | (simp only [firstArgMember]; rfl)) ?_)
  refine wpAny_newObj_type ?_ (by size_fits)
  simp only [raiseNew]
  refine wpAny_bind (wpAny_handled ?_)
  first | rw [show A.in1.handled = none from hh] | rw [hh]
  refine wpAny_bind (wpAny_pure (wpAny_throw ?_))
  exact hE _ _ (((Heap.SameBut.update ..).extBut.push _).push _) ⟨_, Heap.get?_push_size _ rfl, rfl⟩
end

/-! ### what zip walks: a list, a tuple, a text -/
inductive ZS where
  | lst (a : Addr) (xs : List V)
  | tup (a : Addr) (xs : List V)
  | str (z : Str)
def ZS.items : ZS → List V
  | .lst _ xs => xs
  | .tup _ xs => xs
  | .str z => z.cps.toList.map fun c => .str ⟨#[c]⟩
def ZS.val : ZS → V
  | .lst a _ => .ref a
  | .tup a _ => .ref a
  | .str z => .str z
def ZS.ok (K : PySem.W.Frag) (H : Hp) : ZS → Prop
  | .lst a xs => SqL K H a xs
  | .tup a xs => SqT K H a xs
  | .str _ => True

/-- a source and its iterator on the bare heap -/
structure Sub (prog : Program) (w : World) (A : Around) (i : Addr) (sl : List Addr) (src : Heap → Prop) (st : Nat → Heap → Prop) (vs : List V) : Prop where
  sfr : ∀ h h', src h → (∀ b ∈ sl, ∀ o, h.get? b = some o → h'.get? b = some o) → src h'
  ifr : ∀ k h h', st k h → (∀ o, h.get? i = some o → h'.get? i = some o) → st k h'
  item : ∀ (k : Nat) (s : Shared) (x : V) (Q : Value → Shared → Prop) (E : Value → Shared → Prop), vs[k]? = some x → src s.heap → st k s.heap →
    (∀ v h' tk, RelV x v → st (k + 1) h' → Heap.SameBut i s.heap h' → Q v { s with heap := h', toks := tk }) → wpAny (model prog w) A (Builtin.SmallTypes.nextOf (.ref i)) Q E s
  done : ∀ (k : Nat) (s : Shared) (Q : Value → Shared → Prop) (E : Value → Shared → Prop), vs.length ≤ k → src s.heap → st k s.heap →
    (∀ h' e, Heap.ExtBut i s.heap h' → (∃ o, h'.get? e = some o ∧ o.cls = .type "StopIteration") → E (.ref e) { s with heap := h' }) → wpAny (model prog w) A (Builtin.SmallTypes.nextOf (.ref i)) Q E s

theorem Sub.list {prog : Program} {w : World} {A : Around} (hh : A.handled = none) (i l : Addr) {xs : List V} {its : List Value} (r : Vals xs its) :
    Sub prog w A i [l] (fun h => h.IsList l its.toArray) (fun k h => h.IsListIter i l k) xs where
  sfr := fun h h' x k => x.at fun o e => k l (by simp) o e
  ifr := fun k h h' x f => x.at fun o e => f o e
  item := fun k s x Q E hx hs st hQ => by
    obtain ⟨u, hu, ru⟩ := r.get hx
    exact wpAny_nextOf_list_item st hs (x := u) (by simpa using hu) fun h' st' sb => hQ u h' s.toks ru st' sb
  done := fun k s Q E hk hs st hE => by
    have hl := r.length
    exact wpAny_nextOf_list_end hh st hs (by simp; omega) hE
theorem Sub.tuple {prog : Program} {w : World} {A : Around} (hh : A.handled = none) (i l : Addr) {xs : List V} {its : List Value} (r : Vals xs its) :
    Sub prog w A i [l] (fun h => h.IsTuple l its.toArray) (fun k h => h.IsTupleIter i l k) xs where
  sfr := fun h h' ⟨o, e, c⟩ k => ⟨o, k l (by simp) o e, c⟩
  ifr := fun k h h' ⟨o, e, c⟩ f => ⟨o, f o e, c⟩
  item := fun k s x Q E hx hs st hQ => by
    obtain ⟨u, hu, ru⟩ := r.get hx
    exact nextOf_tuple_item st hs (x := u) (by simpa using hu) fun h' st' sb => hQ u h' s.toks ru st' sb
  done := fun k s Q E hk hs st hE => by
    have hl := r.length
    exact nextOf_tuple_end hh st hs (by simp; omega) hE
theorem Sub.strs {prog : Program} {w : World} {A : Around} (hh : A.handled = none) (i : Addr) (z : Str) (t : Tok) :
    Sub prog w A i [] (fun _ => True) (fun k h => h.IsStrIter i (strIterType z) z t k) (z.cps.toList.map fun c => V.str ⟨#[c]⟩) where
  sfr := fun h h' x k => trivial
  ifr := fun k h h' ⟨o, e, c⟩ f => ⟨o, f o e, c⟩
  item := fun k s x Q E hx hs st hQ => by
    rw [List.getElem?_map] at hx
    cases e : z.cps.toList[k]? with
    | none => rw [e] at hx; cases hx
    | some c =>
      rw [e] at hx
      have hx' : V.str ⟨#[c]⟩ = x := Option.some.inj hx
      subst hx'
      have e' : z.cps[k]? = some c := by rw [← Array.getElem?_toList]; exact e
      unfold strIterType at st hQ
      split at st
      · rename_i ha
        rw [if_pos ha] at hQ
        exact wpAny_nextOf_ascii_item st e' fun h' st' sb => hQ _ h' _ ⟨_, rfl⟩ st' sb
      · rename_i ha
        rw [if_neg ha] at hQ
        exact wpAny_nextOf_wide_item st e' fun h' st' sb => hQ _ h' _ ⟨_, rfl⟩ st' sb
  done := fun k s Q E hk hs st hE => by
    have e' : z.cps[k]? = none := by
      rw [List.length_map, Array.length_toList] at hk
      exact Array.getElem?_eq_none hk
    unfold strIterType at st
    split at st
    · exact wpAny_nextOf_ascii_end hh st e' hE
    · exact wpAny_nextOf_wide_end hh st e' hE

structure ZApart (z TI TO i1 i2 : Addr) (sl1 sl2 : List Addr) : Prop where
  TIz : TI ≠ z
  TOz : TO ≠ z
  i1z : i1 ≠ z
  i2z : i2 ≠ z
  TITO : TI ≠ TO
  TIi1 : TI ≠ i1
  TIi2 : TI ≠ i2
  TOi1 : TO ≠ i1
  TOi2 : TO ≠ i2
  i12 : i1 ≠ i2
  s1 : ∀ b ∈ sl1, b ≠ z ∧ b ≠ TO ∧ b ≠ i1 ∧ b ≠ i2
  s2 : ∀ b ∈ sl2, b ≠ z ∧ b ≠ TO ∧ b ≠ i1 ∧ b ≠ i2

section
variable {prog : Program} {w : World} {A : Around} {E : Value → Shared → Prop} {s : Shared}
theorem zipG_item {z TI TO i1 i2 : Addr} {sl1 sl2 : List Addr} {src1 src2 : Heap → Prop} {st1 st2 : Nat → Heap → Prop} {xs ys : List V} {k : Nat} {x y : V} {a b : Value} {Q : Value → Shared → Prop} (D : ZApart z TI TO i1 i2 sl1 sl2)
    (S1 : Sub prog w A i1 sl1 src1 st1 xs) (S2 : Sub prog w A i2 sl2 src2 st2 ys)
    (hz : IsZip s.heap z TI TO .none) (hTI : IsPair s.heap TI (.ref i1) (.ref i2)) (hTO : IsPair s.heap TO a b)
    (h1 : st1 k s.heap) (h2 : st2 k s.heap) (hl1 : src1 s.heap) (hl2 : src2 s.heap) (hx : xs[k]? = some x) (hy : ys[k]? = some y)
    (hQ : ∀ u v h' tk, RelV x u → RelV y v → IsZip h' z TI TO (rawInt s.heap.objs.size) → IsPair h' TO u v → st1 (k + 1) h' → st2 (k + 1) h' → IsPair h' s.heap.objs.size u v → h'.objs.size = s.heap.objs.size + 1 →
      (∀ c o, c ≠ z → c ≠ TO → c ≠ i1 → c ≠ i2 → s.heap.get? c = some o → h'.get? c = some o) → Q (.ref s.heap.objs.size) { s with heap := h', toks := tk })
    (hi1 : i1 < s.heap.objs.size) (hi2 : i2 < s.heap.objs.size) :
    wpAny (model prog w) A (Builtin.«zip.__next__» ⟨[.ref z], []⟩) (fun fin s' => ∃ v, fin = .done (.ret v) ∧ Q v s') E s := by
  show wpAny _ _ (field (.ref z) 2 >>= _) _ _ _
  refine wpAny_bind (wpAny_field hz rfl (x := .bool false) rfl ?_)
  show wpAny _ _ (field (.ref z) 3 >>= _) _ _ _
  refine wpAny_bind (wpAny_field hz rfl (x := .ref TI) rfl ?_)
  refine wpAny_bind (wpAny_seqItems hTI rfl ?_)
  show wpAny _ _ (Builtin.SmallTypes.ownedTupleIsFree (.ref z) >>= _) _ _ _
  refine wpAny_bind ?_
  unfold Builtin.SmallTypes.ownedTupleIsFree
  refine wpAny_bind (wpAny_field hz rfl (x := .none) rfl (wpAny_pure ?_))
  simp only [if_true]
  refine wpAny_bind (wpAny_rule ?_)
  refine wpAny_bind (wpAny_field hz rfl (x := .ref TO) rfl ?_)
  refine wpAny_bind (wpAny_setField_rec hz (by simp) fun h₁ hz₁ hs₁ => ?_)
  replace hz₁ : IsZip h₁ z TI TO .ellipsis := hz₁
  refine wpAny_bind ?_
  simp only [List.zipIdx_cons, List.zipIdx_nil, List.forIn_cons, List.forIn_nil]
  refine wpAny_bind (wpAny_bind (wpAny_onRaise ?_))
  show wpAny _ _ (Builtin.SmallTypes.nextOf (.ref i1) >>= _) _ _ _
  refine wpAny_bind (S1.item k _ x _ _ hx (S1.sfr _ _ hl1 fun b hb o e => hs₁.extBut b o (D.s1 b hb).1 e) (S1.ifr _ _ _ h1 fun o e => hs₁.extBut _ o D.i1z e) fun u h₂ tk₂ ru h1₂ hs₂ => wpAny_pure ?_)
  have hs₂ : Heap.SameBut i1 h₁ h₂ := hs₂
  have hTO₂ : IsPair h₂ TO a b := hs₂.extBut _ _ D.TOi1 (hs₁.extBut _ _ D.TOz hTO)
  refine wpAny_bind (wpAny_seqItems hTO₂ rfl ?_)
  refine wpAny_bind (wpAny_updateSeq_pair hTO₂ fun h₃ hTO₃ hs₃ => ?_)
  replace hTO₃ : IsPair h₃ TO u b := hTO₃
  have hs₃ : Heap.SameBut TO h₂ h₃ := hs₃
  refine wpAny_bind (wpAny_letGo (wpAny_pure ?_))
  refine wpAny_bind (wpAny_bind (wpAny_onRaise ?_))
  show wpAny _ _ (Builtin.SmallTypes.nextOf (.ref i2) >>= _) _ _ _
  refine wpAny_bind (S2.item k _ y _ _ hy (S2.sfr _ _ hl2 fun b hb o e => hs₃.extBut b o (D.s2 b hb).2.1 (hs₂.extBut b o (D.s2 b hb).2.2.1 (hs₁.extBut b o (D.s2 b hb).1 e)))
    (S2.ifr _ _ _ h2 fun o e => hs₃.extBut _ o D.TOi2.symm (hs₂.extBut _ o D.i12.symm (hs₁.extBut _ o D.i2z e))) fun v h₄ tk₄ rv h2₄ hs₄ => wpAny_pure ?_)
  have hs₄ : Heap.SameBut i2 h₃ h₄ := hs₄
  have hTO₄ : IsPair h₄ TO u b := hs₄.extBut _ _ D.TOi2 hTO₃
  refine wpAny_bind (wpAny_seqItems hTO₄ rfl ?_)
  refine wpAny_bind (wpAny_updateSeq_pair hTO₄ fun h₅ hTO₅ hs₅ => ?_)
  replace hTO₅ : IsPair h₅ TO u v := hTO₅
  have hs₅ : Heap.SameBut TO h₄ h₅ := hs₅
  refine wpAny_bind (wpAny_letGo (wpAny_pure (wpAny_pure ?_)))
  refine wpAny_bind (wpAny_seqItems hTO₅ rfl ?_)
  refine wpAny_bind (wpAny_newTuple ?_)
  have hsz : h₅.objs.size = s.heap.objs.size := by rw [hs₅.1, hs₄.1, hs₃.1, hs₂.1, hs₁.1]
  have hz₅ : IsZip h₅ z TI TO .ellipsis := hs₅.extBut _ _ D.TOz.symm (hs₄.extBut _ _ D.i2z.symm (hs₃.extBut _ _ D.TOz.symm (hs₂.extBut _ _ D.i1z.symm hz₁)))
  have hk₅ : ∀ c o, c ≠ z → c ≠ TO → c ≠ i1 → c ≠ i2 → s.heap.get? c = some o → h₅.get? c = some o := fun c o c1 c2 c3 c4 e =>
    hs₅.extBut _ _ c2 (hs₄.extBut _ _ c4 (hs₃.extBut _ _ c2 (hs₂.extBut _ _ c3 (hs₁.extBut _ _ c1 e))))
  have h1₅ : st1 (k + 1) h₅ := S1.ifr _ _ _ h1₂ fun o e => hs₅.extBut _ o D.TOi1.symm (hs₄.extBut _ o D.i12 (hs₃.extBut _ o D.TOi1.symm e))
  have h2₅ : st2 (k + 1) h₅ := S2.ifr _ _ _ h2₄ fun o e => hs₅.extBut _ o D.TOi2.symm e
  have hzlt : z < h₅.objs.size := Heap.lt_size hz₅
  show wpAny _ _ (Builtin.SmallTypes.ownedTupleHandOut (.ref z) (.ref h₅.objs.size) >>= _) _ _ _
  refine wpAny_bind ?_
  unfold Builtin.SmallTypes.ownedTupleHandOut
  have hz₆ : IsZip (h₅.push { cls := .type "tuple", data := .seq #[u, v] }) z TI TO .ellipsis := Heap.get?_push_of_some _ hz₅
  refine wpAny_bind (wpAny_setField_rec hz₆ (by simp) fun h₇ hz₇ hs₇ => ?_)
  replace hz₇ : IsZip h₇ z TI TO (rawInt h₅.objs.size) := hz₇
  refine wpAny_setField_rec hz₇ (by simp) fun h₈ hz₈ hs₈ => ?_
  replace hz₈ : IsZip h₈ z TI TO (rawInt h₅.objs.size) := hz₈
  have up : ∀ c o, c ≠ z → h₅.get? c = some o → h₈.get? c = some o := fun c o c1 e => hs₈.extBut _ _ c1 (hs₇.extBut _ _ c1 (Heap.get?_push_of_some _ e))
  have hT₈ : IsPair h₈ h₅.objs.size u v := hs₈.extBut _ _ (Nat.ne_of_gt hzlt) (hs₇.extBut _ _ (Nat.ne_of_gt hzlt) (Heap.get?_push_size _ rfl))
  have hz8 : h₈.objs.size = h₅.objs.size + 1 := by rw [hs₈.1, hs₇.1, Heap.size_push]
  rw [hsz] at hz₈ hT₈ hz8
  refine wpAny_pure ⟨_, rfl, ?_⟩
  show Q (.ref h₅.objs.size) _
  rw [hsz]
  exact hQ u v h₈ _ ru rv hz₈ (up _ _ D.TOz hTO₅) (S1.ifr _ _ _ h1₅ fun o e => up _ o D.i1z e) (S2.ifr _ _ _ h2₅ fun o e => up _ o D.i2z e) hT₈ hz8 fun c o c1 c2 c3 c4 e => up c o c1 (hk₅ c o c1 c2 c3 c4 e)

theorem zipG_end {z TI TO i1 i2 : Addr} {sl1 sl2 : List Addr} {src1 src2 : Heap → Prop} {st1 st2 : Nat → Heap → Prop} {xs ys : List V} {k : Nat} {a b : Value} {Q : Fin → Shared → Prop} (D : ZApart z TI TO i1 i2 sl1 sl2)
    (S1 : Sub prog w A i1 sl1 src1 st1 xs) (S2 : Sub prog w A i2 sl2 src2 st2 ys)
    (hz : IsZip s.heap z TI TO .none) (hTI : IsPair s.heap TI (.ref i1) (.ref i2)) (hTO : IsPair s.heap TO a b)
    (h1 : st1 k s.heap) (h2 : st2 k s.heap) (hl1 : src1 s.heap) (hl2 : src2 s.heap) (hend : xs.length ≤ k ∨ ys.length ≤ k)
    (hE : ∀ h' tk e, (∀ c o, c ≠ z → c ≠ TO → c ≠ i1 → c ≠ i2 → s.heap.get? c = some o → h'.get? c = some o) → (∃ o, h'.get? e = some o ∧ o.cls = .type "StopIteration") → E (.ref e) { s with heap := h', toks := tk }) :
    wpAny (model prog w) A (Builtin.«zip.__next__» ⟨[.ref z], []⟩) Q E s := by
  show wpAny _ _ (field (.ref z) 2 >>= _) _ _ _
  refine wpAny_bind (wpAny_field hz rfl (x := .bool false) rfl ?_)
  show wpAny _ _ (field (.ref z) 3 >>= _) _ _ _
  refine wpAny_bind (wpAny_field hz rfl (x := .ref TI) rfl ?_)
  refine wpAny_bind (wpAny_seqItems hTI rfl ?_)
  show wpAny _ _ (Builtin.SmallTypes.ownedTupleIsFree (.ref z) >>= _) _ _ _
  refine wpAny_bind ?_
  unfold Builtin.SmallTypes.ownedTupleIsFree
  refine wpAny_bind (wpAny_field hz rfl (x := .none) rfl (wpAny_pure ?_))
  simp only [if_true]
  refine wpAny_bind (wpAny_rule ?_)
  refine wpAny_bind (wpAny_field hz rfl (x := .ref TO) rfl ?_)
  refine wpAny_bind (wpAny_setField_rec hz (by simp) fun h₁ hz₁ hs₁ => ?_)
  replace hz₁ : IsZip h₁ z TI TO .ellipsis := hz₁
  refine wpAny_bind ?_
  simp only [List.zipIdx_cons, List.zipIdx_nil, List.forIn_cons, List.forIn_nil]
  refine wpAny_bind (wpAny_bind (wpAny_onRaise ?_))
  show wpAny _ _ (Builtin.SmallTypes.nextOf (.ref i1) >>= _) _ _ _
  have l1 : src1 h₁ := S1.sfr _ _ hl1 fun b hb o e => hs₁.extBut b o (D.s1 b hb).1 e
  have t1 : st1 k h₁ := S1.ifr _ _ _ h1 fun o e => hs₁.extBut _ o D.i1z e
  by_cases hx : xs.length ≤ k
  · refine wpAny_bind (S1.done k _ _ _ hx l1 t1 fun h₂ e hs₂ he => ?_)
    have hs₂ : Heap.ExtBut i1 h₁ h₂ := hs₂
    obtain ⟨oe, hoe, hce⟩ := he
    have hz₂ : IsZip h₂ z TI TO .ellipsis := hs₂ _ _ D.i1z.symm hz₁
    have hez : e ≠ z := fun x => by subst x; rw [hz₂] at hoe; cases hoe; simp at hce
    refine wpAny_setField_rec hz₂ (by simp) fun h₃ _ hs₃ => hE h₃ _ e (fun c o c1 _ c3 _ x => hs₃.extBut _ _ c1 (hs₂ _ _ c3 (hs₁.extBut _ _ c1 x))) ⟨oe, hs₃.extBut _ _ hez hoe, hce⟩
  · have hy : ys.length ≤ k := by rcases hend with h | h; exact absurd h hx; exact h
    obtain ⟨x, hx'⟩ : ∃ x, xs[k]? = some x := ⟨_, List.getElem?_eq_getElem (Nat.lt_of_not_le hx)⟩
    refine wpAny_bind (S1.item k _ x _ _ hx' l1 t1 fun u h₂ tk₂ ru h1₂ hs₂ => wpAny_pure ?_)
    have hs₂ : Heap.SameBut i1 h₁ h₂ := hs₂
    have hTO₂ : IsPair h₂ TO a b := hs₂.extBut _ _ D.TOi1 (hs₁.extBut _ _ D.TOz hTO)
    refine wpAny_bind (wpAny_seqItems hTO₂ rfl ?_)
    refine wpAny_bind (wpAny_updateSeq_pair hTO₂ fun h₃ hTO₃ hs₃ => ?_)
    have hs₃ : Heap.SameBut TO h₂ h₃ := hs₃
    refine wpAny_bind (wpAny_letGo (wpAny_pure ?_))
    refine wpAny_bind (wpAny_bind (wpAny_onRaise ?_))
    show wpAny _ _ (Builtin.SmallTypes.nextOf (.ref i2) >>= _) _ _ _
    refine wpAny_bind (S2.done k _ _ _ hy (S2.sfr _ _ hl2 fun b hb o e => hs₃.extBut b o (D.s2 b hb).2.1 (hs₂.extBut b o (D.s2 b hb).2.2.1 (hs₁.extBut b o (D.s2 b hb).1 e)))
      (S2.ifr _ _ _ h2 fun o e => hs₃.extBut _ o D.TOi2.symm (hs₂.extBut _ o D.i12.symm (hs₁.extBut _ o D.i2z e))) fun h₄ e hs₄ he => ?_)
    have hs₄ : Heap.ExtBut i2 h₃ h₄ := hs₄
    obtain ⟨oe, hoe, hce⟩ := he
    have hz₄ : IsZip h₄ z TI TO .ellipsis := hs₄ _ _ D.i2z.symm (hs₃.extBut _ _ D.TOz.symm (hs₂.extBut _ _ D.i1z.symm hz₁))
    have hez : e ≠ z := fun x => by subst x; rw [hz₄] at hoe; cases hoe; simp at hce
    refine wpAny_setField_rec hz₄ (by simp) fun h₅ _ hs₅ => hE h₅ _ e (fun c o c1 c2 c3 c4 x => hs₅.extBut _ _ c1 (hs₄ _ _ c4 (hs₃.extBut _ _ c2 (hs₂.extBut _ _ c3 (hs₁.extBut _ _ c1 x))))) ⟨oe, hs₅.extBut _ _ hez hoe, hce⟩

theorem nextG_item {z TI TO i1 i2 : Addr} {sl1 sl2 : List Addr} {src1 src2 : Heap → Prop} {st1 st2 : Nat → Heap → Prop} {xs ys : List V} {k : Nat} {x y : V} {a b : Value} {Q : Option Value → Shared → Prop} (D : ZApart z TI TO i1 i2 sl1 sl2)
    (S1 : Sub prog w A.in1 i1 sl1 src1 st1 xs) (S2 : Sub prog w A.in1 i2 sl2 src2 st2 ys)
    (hz : IsZip s.heap z TI TO .none) (hTI : IsPair s.heap TI (.ref i1) (.ref i2)) (hTO : IsPair s.heap TO a b)
    (h1 : st1 k s.heap) (h2 : st2 k s.heap) (hl1 : src1 s.heap) (hl2 : src2 s.heap) (hx : xs[k]? = some x) (hy : ys[k]? = some y)
    (hQ : ∀ u v h' tk, RelV x u → RelV y v → IsZip h' z TI TO (rawInt s.heap.objs.size) → IsPair h' TO u v → st1 (k + 1) h' → st2 (k + 1) h' → IsPair h' s.heap.objs.size u v → h'.objs.size = s.heap.objs.size + 1 →
      (∀ c o, c ≠ z → c ≠ TO → c ≠ i1 → c ≠ i2 → s.heap.get? c = some o → h'.get? c = some o) → Q (some (.ref s.heap.objs.size)) { s with heap := h', toks := tk })
    (hi1 : i1 < s.heap.objs.size) (hi2 : i2 < s.heap.objs.size) :
    wpAny (model prog w) A (pyNext (.ref z)) Q E s := by
  have hT : s.TypeIs (.ref z) "zip" := ⟨_, hz, rfl⟩
  unfold pyNext
  exact wpAny_bind (wpAny_attempt (wpAny_callSpecial?_slot (name := Str.ofString "__next__") hT F.slot_zip_next
    (wpAny_call_entry F.slot_zip_next hT F.entry_zip_next
      (zipG_item D S1 S2 hz hTI hTO h1 h2 hl1 hl2 hx hy (fun u v h' tk r1 r2 a1 a2 a3 a4 a5 a6 a7 => wpAny_pure (hQ u v h' tk r1 r2 a1 a2 a3 a4 a5 a6 a7)) hi1 hi2) (F.args_zip_next_1 _))))
theorem nextG_end {z TI TO i1 i2 : Addr} {sl1 sl2 : List Addr} {src1 src2 : Heap → Prop} {st1 st2 : Nat → Heap → Prop} {xs ys : List V} {k : Nat} {a b : Value} {Q : Option Value → Shared → Prop} (D : ZApart z TI TO i1 i2 sl1 sl2)
    (S1 : Sub prog w A.in1 i1 sl1 src1 st1 xs) (S2 : Sub prog w A.in1 i2 sl2 src2 st2 ys)
    (hz : IsZip s.heap z TI TO .none) (hTI : IsPair s.heap TI (.ref i1) (.ref i2)) (hTO : IsPair s.heap TO a b)
    (h1 : st1 k s.heap) (h2 : st2 k s.heap) (hl1 : src1 s.heap) (hl2 : src2 s.heap) (hend : xs.length ≤ k ∨ ys.length ≤ k)
    (hQ : ∀ h' tk, (∀ c o, c ≠ z → c ≠ TO → c ≠ i1 → c ≠ i2 → s.heap.get? c = some o → h'.get? c = some o) → Q none { s with heap := h', toks := tk }) : wpAny (model prog w) A (pyNext (.ref z)) Q E s := by
  have hT : s.TypeIs (.ref z) "zip" := ⟨_, hz, rfl⟩
  unfold pyNext
  refine wpAny_bind (wpAny_attempt (wpAny_callSpecial?_slot (name := Str.ofString "__next__") hT F.slot_zip_next
    (wpAny_call_entry F.slot_zip_next hT F.entry_zip_next (zipG_end D S1 S2 hz hTI hTO h1 h2 hl1 hl2 hend fun h' tk e hk he => ?_) (F.args_zip_next_1 _))))
  obtain ⟨o, ho, hc⟩ := he
  refine wpAny_bind (wpAny_isInstance (T := "StopIteration") (b := true) ⟨o, ho, hc⟩ isSubtype_stop ?_)
  exact wpAny_pure (hQ _ _ hk)
end
end L2
namespace L2
open PySem PySem.Spec PyProof.Rows

/-- the pairs of two sources -/
def Itz (K : PySem.W.Frag) (a b : ZS) : It :=
  ⟨fun i H => a.ok K H ∧ b.ok K H ∧ i < a.items.length ∧ i < b.items.length,
   fun i H v H' => ∃ T x y, a.items[i]? = some x ∧ b.items[i]? = some y ∧ H T = none ∧ v = .ref T ∧ H' = upd H T (.tup [x, y]),
   fun i H => a.ok K H ∧ b.ok K H ∧ (a.items.length ≤ i ∨ b.items.length ≤ i)⟩

/-- the iterator's record of a source -/
def ZS.rcd : ZS → Value → Obj
  | .lst _ _, v => { cls := .type "list_iterator", data := .fields #[v, .int 0 0] }
  | .tup _ _, v => { cls := .type "tuple_iterator", data := .fields #[v, .int 0 0] }
  | .str z, v => { cls := .type (strIterType z), data := .fields #[v, .int 0 0] }
def ZS.st (a : ZS) (v : Value) (i : Addr) (k : Nat) (h : Heap) : Prop := match a, v with
  | .lst l _, _ => h.IsListIter i l k
  | .tup l _, _ => h.IsTupleIter i l k
  | .str z, .str _ t => h.IsStrIter i (strIterType z) z t k
  | .str _, _ => False
def ZS.sl : ZS → List Addr
  | .lst l _ => [l]
  | .tup l _ => [l]
  | .str _ => []
theorem ZS.st_obj {a : ZS} {v : Value} {i : Addr} {k : Nat} {h : Heap} (x : a.st v i k h) : ∃ o, h.get? i = some o ∧ ∀ c, o.data ≠ .cell c := by
  cases a with
  | lst l xs => obtain ⟨o, e, c, d⟩ := (show h.IsListIter i l k from x); exact ⟨o, e, fun v z => by rw [d] at z; cases z⟩
  | tup l xs => obtain ⟨o, e, c, d⟩ := (show h.IsTupleIter i l k from x); exact ⟨o, e, fun v z => by rw [d] at z; cases z⟩
  | str z =>
    cases v with
    | str y t => obtain ⟨o, e, c, d⟩ := (show h.IsStrIter i (strIterType z) z t k from x); exact ⟨o, e, fun v z => by rw [d] at z; cases z⟩
    | _ => exact False.elim x
theorem ZS.st_keep {a : ZS} {v : Value} {i : Addr} {k : Nat} {h h' : Heap} (x : a.st v i k h) (f : ∀ o, h.get? i = some o → h'.get? i = some o) : a.st v i k h' := by
  cases a with
  | lst l xs => obtain ⟨o, e, c⟩ := (show h.IsListIter i l k from x); exact ⟨o, f o e, c⟩
  | tup l xs => obtain ⟨o, e, c⟩ := (show h.IsTupleIter i l k from x); exact ⟨o, f o e, c⟩
  | str z =>
    cases v with
    | str y t => obtain ⟨o, e, c⟩ := (show h.IsStrIter i (strIterType z) z t k from x); exact ⟨o, f o e, c⟩
    | _ => exact False.elim x

section
variable {X : Cx} {pins : List (Addr × Obj)} {σ : St} {H : Hp} {s : Shared}
/-- from the abstract heap: the source on the bare heap -/
theorem ZS.sub (a : ZS) {v : Value} (I : Inv X pins σ H s) (ok : a.ok X.K H) (rv : RelV a.val v) (A : Around) (hh : A.handled = none) (i : Addr) :
    ∃ src : Heap → Prop, src s.heap ∧ Sub X.prog X.w A i a.sl src (a.st v i) a.items ∧ (∀ b ∈ a.sl, ∃ o, s.heap.get? b = some o ∧ (H b ≠ none ∨ X.base.get? b = some o)) := by
  cases a with
  | lst l xs =>
    have ok : SqL X.K H l xs := ok
    obtain ⟨its, r, p, hz⟩ := I.list ok
    refine ⟨_, p.isList, Sub.list hh i l r, fun b hb => ?_⟩
    have e : b = l := by simpa [ZS.sl] using hb
    subst e
    rcases ok with (h | ⟨o, h⟩) | ⟨o, its', n, hk, _⟩
    · obtain ⟨_, _, _, _, e⟩ := I.hok _ _ h
      exact ⟨_, e, .inl (by rw [h]; simp)⟩
    · obtain ⟨e, _⟩ := I.hok _ _ h
      exact ⟨_, e, .inl (by rw [h]; simp)⟩
    · exact ⟨o, I.kIn _ _ hk, .inr (I.ok.mod.kin _ _ hk)⟩
  | tup l xs =>
    have ok : SqT X.K H l xs := ok
    obtain ⟨its, r, p, hz⟩ := I.tuple ok
    refine ⟨_, p, Sub.tuple hh i l r, fun b hb => ?_⟩
    have e : b = l := by simpa [ZS.sl] using hb
    subst e
    rcases ok with (h | ⟨o, h⟩) | ⟨o, its', n, hk, _⟩
    · obtain ⟨_, _, _, o, e, _⟩ := I.hok _ _ h
      exact ⟨_, e, .inl (by rw [h]; simp)⟩
    · obtain ⟨e, _⟩ := I.hok _ _ h
      exact ⟨_, e, .inl (by rw [h]; simp)⟩
    · exact ⟨o, I.kIn _ _ hk, .inr (I.ok.mod.kin _ _ hk)⟩
  | str z =>
    obtain ⟨t, rfl⟩ := rv
    exact ⟨_, trivial, Sub.strs hh i z t, fun b hb => by simp [ZS.sl] at hb⟩
end

/-- no source stands among the iterator's own records -/
theorem zs_apart {X : Cx} {pins : List (Addr × Obj)} {σ : St} {H : Hp} {s : Shared} {a : ZS} {b : Addr} (I : Inv X pins σ H s) (f : FpOk X pins H b) (h : ∀ c ∈ a.sl, ∃ o, s.heap.get? c = some o ∧ (H c ≠ none ∨ X.base.get? c = some o)) : ∀ c ∈ a.sl, c ≠ b := by
  intro c hc e
  subst e
  obtain ⟨o, _, q⟩ := h c hc
  rcases q with q | q
  · exact q f.1
  · rcases f.2.2.2.1 with z | z
    · exact I.ok.noex c o q z
    · exact absurd (Nat.lt_of_lt_of_le (Heap.lt_size q) (Nat.le_trans I.ok.bsz z)) (Nat.lt_irrefl _)

structure ZRec (z TI TO i1 i2 : Addr) : Prop where
  TIz : TI ≠ z
  TOz : TO ≠ z
  i1z : i1 ≠ z
  i2z : i2 ≠ z
  TITO : TI ≠ TO
  TIi1 : TI ≠ i1
  TIi2 : TI ≠ i2
  TOi1 : TO ≠ i1
  TOi2 : TO ≠ i2
  i12 : i1 ≠ i2

/-- several untracked records of ours have turned -/
theorem Inv.turnedL {X : Cx} {pins : List (Addr × Obj)} {σ : St} {H : Hp} {s : Shared} {h' : Heap} {t' : Nat} {fp : List Addr} (I : Inv X pins σ H s) (k : ∀ b o, b ∉ fp → s.heap.get? b = some o → h'.get? b = some o) (f : ∀ b ∈ fp, FpOk X pins H b)
    : Inv X pins σ H { s with heap := h', toks := t' } := by
  have nit : ∀ b u, H b = some u → b ∉ fp := fun b u e z => by rw [(f b z).1] at e; cases e
  refine I.step (g' := s.gens) (d' := s.drawn) (ch := fp) (fun b hb => ?_) (fun b o _ _ hc e _ => k b o hc e) (fun b o _ _ hc e _ => ⟨o.slots, k b o hc e⟩) (fun _ _ _ _ n => n)
    (fun b o hc e => ⟨o, k b o hc e⟩) (fun _ _ e => e) (fun _ _ _ e => e) (fun b ps e => ⟨#[], by rw [e]; simp⟩) (fun m hm => ?_) (fun b u e => ?_) I.bare
  · obtain ⟨f0, f1, f2, f3, f4, f5⟩ := f b hb
    exact ⟨f3, f1, f4, f5⟩
  · obtain ⟨o, es, ep, ho, r⟩ := hm
    exact ⟨o, es, ep, k _ o (fun z => (f _ z).2.1 rfl) ho, r⟩
  · refine (I.hok b u e).stay (fun c v hc q => k c v ?_ q) (fun _ q => q) fun _ _ q => q
    rcases hc with z | z
    · rw [z]; exact nit b u e
    · exact nit c _ z

theorem turn_zip {P : Program} {w : World} {K : PySem.W.Frag} {es : List Expr} {x1} {pos : Pos} (a b : ZS) (va vb : Value) (ra : RelV a.val va) (rb : RelV b.val vb) (z TI TO i1 i2 : Addr) (R : ZRec z TI TO i1 i2) :
    Turn P w K (.Tuple es x1 pos) (Itz K a b) [z, TI, TO, i1, i2] z
      (fun i h => IsZip h z TI TO .none ∧ IsPair h TI (.ref i1) (.ref i2) ∧ (∃ p q, IsPair h TO p q) ∧ a.st va i1 i h ∧ b.st vb i2 i h) where
  mem := by simp
  obj := fun i h ⟨h1, h2, ⟨p, q, h3⟩, h4, h5⟩ c hc => by
    simp only [List.mem_cons, List.not_mem_nil, or_false] at hc
    rcases hc with rfl | rfl | rfl | rfl | rfl
    · exact ⟨_, h1, fun v z => by cases z⟩
    · exact ⟨_, h2, fun v z => by cases z⟩
    · exact ⟨_, h3, fun v z => by cases z⟩
    · exact ZS.st_obj h4
    · exact ZS.st_obj h5
  keep := fun i h h' ⟨h1, h2, ⟨p, q, h3⟩, h4, h5⟩ k =>
    ⟨k z (by simp) _ h1, k TI (by simp) _ h2, ⟨p, q, k TO (by simp) _ h3⟩, ZS.st_keep h4 (fun o e => k i1 (by simp) o e), ZS.st_keep h5 (fun o e => k i2 (by simp) o e)⟩
  item := by
    intro X hP hw hK hc i pins s σ H E I hf ⟨h1, h2, ⟨p, q, h3⟩, h4, h5⟩ hg
    subst hP hw hK
    obtain ⟨oka, okb, la, lb⟩ := hg
    have hh : X.A.in1.handled = none := I.ok.hd hc
    obtain ⟨src1, hs1, S1, ap1⟩ := a.sub I oka ra X.A.in1 hh i1
    obtain ⟨src2, hs2, S2, ap2⟩ := b.sub I okb rb X.A.in1 hh i2
    obtain ⟨x, hx⟩ : ∃ x, a.items[i]? = some x := ⟨_, List.getElem?_eq_getElem la⟩
    obtain ⟨y, hy⟩ : ∃ y, b.items[i]? = some y := ⟨_, List.getElem?_eq_getElem lb⟩
    have D : ZApart z TI TO i1 i2 a.sl b.sl := ⟨R.TIz, R.TOz, R.i1z, R.i2z, R.TITO, R.TIi1, R.TIi2, R.TOi1, R.TOi2, R.i12,
      fun c hc => ⟨zs_apart I (hf z (by simp)) ap1 c hc, zs_apart I (hf TO (by simp)) ap1 c hc, zs_apart I (hf i1 (by simp)) ap1 c hc, zs_apart I (hf i2 (by simp)) ap1 c hc⟩,
      fun c hc => ⟨zs_apart I (hf z (by simp)) ap2 c hc, zs_apart I (hf TO (by simp)) ap2 c hc, zs_apart I (hf i1 (by simp)) ap2 c hc, zs_apart I (hf i2 (by simp)) ap2 c hc⟩⟩
    have fl : ∀ c ∈ ([z, TI, TO, i1, i2] : List Addr), c < s.heap.objs.size := fun c hc => by
      simp only [List.mem_cons, List.not_mem_nil, or_false] at hc
      rcases hc with rfl | rfl | rfl | rfl | rfl
      · exact Heap.lt_size h1
      · exact Heap.lt_size h2
      · exact Heap.lt_size h3
      · obtain ⟨o, e, _⟩ := ZS.st_obj h4; exact Heap.lt_size e
      · obtain ⟨o, e, _⟩ := ZS.st_obj h5; exact Heap.lt_size e
    refine nextG_item D S1 S2 h1 h2 h3 h4 h5 hs1 hs2 hx hy (fun u v h' tk ru rv hz' hTO' st1' st2' hT hsz hk => ?_) (fl i1 (by simp)) (fl i2 (by simp))
    refine ⟨.ref s.heap.objs.size, rfl, ?_⟩
    refine wpAny_letOwnedTupleGo_zip hz' fun h'' hz'' hs'' => ?_
    have hs'' : Heap.SameBut z h' h'' := hs''
    have k1 : ∀ c o, c ∉ ([z, TI, TO, i1, i2] : List Addr) → s.heap.get? c = some o → h''.get? c = some o := fun c o hc e => by
      simp only [List.mem_cons, List.not_mem_nil, or_false, not_or] at hc
      exact hs''.extBut _ _ hc.1 (hk c o hc.1 hc.2.2.1 hc.2.2.2.1 hc.2.2.2.2 e)
    have hn : H s.heap.objs.size = none := I.hok.fresh (Nat.le_refl _)
    have I1 : Inv X pins σ H { s with heap := h'', toks := tk } := I.turnedL k1 hf
    have nez : s.heap.objs.size ≠ z := Nat.ne_of_gt (fl z (by simp))
    have hT'' : IsPair h'' s.heap.objs.size u v := hs''.extBut _ _ nez hT
    have I2 : Inv X pins σ (upd H s.heap.objs.size (.tup [x, y])) { s with heap := h'', toks := tk } := by
      refine I.step (g' := s.gens) (d' := s.drawn) (ch := [z, TI, TO, i1, i2]) (fun b hb => ?_) (fun b o _ _ hc e _ => k1 b o hc e) (fun b o _ _ hc e _ => ⟨o.slots, k1 b o hc e⟩) (fun b o hc e n => ?_)
        (fun b o hc e => ⟨o, k1 b o hc e⟩) (fun b ys e => ?_) (fun b o u e => ?_) (fun b ps e => ⟨#[], ?_⟩) (fun m hm => ?_) (fun b o e => ?_) I.bare
      · obtain ⟨f0, f1, f2, f3, f4, f5⟩ := hf b hb
        exact ⟨f3, f1, f4, f5⟩
      · rw [upd_ne (Nat.ne_of_lt (Heap.lt_size e))]; exact n
      · rw [upd_ne (ne_of_none e hn)]; exact e
      · rw [upd_ne (ne_of_none e hn)]; exact e
      · rw [upd_ne (ne_of_none e hn), e]; simp
      · obtain ⟨o, es', ep, ho, r⟩ := hm
        exact ⟨o, es', ep, k1 _ o (fun z => (hf _ z).2.1 rfl) ho, r⟩
      · by_cases hb : b = s.heap.objs.size
        · subst hb
          rw [upd_same] at e
          cases e
          exact ⟨(by show 2 ≤ sizeLine; decide), [u, v], .cons ru (.cons rv .nil), ⟨_, hT'', rfl, _, rfl⟩⟩
        · rw [upd_ne hb] at e
          refine (I1.hok b o e).stay (fun c v hc q => q) (fun c q => by rw [upd_ne (ne_of_none q hn)]; exact q) fun c ys q => by rw [upd_ne (ne_of_none q hn)]; exact q
    refine ⟨.ref s.heap.objs.size, _, I2, rfl, ⟨_, x, y, hx, hy, hn, rfl, rfl⟩, ⟨hz'', ?_, ⟨u, v, hs''.extBut _ _ R.TOz hTO'⟩, ZS.st_keep st1' (fun o e => hs''.extBut _ _ R.i1z e), ZS.st_keep st2' (fun o e => hs''.extBut _ _ R.i2z e)⟩, fun c hc => ?_⟩
    · exact hs''.extBut _ _ R.TIz (hk _ _ R.TIz R.TITO R.TIi1 R.TIi2 h2)
    · rw [upd_ne (Nat.ne_of_lt (fl c hc))]; exact (hf c hc).1
  done := by
    intro X hP hw hK hc i pins s σ H E I hf ⟨h1, h2, ⟨p, q, h3⟩, h4, h5⟩ hg
    subst hP hw hK
    obtain ⟨oka, okb, hend⟩ := hg
    have hh : X.A.in1.handled = none := I.ok.hd hc
    obtain ⟨src1, hs1, S1, ap1⟩ := a.sub I oka ra X.A.in1 hh i1
    obtain ⟨src2, hs2, S2, ap2⟩ := b.sub I okb rb X.A.in1 hh i2
    have D : ZApart z TI TO i1 i2 a.sl b.sl := ⟨R.TIz, R.TOz, R.i1z, R.i2z, R.TITO, R.TIi1, R.TIi2, R.TOi1, R.TOi2, R.i12,
      fun c hc => ⟨zs_apart I (hf z (by simp)) ap1 c hc, zs_apart I (hf TO (by simp)) ap1 c hc, zs_apart I (hf i1 (by simp)) ap1 c hc, zs_apart I (hf i2 (by simp)) ap1 c hc⟩,
      fun c hc => ⟨zs_apart I (hf z (by simp)) ap2 c hc, zs_apart I (hf TO (by simp)) ap2 c hc, zs_apart I (hf i1 (by simp)) ap2 c hc, zs_apart I (hf i2 (by simp)) ap2 c hc⟩⟩
    refine nextG_end D S1 S2 h1 h2 h3 h4 h5 hs1 hs2 hend fun h' tk hk => ⟨rfl, I.turnedL (fun c o hc e => ?_) hf⟩
    simp only [List.mem_cons, List.not_mem_nil, or_false, not_or] at hc
    exact hk c o hc.1 hc.2.2.1 hc.2.2.2.1 hc.2.2.2.2 e
  self := fun _ _ _ _ _ ⟨h1, _⟩ h => wpAny_pyIter_zip h1 h

/-! ### zip(a, b) -/
theorem meets_zip_newG (v1 v2 : Value) (o1 o2 : Obj) (src1 src2 : Heap → Prop) (fr2 : ∀ h o, src2 h → src2 (h.push o))
    (p1 : ∀ (prog : Program) (w : World) (A : Around) (E : Value → Shared → Prop) (s : Shared) (Q : Value → Shared → Prop), src1 s.heap → Q (.ref s.heap.objs.size) { s with heap := s.heap.push o1 } → wpAny (model prog w) A (pyIter v1) Q E s)
    (p2 : ∀ (prog : Program) (w : World) (A : Around) (E : Value → Shared → Prop) (s : Shared) (Q : Value → Shared → Prop), src2 s.heap → Q (.ref s.heap.objs.size) { s with heap := s.heap.push o2 } → wpAny (model prog w) A (pyIter v2) Q E s) :
    Meets (Builtin.«zip.__new__» ⟨[.type "zip", v1, v2], []⟩) (fun _ R s => src1 s.heap ∧ src2 s.heap ∧
      R (.ok (.ret (.ref ((((s.heap.push o1).push o2).push { cls := .type "tuple", data := .seq #[.ref s.heap.objs.size, .ref (s.heap.push o1).objs.size] }).push { cls := .type "tuple", data := .seq #[.none, .none] }).objs.size)))
        { s with heap := ((((s.heap.push o1).push o2).push { cls := .type "tuple", data := .seq #[.ref s.heap.objs.size, .ref (s.heap.push o1).objs.size] }).push { cls := .type "tuple", data := .seq #[.none, .none] }).push { cls := .type "zip", data := .fields #[.none, .bool false, .bool false, .ref ((s.heap.push o1).push o2).objs.size, .ref (((s.heap.push o1).push o2).push { cls := .type "tuple", data := .seq #[.ref s.heap.objs.size, .ref (s.heap.push o1).objs.size] }).objs.size] } }) :=
  .of_wp fun prog w A R s h => by
    obtain ⟨hp, g, d, tk, os⟩ := s; obtain ⟨hl1, hl2, h⟩ := h
    have hsub := sub_zip
    have q1 : ∀ {A : Around} {E : Value → Shared → Prop} {Q : Value → Shared → Prop}, Q (.ref hp.objs.size) ⟨hp.push o1, g, d, tk, os⟩ → wpAny (model prog w) A (pyIter v1) Q E ⟨hp, g, d, tk, os⟩ := fun hQ => p1 _ _ _ _ ⟨hp, g, d, tk, os⟩ _ hl1 hQ
    have q2 : ∀ {A : Around} {E : Value → Shared → Prop} {Q : Value → Shared → Prop}, Q (.ref (hp.push o1).objs.size) ⟨(hp.push o1).push o2, g, d, tk, os⟩ → wpAny (model prog w) A (pyIter v2) Q E ⟨hp.push o1, g, d, tk, os⟩ := fun hQ => p2 _ _ _ _ ⟨hp.push o1, g, d, tk, os⟩ _ (fr2 _ _ hl2) hQ
    wp_walk using q1, q2
    exact ⟨_, rfl, h⟩
end L2

namespace L2
open PySem PySem.Spec PyProof.Rows
theorem boot_zip : bootBuiltins "zip" = some (.type "zip") := by decide +kernel
section
variable {X : Cx}
/-- a source's pyIter pushes its record -/
theorem ZS.iter (a : ZS) {v : Value} {pins : List (Addr × Obj)} {σ : St} {H : Hp} {s : Shared} (I : Inv X pins σ H s) (ok : a.ok X.K H) (rv : RelV a.val v) :
    ∃ src : Heap → Prop, src s.heap ∧ (∀ h o, src h → src (h.push o)) ∧
      ∀ (prog : Program) (w : World) (A : Around) (E : Value → Shared → Prop) (s : Shared) (Q : Value → Shared → Prop), src s.heap → Q (.ref s.heap.objs.size) { s with heap := s.heap.push (a.rcd v) } → wpAny (model prog w) A (pyIter v) Q E s := by
  cases a with
  | lst l xs =>
    obtain ⟨its, r, p, hz⟩ := I.list (show SqL X.K H l xs from ok)
    cases rv
    exact ⟨fun h => h.IsList l its.toArray, p.isList, fun h o x => x.push o, fun prog w A E s Q h q => wpAny_pyIter_list h q⟩
  | tup l xs =>
    obtain ⟨its, r, p, hz⟩ := I.tuple (show SqT X.K H l xs from ok)
    cases rv
    exact ⟨fun h => h.IsTuple l its.toArray, p, fun h o x => x.push o, fun prog w A E s Q h q => wpAny_pyIter_tuple h q⟩
  | str z =>
    obtain ⟨t, rfl⟩ := rv
    exact ⟨fun _ => True, trivial, fun _ _ _ => trivial, fun prog w A E s Q _ q => wpAny_pyIter_strU q⟩
theorem ZS.st0 (a : ZS) {v : Value} (rv : RelV a.val v) {h : Heap} {i : Addr} (e : h.get? i = some (a.rcd v)) : a.st v i 0 h := by
  cases a with
  | lst l xs => cases rv; exact ⟨_, e, rfl, rfl⟩
  | tup l xs => cases rv; exact ⟨_, e, rfl, rfl⟩
  | str z => obtain ⟨t, rfl⟩ := rv; exact ⟨_, e, rfl, rfl⟩
theorem rcd_live (a : ZS) (v : Value) : (a.rcd v).isFreed = false := by cases a <;> rfl

def iZip (K : PySem.W.Frag) (ta : TA) : TI := fun σ H R => ta σ H fun vs H1 => ∃ a b : ZS, vs = [a.val, b.val] ∧ a.ok K H1 ∧ b.ok K H1 ∧ R (Itz K a b) H1
theorem pi_zip {es : List Expr} {x1} {tpos : Pos} {a b : Expr} {ta : TA} {p pos : Pos} (hg : Gl X "zip") (hm : X.mg "zip" = none) (ha : PA X [a, b] ta) (hs : starEach [a, b] X.env = [(false, eval a X.env), (false, eval b X.env)] := by rfl) (hs2 : starEach [b] X.env = [(false, eval b X.env)] := by rfl) :
    PI X (.Tuple es x1 tpos) (.Call (.Name "zip" p) [a, b] [] pos) (iZip X.K ta) := by
  intro pins s σ H R I h
  refine Call_ (ld_blt I hg hm boot_zip (PyProof.Rows.callWith_type1 (thn (ha pos pins s σ H _ I h) fun us s1 ⟨vs, H1, I1, r1, q1⟩ => ?_) (by rw [hs, hs2]) (by rw [hs2]; rfl)))
  obtain ⟨za, zb, e, oka, okb, q⟩ := q1
  subst e
  obtain ⟨ua, ub, rfl, ra, rb⟩ := r1.two
  obtain ⟨src1, h1, _, p1⟩ := za.iter I1 oka ra
  obtain ⟨src2, h2, fr2, p2⟩ := zb.iter I1 okb rb
  refine callType_new F.called_zip (by decide) (F.typeCall_zip_2 _ _) (F.newCall_zip_2 _ _) (fun obj => F.args_object_init_3 obj _ _) F.entry_zip_new
    (meets_zip_newG ua ub (za.rcd ua) (zb.rcd ub) src1 src2 fr2 p1 p2) ⟨h1, h2, ?_⟩
  generalize hA : s1.heap.push (za.rcd ua) = A1
  generalize hB : A1.push (zb.rcd ub) = A2
  generalize hC : A2.push { cls := .type "tuple", data := .seq #[.ref s1.heap.objs.size, .ref A1.objs.size] } = A3
  generalize hD : A3.push { cls := .type "tuple", data := .seq #[.none, .none] } = A4
  generalize hE : A4.push { cls := .type "zip", data := .fields #[.none, .bool false, .bool false, .ref A2.objs.size, .ref A3.objs.size] } = A5
  have z1 : A1.objs.size = s1.heap.objs.size + 1 := by rw [← hA]; exact Heap.size_push ..
  have z2 : A2.objs.size = s1.heap.objs.size + 2 := by rw [← hB, Heap.size_push, z1]
  have z3 : A3.objs.size = s1.heap.objs.size + 3 := by rw [← hC, Heap.size_push, z2]
  have z4 : A4.objs.size = s1.heap.objs.size + 4 := by rw [← hD, Heap.size_push, z3]
  have g5 : A5.get? A4.objs.size = some { cls := .type "zip", data := .fields #[.none, .bool false, .bool false, .ref A2.objs.size, .ref A3.objs.size] } := by rw [← hE]; exact Heap.get?_push_size _ rfl
  have u5 : ∀ c o, A4.get? c = some o → A5.get? c = some o := fun c o e => by rw [← hE]; exact Heap.get?_push_of_some _ e
  have u4 : ∀ c o, A3.get? c = some o → A5.get? c = some o := fun c o e => u5 c o (by rw [← hD]; exact Heap.get?_push_of_some _ e)
  have u3 : ∀ c o, A2.get? c = some o → A5.get? c = some o := fun c o e => u4 c o (by rw [← hC]; exact Heap.get?_push_of_some _ e)
  have u2 : ∀ c o, A1.get? c = some o → A5.get? c = some o := fun c o e => u3 c o (by rw [← hB]; exact Heap.get?_push_of_some _ e)
  have u1 : ∀ c o, s1.heap.get? c = some o → A5.get? c = some o := fun c o e => u2 c o (by rw [← hA]; exact Heap.get?_push_of_some _ e)
  have g4 : A5.get? A3.objs.size = some { cls := .type "tuple", data := .seq #[.none, .none] } := u5 _ _ (by rw [← hD]; exact Heap.get?_push_size _ rfl)
  have g3 : A5.get? A2.objs.size = some { cls := .type "tuple", data := .seq #[.ref s1.heap.objs.size, .ref A1.objs.size] } := u4 _ _ (by rw [← hC]; exact Heap.get?_push_size _ rfl)
  have g2 : A5.get? A1.objs.size = some (zb.rcd ub) := u3 _ _ (by rw [← hB]; exact Heap.get?_push_size _ (rcd_live _ _))
  have g1 : A5.get? s1.heap.objs.size = some (za.rcd ua) := u2 _ _ (by rw [← hA]; exact Heap.get?_push_size _ (rcd_live _ _))
  refine ⟨⟨_, g5, rfl⟩, ?_⟩
  have ez : IsZip A5 A4.objs.size A2.objs.size A3.objs.size .none := g5
  refine wpAny_pyIter_zip ez ?_
  have R : ZRec A4.objs.size A2.objs.size A3.objs.size s1.heap.objs.size A1.objs.size := by
    refine ⟨?_, ?_, ?_, ?_, ?_, ?_, ?_, ?_, ?_, ?_⟩ <;> (show (_ : Nat) ≠ _; omega)
  have I5 : Inv X pins σ H1 { s1 with heap := A5 } := I1.kept (t' := s1.toks) u1
  refine ⟨A4.objs.size, [A4.objs.size, A2.objs.size, A3.objs.size, s1.heap.objs.size, A1.objs.size], _, _, H1, rfl, I5, turn_zip za zb ua ub ra rb _ _ _ _ _ R,
    ⟨ez, g3, ⟨_, _, g4⟩, za.st0 ra g1, zb.st0 rb g2⟩, fun b hb => ?_, q⟩
  have hb' : s1.heap.objs.size ≤ b := by
    simp only [List.mem_cons, List.not_mem_nil, or_false] at hb
    rcases hb with rfl | rfl | rfl | rfl | rfl <;> omega
  exact I1.fpOk hb' (I1.hok.fresh hb')
end

/-! ### all(list of truths) -/
section
variable {X : Cx}
theorem all_bls {bs : List Bool} : ∀ {us : List Value}, Vals (bs.map V.bl) us → LSm.BoolsAre us bs := by
  induction bs with
  | nil => intro us r; rw [List.map_nil] at r; cases r; exact .nil
  | cons b bs ih =>
    intro us r
    rw [List.map_cons] at r
    cases r with
    | cons r1 r2 => cases r1; exact .cons b (ih r2)
theorem call_all (hc : X.calm = true) : CallR X (.builtin "all") (fun xs H Q => ∃ (p : Addr) (bs : List Bool), xs = [.ref p] ∧ SqL X.K H p (bs.map V.bl) ∧ Q (.bl (bs.all id)) H) := by
  intro pins s σ H xs us Q I r h
  obtain ⟨p, bs, rfl, hq, q⟩ := h
  obtain ⟨u, rfl, rx⟩ := vals1 r
  cases rx
  obtain ⟨its, r', pl, hz⟩ := I.list hq
  obtain ⟨m, F⟩ := I.fr
  have hlt : p < s.heap.objs.size := by obtain ⟨_, _, e, _⟩ := pl; exact Heap.lt_size e
  have hb := all_bls r'
  refine call_all_walk (wpAny_pyIter_list pl.isList ?_)
  refine ⟨s.heap.objs.size, [s.heap.objs.size, p], [s.heap.objs.size], its.toArray.size, _, _, fun i => (bs[i]?).getD true, rfl, Walks.list (A := X.A.in1) (I.ok.hd hc) _ p (Nat.ne_of_lt hlt) its.toArray,
    ⟨⟨_, Heap.get?_push_size _ rfl, rfl, rfl⟩, pl.isList.push _⟩, fun i v s' Q' E' hP hQ => ?_, fun h' tk hk => ?_⟩
  · obtain ⟨b, e, rfl⟩ := hb.get i v (by simpa using hP)
    simp only [e, Option.getD_some] at hQ
    exact wpAny_truthy_bool hQ
  · have e : ((List.range its.toArray.size).all fun i => (bs[i]?).getD true) = bs.all id := by
      rw [List.size_toArray, hb.length]; exact LSm.range_all bs
    rw [e]
    exact ⟨.bl (bs.all id), H, I.kept (LSm.kept_iter hk), rfl, q⟩

/-! ### isinstance(x, T), T one built-in type -/
end
end L2
namespace L2
open PySem PySem.Spec PyProof.Rows

/-! ### what a value reads as, through the abstract heap -/
mutual
inductive Dt (K : PySem.W.Frag) (H : Hp) : V → PyData → Prop
  | non : Dt K H .non .none
  | bl (b : Bool) : Dt K H (.bl b) (.bool b)
  | int (i : Int) : Dt K H (.int i) (.int i)
  | str (x : Str) : Dt K H (.str x) (.str x)
  | lst {a xs ds} : SqL K H a xs → DtAll K H xs ds → Dt K H (.ref a) (.list ds)
  | tup {a xs ds} : SqT K H a xs → DtAll K H xs ds → Dt K H (.ref a) (.tuple ds)
inductive DtAll (K : PySem.W.Frag) (H : Hp) : List V → List PyData → Prop
  | nil : DtAll K H [] []
  | cons {x d xs ds} : Dt K H x d → DtAll K H xs ds → DtAll K H (x :: xs) (d :: ds)
end
theorem DtAll.length {K : PySem.W.Frag} {H : Hp} : ∀ {xs : List V} {ds : List PyData}, DtAll K H xs ds → xs.length = ds.length
  | _, _, .nil => rfl
  | _, _, .cons _ t => by rw [List.length_cons, List.length_cons, DtAll.length t]
theorem DtAll.get {K : PySem.W.Frag} {H : Hp} : ∀ {xs : List V} {ds : List PyData} {i : Nat} {d : PyData}, DtAll K H xs ds → ds[i]? = some d → ∃ x, xs[i]? = some x ∧ Dt K H x d
  | _, _, _, _, .nil, e => by simp at e
  | _, _, 0, _, .cons r _, e => by simp at e; subst e; exact ⟨_, rfl, r⟩
  | _, _, i + 1, d, .cons _ t, e => by
    obtain ⟨u, h1, h2⟩ := DtAll.get (i := i) (d := d) t (by simpa using e)
    exact ⟨u, by simpa using h1, h2⟩
theorem DtAll.ints {K : PySem.W.Frag} {H : Hp} : ∀ (ns : List Int), DtAll K H (ns.map V.int) (ns.map PyData.int)
  | [] => .nil
  | n :: ns => .cons (.int n) (DtAll.ints ns)

theorem Same.tupS {K : PySem.W.Frag} {H H' : Hp} {a : Addr} {xs : List V} (e : Same H H') (h : SqT K H a xs) : SqT K H' a xs := by
  rcases h with (h | ⟨o, h⟩) | h
  · exact .inl (.inl (e _ _ h))
  · exact .inl (.inr ⟨o, e _ _ h⟩)
  · exact .inr h
mutual
theorem Dt.mono {K : PySem.W.Frag} {H H' : Hp} (s : Same H H') : ∀ {x : V} {d : PyData}, Dt K H x d → Dt K H' x d
  | _, _, .non => .non
  | _, _, .bl b => .bl b
  | _, _, .int i => .int i
  | _, _, .str x => .str x
  | _, _, .lst h t => .lst (s.seq h) (DtAll.mono s t)
  | _, _, .tup h t => .tup (s.tupS h) (DtAll.mono s t)
theorem DtAll.mono {K : PySem.W.Frag} {H H' : Hp} (s : Same H H') : ∀ {xs : List V} {ds : List PyData}, DtAll K H xs ds → DtAll K H' xs ds
  | _, _, .nil => .nil
  | _, _, .cons r t => .cons (Dt.mono s r) (DtAll.mono s t)
end

section
variable {X : Cx} {pins : List (Addr × Obj)} {σ : St} {H : Hp} {s : Shared}
mutual
theorem Dt.reads (I : Inv X pins σ H s) : ∀ {x : V} {d : PyData} {u : Value}, Dt X.K H x d → RelV x u → ∃ as, Reads s.heap u d as
  | _, _, _, .non, r => by cases r; exact ⟨_, .none⟩
  | _, _, _, .bl b, r => by cases r; exact ⟨_, .bool b⟩
  | _, _, _, .int i, r => by obtain ⟨t, rfl⟩ := r; exact ⟨_, .int i t⟩
  | _, _, _, .str x, r => by obtain ⟨t, rfl⟩ := r; exact ⟨_, .str x t⟩
  | _, _, _, .lst h t, r => by
    cases r
    obtain ⟨its, rv, ⟨o, n, e, hc, _, hd⟩, _⟩ := I.list h
    obtain ⟨as, q⟩ := DtAll.reads I t rv
    exact ⟨_, .list e hc hd (by simpa using q)⟩
  | _, _, _, .tup h t, r => by
    cases r
    obtain ⟨its, rv, ⟨o, e, hc, n, hd⟩, _⟩ := I.tuple h
    obtain ⟨as, q⟩ := DtAll.reads I t rv
    exact ⟨_, .tuple e hc hd (by simpa using q)⟩
theorem DtAll.reads (I : Inv X pins σ H s) : ∀ {xs : List V} {ds : List PyData} {us : List Value}, DtAll X.K H xs ds → Vals xs us → ∃ as, ReadsAll s.heap us ds as
  | _, _, _, .nil, r => by cases r; exact ⟨_, .nil⟩
  | _, _, _, .cons h t, r => by
    cases r with
    | cons r1 r2 =>
      obtain ⟨as, q⟩ := Dt.reads I h r1
      obtain ⟨bs, p⟩ := DtAll.reads I t r2
      exact ⟨_, .cons q p⟩
end
end

mutual
theorem eqv_refl : ∀ (d : PyData), d.canLay0 = true → PyData.eqv d d = true
  | .none, _ => by simp [PyData.eqv]
  | .bool b, _ => by simp [PyData.eqv]
  | .int i, _ => by simp [PyData.eqv]
  | .str x, _ => by simp [PyData.eqv]
  | .list xs, h => by simp only [PyData.eqv]; exact eqvAll_refl xs (by simpa [PyData.canLay0] using h)
  | .tuple xs, h => by simp only [PyData.eqv]; exact eqvAll_refl xs (by simpa [PyData.canLay0] using h)
  | .dict _, h => by simp [PyData.canLay0] at h
theorem eqvAll_refl : ∀ (ds : List PyData), PyData.canLayAll0 ds = true → PyData.eqvAll ds ds = true
  | [], _ => by simp [PyData.eqvAll]
  | d :: ds, h => by
    simp only [PyData.canLayAll0, Bool.and_eq_true] at h
    simp only [PyData.eqvAll, Bool.and_eq_true]
    exact ⟨eqv_refl d h.1, eqvAll_refl ds h.2⟩
end

section
variable {X : Cx}
/-- == of data -/
def rEqD (K : PySem.W.Frag) : R2 := fun x y H Q => ∃ da db, Dt K H x da ∧ Dt K H y db ∧ SeqAt.shaped da = true ∧ SeqAt.shaped db = true ∧ Q (.bl (PyData.eqv da db)) H
def rNeD (K : PySem.W.Frag) : R2 := fun x y H Q => ∃ da db, Dt K H x da ∧ Dt K H y db ∧ SeqAt.shaped da = true ∧ SeqAt.shaped db = true ∧ Q (.bl (!PyData.eqv da db)) H
theorem op_eqD (hu : X.A.units + 64 < cLine) : OpR X (compareOp .Eq) (rEqD X.K) := by
  intro pins s σ H x y v u Q I rx ry h
  obtain ⟨da, db, ra, rb, sa, sb, q⟩ := h
  obtain ⟨as, r1⟩ := ra.reads I rx
  obtain ⟨bs, r2⟩ := rb.reads I ry
  exact eq_dataH r1 r2 sa sb hu ⟨.bl _, H, I, rfl, q⟩
theorem op_neD (hu : X.A.units + 64 < cLine) : OpR X (compareOp .NotEq) (rNeD X.K) := by
  intro pins s σ H x y v u Q I rx ry h
  obtain ⟨da, db, ra, rb, sa, sb, q⟩ := h
  obtain ⟨as, r1⟩ := ra.reads I rx
  obtain ⟨bs, r2⟩ := rb.reads I ry
  exact ne_dataH r1 r2 sa sb hu ⟨.bl _, H, I, rfl, q⟩

/-! ### isinstance -/
theorem kit_same (K : PySem.W.Frag) (T : String) : PySem.W.kitOne K (.type T) (.type T) = some true := by
  unfold PySem.W.kitOne
  rw [if_pos (by simp)]
theorem kit_lt (K : PySem.W.Frag) : PySem.W.kitOne K (.type "list") (.type "tuple") = some false := by kernel_rfl
theorem kit_tl (K : PySem.W.Frag) : PySem.W.kitOne K (.type "tuple") (.type "list") = some false := by kernel_rfl
theorem kit_ib (K : PySem.W.Frag) : PySem.W.kitOne K (.type "int") (.type "bool") = some false := by kernel_rfl
theorem kit_il (K : PySem.W.Frag) : PySem.W.kitOne K (.type "int") (.type "list") = some false := by kernel_rfl
theorem kit_it (K : PySem.W.Frag) : PySem.W.kitOne K (.type "int") (.type "tuple") = some false := by kernel_rfl
theorem kit_is (K : PySem.W.Frag) : PySem.W.kitOne K (.type "int") (.type "str") = some false := by kernel_rfl
theorem kit_sl (K : PySem.W.Frag) : PySem.W.kitOne K (.type "str") (.type "list") = some false := by kernel_rfl
theorem kit_st (K : PySem.W.Frag) : PySem.W.kitOne K (.type "str") (.type "tuple") = some false := by kernel_rfl
theorem kit_bl (K : PySem.W.Frag) : PySem.W.kitOne K (.type "bool") (.type "list") = some false := by kernel_rfl
theorem kit_bt (K : PySem.W.Frag) : PySem.W.kitOne K (.type "bool") (.type "tuple") = some false := by kernel_rfl
theorem kit_bs (K : PySem.W.Frag) : PySem.W.kitOne K (.type "bool") (.type "str") = some false := by kernel_rfl
theorem kit_nl (K : PySem.W.Frag) : PySem.W.kitOne K (.type "NoneType") (.type "list") = some false := by kernel_rfl
theorem kit_nt (K : PySem.W.Frag) : PySem.W.kitOne K (.type "NoneType") (.type "tuple") = some false := by kernel_rfl
theorem kit_ns (K : PySem.W.Frag) : PySem.W.kitOne K (.type "NoneType") (.type "str") = some false := by kernel_rfl

/-- the type's name of a value, lists and tuples of the module among them -/
inductive Ty (K : PySem.W.Frag) (H : Hp) : V → String → Prop
  | non : Ty K H .non "NoneType"
  | bl (b : Bool) : Ty K H (.bl b) "bool"
  | int (i : Int) : Ty K H (.int i) "int"
  | str (x : Str) : Ty K H (.str x) "str"
  | lst {a xs} : SqL K H a xs → Ty K H (.ref a) "list"
  | tup {a xs} : SqT K H a xs → Ty K H (.ref a) "tuple"
theorem Ty.kitx {pins : List (Addr × Obj)} {σ : St} {H : Hp} {s : Shared} {x : V} {n : String} {u : Value} (I : Inv X pins σ H s) (ty : Ty X.K H x n) (rx : RelV x u) :
    ∃ Z : Heap → Prop, PySem.W.KitX X.K u (.type n) Z ∧ Z s.heap ∧ u ≠ .builtin "__main__.__loader__#opaque" := by
  cases ty with
  | non => cases rx; exact ⟨_, PySem.W.kitx_none, trivial, fun z => nomatch z⟩
  | bl b => cases rx; exact ⟨_, PySem.W.kitx_bool, trivial, fun z => nomatch z⟩
  | int i => obtain ⟨t, rfl⟩ := rx; exact ⟨_, PySem.W.kitx_int, trivial, fun z => nomatch z⟩
  | str x => obtain ⟨t, rfl⟩ := rx; exact ⟨_, PySem.W.kitx_str, trivial, fun z => nomatch z⟩
  | lst h =>
    cases rx
    obtain ⟨its, _, ⟨o, n, e, hc, _⟩, _⟩ := I.list h
    exact ⟨_, PySem.W.kitx_list, ⟨o, e, hc⟩, fun z => nomatch z⟩
  | tup h =>
    cases rx
    obtain ⟨its, _, ⟨o, e, hc, _⟩, _⟩ := I.tuple h
    exact ⟨_, PySem.W.kitx_tuple, ⟨o, e, hc⟩, fun z => nomatch z⟩
/-- isinstance(x, T) -/
theorem call_isi (T : String) : CallR X (.builtin "isinstance") (fun xs H Q => ∃ x n b, xs = [x, .ty T] ∧ Ty X.K H x n ∧ PySem.W.kitOne X.K (.type n) (.type T) = some b ∧ Q (.bl b) H) := by
  intro pins s σ H xs us Q I r h
  obtain ⟨x, n, b, rfl, ty, e, q⟩ := h
  obtain ⟨u, v, rfl, rx, ry⟩ := r.two
  cases ry
  obtain ⟨Z, kx, z, ne⟩ := ty.kitx I rx
  exact PySem.W.kia_one kx I.kIn z e ne fun tk => ⟨.bl b, H, I.tok _, rfl, q⟩
/-- isinstance(x, (S, T)) of a tuple just made -/
theorem call_isi2 (S T : String) : CallR X (.builtin "isinstance") (fun xs H Q => ∃ x n b p, xs = [x, .ref p] ∧ H p = some (.tup [.ty S, .ty T]) ∧ Ty X.K H x n ∧ PySem.W.kitAny X.K (.type n) [.type S, .type T] = some b ∧ Q (.bl b) H) := by
  intro pins s σ H xs us Q I r h
  obtain ⟨x, n, b, p, rfl, hp, ty, e, q⟩ := h
  obtain ⟨u, v, rfl, rx, ry⟩ := r.two
  cases ry
  obtain ⟨Z, kx, z, ne⟩ := ty.kitx I rx
  obtain ⟨_, its, rv, ⟨⟨c, dd, dt, sl⟩, eo, hc, nn, hd⟩⟩ := I.hok p _ hp
  obtain ⟨u1, u2, rfl, r1, r2⟩ := rv.two
  cases r1
  cases r2
  replace hc : c = .type "tuple" := hc
  replace hd : dt = .seq [Value.type S, Value.type T].toArray nn := hd
  subst hc hd
  exact PySem.W.kia_tup kx I.kIn z eo e ne fun tk => ⟨.bl b, H, I.tok _, rfl, q⟩
theorem kitAny_yes (K : PySem.W.Frag) {n S T : String} (h1 : PySem.W.kitOne K (.type n) (.type S) = some true ∨ (PySem.W.kitOne K (.type n) (.type S) = some false ∧ PySem.W.kitOne K (.type n) (.type T) = some true)) :
    PySem.W.kitAny K (.type n) [.type S, .type T] = some true := by
  rcases h1 with h | ⟨h, h'⟩
  · simp [PySem.W.kitAny, h]
  · simp [PySem.W.kitAny, h, h']
theorem kitAny_no (K : PySem.W.Frag) {n S T : String} (h : PySem.W.kitOne K (.type n) (.type S) = some false) (h' : PySem.W.kitOne K (.type n) (.type T) = some false) :
    PySem.W.kitAny K (.type n) [.type S, .type T] = some false := by
  simp [PySem.W.kitAny, h, h']
end
end L2
namespace L2
open PySem PySem.Spec PyProof.Rows

/-! ### readings, step by step -/
section
variable {D : Ends} {σ : St} {H : Hp} {Q : VK} {ta tb te tc : TE} {x y v : V} {i j : Int}
theorem rd_seq {t u : TS} (h : t { D with nx := u D } σ H) : tSeq t u D σ H := h
theorem rd_next (h : D.nx σ H) : tNext D σ H := h
theorem rd_asg {g : TG} (h : te σ H fun x H1 => g x σ H1 D.nx) : tAsg te g D σ H := h
theorem rd_name {k : Nat} {R : St → Hp → Prop} (h : R (σ.set k (some v)) H) : gName k v σ H R := h
theorem rd_ret (h : te σ H D.rt) : tRet te D σ H := h
theorem rd_cont (h : D.ct σ H) : tCont D σ H := h
theorem rd_drop (h : te σ H fun _ H1 => D.nx σ H1) : tDrop te D σ H := h
theorem rd_ifS {c : TT} {t u : TS} (h : c σ H fun b H1 => if b = true then t D σ H1 else u D σ H1) : tIfS c t u D σ H := h
theorem rd_test {R : Bool → Hp → Prop} (h : te σ H fun x H' => ∃ k, x = .bl k ∧ R k H') : tTest te σ H R := h
theorem rd_tB {R : Bool → Hp → Prop} (h : te σ H fun x H' => ∃ k, x = .bl k ∧ R k H') : tB te σ H R := h
theorem rd_and {t u : TT} {R : Bool → Hp → Prop} (h : t σ H fun c H1 => if c = true then u σ H1 R else R false H1) : tAnd t u σ H R := h
theorem rd_or {t u : TT} {R : Bool → Hp → Prop} (h : t σ H fun c H1 => if c = true then R true H1 else u σ H1 R) : tOr t u σ H R := h
theorem rd_not {t : TT} {R : Bool → Hp → Prop} (h : t σ H fun c H1 => R (!c) H1) : tNot t σ H R := h
theorem rd_orV (h : ta σ H fun x H1 => ∃ c, x = .bl c ∧ if c = true then Q (.bl true) H1 else tb σ H1 Q) : tOrV ta tb σ H Q := h
theorem rd_isN (h : ta σ H fun x H1 => Q (.bl (decide (x = .non))) H1) : tIsN ta σ H Q := h
theorem rd_if {t : TT} (h : t σ H fun c H1 => if c = true then ta σ H1 Q else tb σ H1 Q) : tIf t ta tb σ H Q := h
theorem rd_op {r : R2} (h : ta σ H fun x H1 => tb σ H1 fun y H2 => r x y H2 Q) : tOp r ta tb σ H Q := h
theorem rd_un {r : V → Hp → VK → Prop} (h : ta σ H fun x H1 => r x H1 Q) : tUn r ta σ H Q := h
theorem rd_var {k : Nat} (e : σ[k]? = some (some v)) (h : Q v H) : tVar k σ H Q := ⟨v, e, h⟩
theorem rd_c (h : Q v H) : tC v σ H Q := h
theorem rd_I0 {g : Int → Int → V} (h : Q (g i j) H) : rI0 g (.int i) (.int j) H Q := ⟨i, j, rfl, rfl, h⟩
theorem rd_I {C : Int → Int → Prop} {g : Int → Int → V} (c : C i j) (h : Q (g i j) H) : rI C g (.int i) (.int j) H Q := ⟨i, j, rfl, rfl, c, h⟩
theorem rd_U {g : Int → V} (h : Q (g i) H) : rU g (.int i) H Q := ⟨i, rfl, h⟩
theorem rd_eqI (h : Q (.bl (decide (i = j))) H) : rEq (.int i) (.int j) H Q := ⟨rfl, by rw [show decide (V.int i = V.int j) = decide (i = j) by rw [Bool.eq_iff_iff]; simp]; exact h⟩
theorem rd_neI (h : Q (.bl (!decide (i = j))) H) : rNe (.int i) (.int j) H Q := ⟨rfl, by rw [show decide (V.int i = V.int j) = decide (i = j) by rw [Bool.eq_iff_iff]; simp]; exact h⟩
theorem rd_eqS {a b : Str} (h : Q (.bl (decide (a = b))) H) : rEq (.str a) (.str b) H Q := ⟨rfl, by rw [show decide (V.str a = V.str b) = decide (a = b) by rw [Bool.eq_iff_iff]; simp]; exact h⟩
theorem rd_neS {a b : Str} (h : Q (.bl (!decide (a = b))) H) : rNe (.str a) (.str b) H Q := ⟨rfl, by rw [show decide (V.str a = V.str b) = decide (a = b) by rw [Bool.eq_iff_iff]; simp]; exact h⟩
theorem rd_eqB {a b : Bool} (h : Q (.bl (decide (a = b))) H) : rEq (.bl a) (.bl b) H Q := ⟨rfl, by rw [show decide (V.bl a = V.bl b) = decide (a = b) by rw [Bool.eq_iff_iff]; simp]; exact h⟩
theorem rd_neB {a b : Bool} (h : Q (.bl (!decide (a = b))) H) : rNe (.bl a) (.bl b) H Q := ⟨rfl, by rw [show decide (V.bl a = V.bl b) = decide (a = b) by rw [Bool.eq_iff_iff]; simp]; exact h⟩
theorem rd_ixL {K : PySem.W.Frag} {p : Addr} {xs : List V} (h : SqL K H p xs) (e : atI xs i = some v) (q : Q v H) : rIxL K (.ref p) (.int i) H Q := ⟨p, xs, i, v, rfl, rfl, h, e, q⟩
theorem rd_ixT {K : PySem.W.Frag} {p : Addr} {xs : List V} (h : SqT K H p xs) (e : atI xs i = some v) (q : Q v H) : rIxT K (.ref p) (.int i) H Q := ⟨p, xs, i, v, rfl, rfl, h, e, q⟩
theorem rd_cons {tr : TA} {R : List V → Hp → Prop} (h : ta σ H fun x H1 => tr σ H1 fun xs H2 => R (x :: xs) H2) : tCons ta tr σ H R := h
theorem rd_nil {R : List V → Hp → Prop} (h : R [] H) : tNil σ H R := h
theorem rd_call {sp : Sp} {dvs : List V} {E : XK} {t : TA} (h : t σ H fun vs H1 => sp (vs ++ dvs) H1 Q E) : tCall sp dvs E t σ H Q := h
theorem rd_cb {r : List V → Hp → VK → Prop} {t : TA} (h : t σ H fun vs H1 => r vs H1 Q) : tCB r t σ H Q := h
theorem rd_tup {t : TA} (h : t σ H fun xs H1 => xs.length ≤ sizeLine ∧ ∀ p, H1 p = none → Q (.ref p) (upd H1 p (.tup xs))) : tTup t σ H Q := h
theorem rd_lst {t : TA} (h : t σ H fun xs H1 => xs.length ≤ sizeLine ∧ ∀ p, H1 p = none → Q (.ref p) (upd H1 p (.lst xs))) : tLst t σ H Q := h
theorem rd_sub {to ti : TE} {t : TSet} {R : St → Hp → Prop} (h : to σ H fun o H1 => ti σ H1 fun i H2 => t o i v H2 fun H3 => R σ H3) : gSub to ti t v σ H R := h
theorem rd_setL {p : Addr} {xs : List V} {k : Int} {j : Nat} {R : Hp → Prop} (h : H p = some (.lst xs)) (e : ixN xs.length k = some j) (q : R (upd H p (.lst (xs.set j v)))) : rSetL (.ref p) (.int k) v H R := ⟨p, xs, k, j, rfl, rfl, h, e, q⟩
theorem rd_bm {K : PySem.W.Frag} {T : String} {r : V → List V → Hp → VK → Prop} {to : TE} {t : TA} (h : to σ H fun x H1 => tyV K T x H1 ∧ t σ H1 fun xs H2 => r x xs H2 Q) : tBM K T r to t σ H Q := h
theorem rd_bm0 {K : PySem.W.Frag} {T : String} {r : V → List V → Hp → VK → Prop} {to : TE} (h : to σ H fun x H1 => tyV K T x H1 ∧ r x [] H1 Q) : tBM0 K T r to σ H Q := h
theorem rd_append {l : Addr} {xs : List V} (h : H l = some (.lst xs)) (z : xs.length < sizeLine) (q : Q .non (upd H l (.lst (xs ++ [y])))) : rAppend (.ref l) [y] H Q := ⟨l, xs, y, rfl, rfl, h, z, q⟩
theorem rd_gtup {K : PySem.W.Frag} {n : Nat} {t : TGs} {R : St → Hp → Prop} {a : Addr} {xs : List V} (h : SqT K H a xs) (e : xs.length = n) (q : t xs σ H R) : gTup K n t (.ref a) σ H R := ⟨a, xs, rfl, h, e, q⟩
theorem rd_gcons {t : TG} {u : TGs} {r : List V} {R : St → Hp → Prop} (q : t v σ H fun σ' H' => u r σ' H' R) : gCons t u (v :: r) σ H R := ⟨v, r, rfl, q⟩
theorem rd_gnil {R : St → Hp → Prop} (q : R σ H) : gNil [] σ H R := ⟨rfl, q⟩
theorem rd_par {a b : Nat} {t : TA} (h : t σ H fun vs H1 => ∃ v w, vs = [v, w] ∧ D.nx ((σ.set a (some v)).set b (some w)) H1) : tPar a b t D σ H := h
theorem rd_two {R : V → V → Prop} (h : R x y) : ∃ v w, [x, y] = [v, w] ∧ R v w := ⟨x, y, rfl, h⟩
theorem rd_sl {r : V → Option Int → Option Int → Hp → VK → Prop} {tl th : TO} (h : te σ H fun x H1 => tl σ H1 fun l H2 => th σ H2 fun u H3 => r x l u H3 Q) : tSl r te tl th σ H Q := h
theorem rd_part {R : Option Int → Hp → Prop} (h : te σ H fun x H1 => ∃ i, x = .int i ∧ R (some i) H1) : tPart te σ H R := h
theorem rd_int {R : Int → Prop} (h : R i) : ∃ k, V.int i = .int k ∧ R k := ⟨i, rfl, h⟩
theorem rd_emit {Dd : Addr} {R : Hp → Prop} (h : te σ H fun y H1 => ∃ ys, H1 Dd = some (.lst ys) ∧ ys.length < sizeLine ∧ R (upd H1 Dd (.lst (ys ++ [y])))) : cEmit te Dd σ H R := h
theorem rd_ctest {tt : TT} {Dd : Addr} {R : Hp → Prop} (h : tt σ H fun b H1 => if b = true then cEmit te Dd σ H1 R else R H1) : cTest tt te Dd σ H R := h
theorem rd_chain {r r' : R2} (h : ta σ H fun x H1 => tb σ H1 fun y H2 => r x y H2 fun z H3 => ∃ k, z = .bl k ∧ (if k = true then tc σ H3 fun w' H4 => r' y w' H4 Q else Q (.bl false) H3)) : tChain r r' ta tb tc σ H Q := h
end

/-! ### three names at once -/
section
variable {X : Cx} {pos : Pos}
def tPar3 (i j k : Nat) (ta : TA) : TS := fun D σ H => ta σ H fun vs H1 => ∃ v w u, vs = [v, w, u] ∧ D.nx (((σ.set i (some v)).set j (some w)).set k (some u)) H1
theorem rd_par3 {D : Ends} {σ : St} {H : Hp} {a b c : Nat} {t : TA} (h : t σ H fun vs H1 => ∃ v w u, vs = [v, w, u] ∧ D.nx (((σ.set a (some v)).set b (some w)).set c (some u)) H1) : tPar3 a b c t D σ H := h
theorem rd_three {x y z : V} {R : V → V → V → Prop} (h : R x y z) : ∃ v w u, [x, y, z] = [v, w, u] ∧ R v w u := ⟨x, y, z, rfl, h⟩
theorem ps_par3 {i j k : Nat} {x y z : Str} {a b c : Expr} {ta : TA} {px py pz pt : Pos} {kt k2 pt2} (hc : X.calm = true) (hN : X.N.Nodup) (hi : X.N[i]? = some x) (hj : X.N[j]? = some y) (hk : X.N[k]? = some z) (hij : i ≠ j) (hik : i ≠ k) (hjk : j ≠ k)
    (hx : X.env.scope.names.lookup x = some .local) (hy : X.env.scope.names.lookup y = some .local) (hz : X.env.scope.names.lookup z = some .local) (ha : PA X [a, b, c] ta)
    (hw : swappedStores [.Tuple [.Name x px, .Name y py, .Name z pz] kt pt] (.Tuple [a, b, c] k2 pt2) X.env = pure (some [x, y, z]))
    (hs : swapsWithSole [.Tuple [.Name x px, .Name y py, .Name z pz] kt pt] (.Tuple [a, b, c] k2 pt2) pos.line X.env = pure false := by rfl) :
    PS X (.Assign [.Tuple [.Name x px, .Name y py, .Name z pz] kt pt] (.Tuple [a, b, c] k2 pt2) pos) (tPar3 i j k ta) := by
  intro pins s σ H D I h
  rw [exec_Assign_arm]
  refine wpAny_bind (wpAny_standAt ?_)
  rw [hs]
  refine wpAny_bind (wpAny_pure ?_)
  rw [if_neg (by decide)]
  refine wpAny_bind (Tuple_ (thn (ha _ pins s σ H _ I h) fun us s1 ⟨vs, H1, I1, r1, q1⟩ => ?_))
  obtain ⟨v, w, u, e1, q1⟩ := q1
  subst e1
  obtain ⟨u1, u2, u3, rfl, rv, rw', ru⟩ : ∃ u1 u2 u3, us = [u1, u2, u3] ∧ RelV v u1 ∧ RelV w u2 ∧ RelV u u3 := by
    cases r1 with
    | cons p q =>
      cases q with
      | cons p' q' =>
        cases q' with
        | cons p'' q'' =>
          cases q''
          exact ⟨_, _, _, rfl, p, p', p''⟩
  refine wpAny_newObj_type ?_ (by show 3 ≤ sizeLine; decide)
  have I2 : Inv X pins σ H1 { s1 with heap := s1.heap.push { cls := .type "tuple", data := .seq [u1, u2, u3].toArray } } := I1.kept (t' := s1.toks) fun b o e => Heap.get?_push_of_some _ e
  rw [hw]
  refine wpAny_bind (wpAny_pure ?_)
  show wpAny (model X.prog X.w) X.A (do rule "assign.swapped-stores"; let items ← unpackItems (.ref s1.heap.objs.size) 3 none; assignInOrder [fun v => bindName X.env z v, fun v => bindName X.env y v, fun v => bindName X.env x v] items.reverse; pure Flow.next) _ _ _
  refine wpAny_bind (wpAny_rule (wpAny_bind (unpackItems_tuple (items := #[u1, u2, u3]) (I.ok.hd hc) (IsTup.new s1.heap _) fun h' hx' => ?_)))
  have I3 := I2.kept (h' := h') (t' := s1.toks) fun b o e => hx' b o (Nat.ne_of_lt (Heap.lt_size e)) e
  show wpAny _ _ (assignInOrder [fun v => bindName X.env z v, fun v => bindName X.env y v, fun v => bindName X.env x v] [u3, u2, u1] >>= fun _ => pure Flow.next) _ _ _
  refine wpAny_bind (assignInOrder_cons (wpAny_bindName (store_ok I3 hN hk (.inl hz) ru (fun s2 I4 => ?_) (.inr hz))))
  refine assignInOrder_cons (wpAny_bindName (store_ok I4 hN hj (.inl hy) rw' (fun s3 I5 => ?_) (.inr hy)))
  refine assignInOrder_cons (wpAny_bindName (store_ok I5 hN hi (.inl hx) rv (fun s4 I6 => assignInOrder_nil (wpAny_pure ?_)) (.inr hx)))
  have e : ((σ.set k (some u)).set j (some w)).set i (some v) = ((σ.set i (some v)).set j (some w)).set k (some u) := by
    rw [List.set_comm _ _ (Ne.symm hij), List.set_comm _ _ (Ne.symm hik), List.set_comm _ _ (Ne.symm hjk)]
  rw [e] at I6
  exact ⟨_, H1, I6, q1⟩
end

/-! ### heaps -/
/-- all but what stands at S is as it was -/
def Keep (S : List Addr) (H H' : Hp) : Prop := ∀ b o, H b = some o → b ∉ S → H' b = some o
theorem Keep.refl (S : List Addr) (H : Hp) : Keep S H H := fun _ _ h _ => h
theorem Keep.trans {S : List Addr} {H H1 H2 : Hp} (a : Keep S H H1) (b : Keep S H1 H2) : Keep S H H2 := fun c o h n => b c o (a c o h n) n
theorem Keep.new {S : List Addr} {H H1 : Hp} {p : Addr} {o : HO} (a : Keep S H H1) (n : H1 p = none) : Keep S H (upd H1 p o) := fun c u h m => by
  have q := a c u h m
  rw [upd_ne (ne_of_none q n)]; exact q
/-- something at p, which was not there ahead, is written -/
theorem Keep.put {S : List Addr} {H H1 : Hp} {p : Addr} {o : HO} (a : Keep S H H1) (n : p ∈ S ∨ H p = none) : Keep S H (upd H1 p o) := fun c u h m => by
  have ne : c ≠ p := fun e => by
    subst e
    rcases n with n | n
    · exact m n
    · rw [n] at h; cases h
  rw [upd_ne ne]; exact a c u h m
theorem Keep.same {H H' : Hp} (a : Keep [] H H') : Same H H' := fun b o h => a b o h (by simp)
/-- what was not among H stays apart -/
theorem Keep.weaken {S : List Addr} {H H1 H2 : Hp} {p : Addr} (a : Keep S H H1) (b : Keep (p :: S) H1 H2) (n : H p = none) : Keep S H H2 := fun c o h m =>
  b c o (a c o h m) fun z => by
    rcases List.mem_cons.mp z with rfl | z
    · rw [n] at h; cases h
    · exact m z
theorem Keep.free {S : List Addr} {H H' : Hp} (e : Keep S H H') {l : Addr} (h : H' l = none) (n : l ∉ S) : H l = none := by
  cases q : H l with
  | none => rfl
  | some o => rw [e l o q n] at h; cases h
end L2
namespace L2
open PySem PySem.Spec PyProof.Rows
theorem bt_len : bootBuiltins "len" = some (.builtin "len") := by decide +kernel
theorem bt_abs : bootBuiltins "abs" = some (.builtin "abs") := by decide +kernel
theorem bt_min : bootBuiltins "min" = some (.builtin "min") := by decide +kernel
theorem bt_all : bootBuiltins "all" = some (.builtin "all") := by decide +kernel
theorem bt_isinstance : bootBuiltins "isinstance" = some (.builtin "isinstance") := by decide +kernel
theorem bt_int : bootBuiltins "int" = some (.type "int") := by decide +kernel
theorem bt_bool : bootBuiltins "bool" = some (.type "bool") := by decide +kernel
theorem bt_str : bootBuiltins "str" = some (.type "str") := by decide +kernel
theorem bt_list : bootBuiltins "list" = some (.type "list") := by decide +kernel
theorem bt_tuple : bootBuiltins "tuple" = some (.type "tuple") := by decide +kernel

/-! ### the comprehensions of a def, by their places -/
def noScope : Scope := { kind := .function, names := [], isGenerator := false, isCoroutine := false }
def compsE : Nat → Expr → List Scope
  | 0, _ => []
  | n + 1, e => match e with
    | .ListComp elt gs sc _ => sc :: (match gs with | g :: _ => compsE n g.iter | [] => []) ++ compsE n elt
    | .DictComp k v gs sc _ => sc :: (match gs with | g :: _ => compsE n g.iter | [] => []) ++ compsE n k ++ compsE n v
    | .SetComp elt gs sc _ => sc :: (match gs with | g :: _ => compsE n g.iter | [] => []) ++ compsE n elt
    | .Call f as _ _ => compsE n f ++ as.flatMap (compsE n)
    | .BoolOp _ as _ => as.flatMap (compsE n)
    | .BinOp a _ b _ => compsE n a ++ compsE n b
    | .UnaryOp _ a _ => compsE n a
    | .Compare a _ bs _ => compsE n a ++ bs.flatMap (compsE n)
    | .IfExp a b c _ => compsE n a ++ compsE n b ++ compsE n c
    | .Attribute a _ _ => compsE n a
    | .Subscript a b _ => compsE n a ++ compsE n b
    | .List as _ => as.flatMap (compsE n)
    | .Tuple as _ _ => as.flatMap (compsE n)
    | _ => []
def compsS : Nat → Stmt → List Scope
  | 0, _ => []
  | n + 1, s => match s with
    | .FunctionDef _ _ b _ _ _ _ _ _ _ => b.flatMap (compsS n)
    | .Return (some e) _ => compsE n e
    | .Expr e _ => compsE n e
    | .Assign _ e _ => compsE n e
    | .If c a b _ => compsE n c ++ a.flatMap (compsS n) ++ b.flatMap (compsS n)
    | .While c a _ _ => compsE n c ++ a.flatMap (compsS n)
    | .For _ i a _ _ => compsE n i ++ a.flatMap (compsS n)
    | _ => []
structure CompOk (N : List Str) (nt : Nat) (fr : List Nat) (ON : List Str) (sc osc : Scope) : Prop where
  sc : CompScope N nt fr ON sc osc
  nd : N.Nodup
def outOk (N : List Str) (nt : Nat) (fr : List Nat) (ON : List Str) (sc osc : Scope) : Bool := (List.range fr.length).all fun i => match N[nt + i]?, (fr[i]?).bind (ON[·]?) with
  | some x, some y => x == y && osc.names.lookup x == some .cell && sc.names.lookup x == some .free
  | _, _ => false
theorem compOut {N : List Str} {nt : Nat} {fr : List Nat} {ON : List Str} {sc osc : Scope} (h : outOk N nt fr ON sc osc = true) (i j : Nat) (e : fr[i]? = some j) :
    ∃ x, N[nt + i]? = some x ∧ ON[j]? = some x ∧ osc.names.lookup x = some .cell ∧ sc.names.lookup x = some .free := by
  have hi : i < fr.length := (List.getElem?_eq_some_iff.mp e).1
  have q := List.all_eq_true.mp h i (List.mem_range.mpr hi)
  rw [e] at q
  simp only [Option.bind_some] at q
  cases h1 : N[nt + i]? with
  | none => rw [h1] at q; simp at q
  | some x =>
    cases h2 : ON[j]? with
    | none => rw [h1, h2] at q; simp at q
    | some y =>
      rw [h1, h2] at q
      simp only [Bool.and_eq_true, beq_iff_eq] at q
      obtain ⟨⟨rfl, q2⟩, q3⟩ := q
      exact ⟨x, rfl, rfl, q2, q3⟩

section
variable {H : Hp} {Q : VK} {K : PySem.W.Frag} {x y v : V} {i j : Int} {p l : Addr} {xs : List V}
theorem rd_rep {k : Int} (h : H l = some (.lst xs)) (h1 : -(2 ^ 63) ≤ k) (h2 : k < 2 ^ 63) (hz : xs.length * k.toNat ≤ sizeLine) (q : ∀ p, H p = none → Q (.ref p) (upd H p (.lst (List.replicate k.toNat xs).flatten))) : rRep (.ref l) (.int k) H Q :=
  ⟨l, k, xs, rfl, rfl, h, h1, h2, hz, q⟩
theorem rd_cat {b : Addr} {zs : List V} (h : H l = some (.lst xs)) (h' : H b = some (.lst zs)) (hz : xs.length + zs.length ≤ sizeLine) (q : ∀ p, H p = none → Q (.ref p) (upd H p (.lst (xs ++ zs)))) : rCat (.ref l) (.ref b) H Q :=
  ⟨l, b, xs, zs, rfl, rfl, h, h', hz, q⟩
theorem rd_eqN (q : Q (.bl true) H) : rEq .non .non H Q := ⟨rfl, by simpa using q⟩
theorem rd_zip {ta : TA} {σ : St} {R : It → Hp → Prop} (h : ta σ H fun vs H1 => ∃ a b : ZS, vs = [a.val, b.val] ∧ a.ok K H1 ∧ b.ok K H1 ∧ R (Itz K a b) H1) : iZip K ta σ H R := h
theorem rd_comp {wi : TI} {nt : Nat} {fr : List Nat} {g : CC → TG} {tc : CC → TC} {σ : St} (h : wi σ H fun J H1 => ∀ (c : CC) D, H1 D = none → ∃ W : Nat → Nat → St → Hp → Prop, (∃ m, W 0 m (compSt nt fr σ) (upd H1 D (.lst []))) ∧
  ∀ i m σ' H', W i m σ' H' → (J.stop i H' ∧ Q (.ref D) H') ∨ (J.go i H' ∧ ∀ x H2, J.yld i H' x H2 → g c x σ' H2 fun σ3 H3 => tc c D σ3 H3 fun H4 => ∃ m', m' < m ∧ W (i + 1) m' σ3 H4)) : tComp wi nt fr g tc σ H Q := h
theorem rd_for {wi : TI} {g : TG} {tb : TS} {D : Ends} {σ : St} (h : wi σ H fun J H1 => ∃ W : Nat → Nat → St → Hp → Prop, (∃ m, W 0 m σ H1) ∧ ∀ i m σ H, W i m σ H →
  (J.stop i H ∧ D.nx σ H) ∨ (J.go i H ∧ ∃ N : St → Hp → Prop, (∀ σ' H', N σ' H' → ∃ m', m' < m ∧ W (i + 1) m' σ' H') ∧ ∀ x H', J.yld i H x H' → g x σ H' fun σ2 H2 => tb { D with nx := N, ct := N, bk := D.nx } σ2 H2)) : tFor wi g tb D σ H := h
theorem rd_rng1 {ta : TA} {σ : St} {R : It → Hp → Prop} (h : ta σ H fun vs H1 => ∃ j : Int, vs = [.int j] ∧ -(2 ^ 62) ≤ j ∧ j < 2 ^ 62 ∧ R (Itr 0 j.toNat) H1) : iRng1 ta σ H R := h
theorem rd_ilist {tl : TE} {σ : St} {R : It → Hp → Prop} (h : tl σ H fun x H1 => ∃ a, x = .ref a ∧ (∃ xs, SqL K H1 a xs) ∧ R (Itl K a) H1) : iList K tl σ H R := h
theorem rd_itup {tl : TE} {σ : St} {R : It → Hp → Prop} (h : tl σ H fun x H1 => ∃ a, x = .ref a ∧ (∃ xs, SqT K H1 a xs) ∧ R (Itt K a) H1) : iTup K tl σ H R := h
theorem small2 {n : Nat} (h : n ≤ 1000000) : n ≤ sizeLine := Nat.le_trans h (by decide)
theorem iteD {p : Prop} [Decidable p] {A B : Prop} (h1 : p → A) (h2 : ¬ p → B) : if decide p = true then A else B := by
  by_cases h : p
  · rw [decide_eq_true h, if_pos rfl]; exact h1 h
  · rw [decide_eq_false h, if_neg Bool.false_ne_true]; exact h2 h
theorem iteDN {p : Prop} [Decidable p] {A B : Prop} (h1 : ¬ p → A) (h2 : p → B) : if (!decide p) = true then A else B := by
  by_cases h : p
  · rw [decide_eq_true h]; exact iteF (h2 h)
  · rw [decide_eq_false h]; exact iteT (h1 h)
end
end L2
namespace L2
open PySem PySem.Spec PyProof.Rows
section
variable {X : Cx}
end
end L2
namespace L2
open PySem PySem.Spec PyProof.Rows

end L2

namespace L2
open PySem PySem.Spec PyProof.Rows

end L2

namespace L2
open PySem PySem.Spec PyProof.Rows

end L2

namespace L2
open PySem PySem.Spec PyProof.Rows

end L2

namespace L2
open PySem PySem.Spec PyProof.Rows

end L2

namespace L2
open PySem PySem.Spec PyProof.Rows

end L2

namespace L2
open PySem PySem.Spec PyProof.Rows

end L2

namespace L2
open PySem PySem.Spec PyProof.Rows

end L2

namespace L2
open PySem PySem.Spec PyProof.Rows

end L2

namespace L2
open PySem PySem.Spec PyProof.Rows

end L2

namespace L2
open PySem PySem.Spec PyProof.Rows

section
variable {κ : Type} [DecidableEq κ]
def valV (kvs : List (κ × V)) (k : κ) : Option V := (kvs.find? fun kv => decide (kv.1 = k)).map (·.2)
/-- in its place, or at the end -/
def putK (kvs : List (κ × V)) (k : κ) (v : V) : List (κ × V) :=
  if (kvs.any fun kv => decide (kv.1 = k)) = true then kvs.map (fun kv => if kv.1 = k then (kv.1, v) else kv) else kvs ++ [(k, v)]

theorem valV_pos {p : κ × V} {r : List (κ × V)} {k : κ} (e : p.1 = k) : valV (p :: r) k = some p.2 := by simp [valV, List.find?_cons, e]
theorem valV_neg {p : κ × V} {r : List (κ × V)} {k : κ} (e : ¬ p.1 = k) : valV (p :: r) k = valV r k := by simp [valV, List.find?_cons, e]
theorem valV_any (k : κ) : ∀ kvs : List (κ × V), (kvs.any fun kv => decide (kv.1 = k)) = (valV kvs k).isSome
  | [] => rfl
  | p :: r => by
    rw [List.any_cons]
    by_cases e : p.1 = k
    · simp only [valV_pos e, decide_eq_true e, Bool.true_or, Option.isSome_some]
    · rw [valV_neg e, decide_eq_false e, Bool.false_or]; exact valV_any k r
theorem valV_map (k j : κ) (y : V) : ∀ kvs : List (κ × V), valV (kvs.map fun kv => if kv.1 = k then (kv.1, y) else kv) j = (valV kvs j).map fun x => if j = k then y else x
  | [] => rfl
  | p :: r => by
    have ih := valV_map k j y r
    rw [List.map_cons]
    by_cases h : p.1 = k
    · rw [if_pos h]
      by_cases e : p.1 = j
      · rw [valV_pos (p := (p.1, y)) e, valV_pos e, Option.map_some, if_pos (e.symm.trans h)]
      · rw [valV_neg (p := (p.1, y)) e, valV_neg e, ih]
    · rw [if_neg h]
      by_cases e : p.1 = j
      · rw [valV_pos (p := p) e, valV_pos e, Option.map_some, if_neg (fun z => h (e.trans z))]
      · rw [valV_neg (p := p) e, valV_neg e, ih]
theorem valV_snoc (k j : κ) (y : V) : ∀ kvs : List (κ × V), valV kvs k = none → valV (kvs ++ [(k, y)]) j = if j = k then some y else valV kvs j
  | [], _ => by
    by_cases e : k = j
    · rw [if_pos e.symm]; exact valV_pos (p := (k, y)) e
    · rw [if_neg (fun z => e z.symm)]; exact valV_neg (p := (k, y)) e
  | p :: r, hn => by
    rw [List.cons_append]
    have hk : ¬ p.1 = k := fun z => by rw [valV_pos z] at hn; cases hn
    rw [valV_neg hk] at hn
    have ih := valV_snoc k j y r hn
    by_cases e : p.1 = j
    · rw [valV_pos e, valV_pos e, if_neg (fun z => hk (e.trans z))]
    · rw [valV_neg e, valV_neg e, ih]
theorem valV_put (kvs : List (κ × V)) (k j : κ) (y : V) : valV (putK kvs k y) j = if j = k then some y else valV kvs j := by
  unfold putK
  by_cases a : (kvs.any fun kv => decide (kv.1 = k)) = true
  · rw [if_pos a, valV_map]
    rw [valV_any] at a
    by_cases e : j = k
    · obtain ⟨x, hx⟩ := Option.isSome_iff_exists.mp a
      rw [if_pos e, e, hx, Option.map_some, if_pos rfl]
    · rw [if_neg e]
      cases valV kvs j with
      | none => rfl
      | some x => rw [Option.map_some, if_neg e]
  · rw [if_neg a]
    refine valV_snoc k j y kvs ?_
    rw [valV_any] at a
    cases q : valV kvs k with
    | none => rfl
    | some x => rw [q] at a; exact (a rfl).elim
theorem length_putK (kvs : List (κ × V)) (k : κ) (v : V) : (putK kvs k v).length ≤ kvs.length + 1 := by
  unfold putK
  split
  · rw [List.length_map]; omega
  · rw [List.length_append, List.length_cons, List.length_nil]; omega

theorem RelO.isSome_eq {o : Option V} {u : Option Value} (r : RelO o u) : o.isSome = u.isSome := by
  cases o with
  | none => cases u with
    | none => rfl
    | some _ => exact (show False from r).elim
  | some _ => cases u with
    | none => exact (show False from r).elim
    | some _ => rfl
theorem RelO.getD {o : Option V} {u : Option Value} {d : V} {d' : Value} (r : RelO o u) (rd : RelV d d') : RelV (o.getD d) (u.getD d') := by
  cases o with
  | none => cases u with
    | none => exact rd
    | some _ => exact (show False from r).elim
  | some _ => cases u with
    | none => exact (show False from r).elim
    | some _ => exact r

/-- raw tables of the same keys -/
theorem KV.val {kvs : List (κ × V)} {vs : List (κ × Value)} (r : KV kvs vs) (k : κ) : RelO (valV kvs k) (valueAt vs k) := by
  unfold KV at r
  induction r with
  | nil => exact True.intro
  | @cons p q ps qs h t ih =>
    obtain ⟨h1, h2⟩ := h
    by_cases e : p.1 = k
    · have e' : q.1 = k := h1.symm.trans e
      have b : valueAt (q :: qs) k = some q.2 := by simp [valueAt, List.find?_cons, e']
      rw [valV_pos e, b]; exact h2
    · have e' : ¬ q.1 = k := fun z => e (h1.trans z)
      have b : valueAt (q :: qs) k = valueAt qs k := by simp [valueAt, List.find?_cons, e']
      rw [valV_neg e, b]; exact ih
theorem KV.any {kvs : List (κ × V)} {vs : List (κ × Value)} (r : KV kvs vs) (k : κ) : (kvs.any fun kv => decide (kv.1 = k)) = vs.any fun kv => decide (kv.1 = k) := by
  unfold KV at r
  induction r with
  | nil => rfl
  | cons h t ih => rw [List.any_cons, List.any_cons, ih, h.1]
theorem KV.repl {kvs : List (κ × V)} {vs : List (κ × Value)} (r : KV kvs vs) (k : κ) {y : V} {u : Value} (ry : RelV y u) :
    KV (kvs.map fun kv => if kv.1 = k then (kv.1, y) else kv) (vs.map fun kv => if kv.1 = k then (kv.1, u) else kv) := by
  unfold KV at r ⊢
  induction r with
  | nil => exact .nil
  | @cons p q ps qs h t ih =>
    rw [List.map_cons, List.map_cons]
    refine .cons ?_ ih
    obtain ⟨h1, h2⟩ := h
    by_cases e : p.1 = k
    · rw [if_pos e, if_pos (h1.symm.trans e)]; exact ⟨h1, ry⟩
    · rw [if_neg e, if_neg (fun z => e (h1.trans z))]; exact ⟨h1, h2⟩
theorem KV.put {kvs : List (κ × V)} {vs : List (κ × Value)} (r : KV kvs vs) (k : κ) {y : V} {u : Value} (ry : RelV y u) : KV (putK kvs k y) (stored vs k u) := by
  unfold putK stored
  rw [r.any k]
  by_cases e : (vs.any fun kv => decide (kv.1 = k)) = true
  · rw [if_pos e, if_pos e]; exact r.repl k ry
  · rw [if_neg e, if_neg e]; exact Paired.snoc r ⟨rfl, ry⟩
theorem KV.length {kvs : List (κ × V)} {vs : List (κ × Value)} (r : KV kvs vs) : kvs.length = vs.length := Paired.length r
end

theorem kV_is {P : Program} {w : World} {k : Key} {u : Value} (r : RelV (kV k) u) : (mixKind P w).is k u = true := by
  cases k with
  | inl i => obtain ⟨t, e⟩ := (show ∃ t, u = Value.int i t from r); subst e; exact mixKind_int P w i t
  | inr x => obtain ⟨t, e⟩ := (show ∃ t, u = Value.str x t from r); subst e; exact mixKind_str P w x t
theorem items_are {P : Program} {w : World} : ∀ {ks : List Key} {us : List Value}, Vals (ks.map kV) us → ItemsAre (mixKind P w) ks us
  | [], _, r => by rw [List.map_nil] at r; cases r; exact .nil
  | k :: ks, _, r => by
    rw [List.map_cons] at r
    cases r with
    | cons h t => exact .cons (kV_is h) (items_are t)

/-- raw entries of a dict with tuple keys -/
abbrev KT (H : Hp) : List (List Key × V) → List (List Key × Addr × Value) → Prop := Paired fun p q => p.1 = q.1 ∧ H q.2.1 = some (.tup (p.1.map kV)) ∧ RelV p.2 q.2.2
theorem KT.val {H : Hp} {kvs : List (List Key × V)} {xs : List (List Key × Addr × Value)} (r : KT H kvs xs) (k : List Key) : RelO (valV kvs k) ((atKey xs k).map (·.2)) := by
  induction r with
  | nil => exact True.intro
  | @cons p q ps qs h t ih =>
    obtain ⟨h1, _, h2⟩ := h
    by_cases e : p.1 = k
    · have e' : q.1 = k := h1.symm.trans e
      have b : atKey (q :: qs) k = some q.2 := by simp [atKey, List.find?_cons, e']
      rw [valV_pos e, b]; exact h2
    · have e' : ¬ q.1 = k := fun z => e (h1.trans z)
      have b : atKey (q :: qs) k = atKey qs k := by simp [atKey, List.find?_cons, e']
      rw [valV_neg e, b]; exact ih
theorem KT.repl {H : Hp} {kvs : List (List Key × V)} {xs : List (List Key × Addr × Value)} (r : KT H kvs xs) (k : List Key) {y : V} {u : Value} (ry : RelV y u) :
    KT H (kvs.map fun kv => if kv.1 = k then (kv.1, y) else kv) (xs.map (putAt k u)) := by
  induction r with
  | nil => exact .nil
  | @cons p q ps qs h t ih =>
    rw [List.map_cons, List.map_cons]
    refine .cons ?_ ih
    obtain ⟨h1, h2, h3⟩ := h
    unfold putAt
    by_cases e : p.1 = k
    · rw [if_pos e, if_pos (h1.symm.trans e)]; exact ⟨h1, h2, ry⟩
    · rw [if_neg e, if_neg (fun z => e (h1.trans z))]; exact ⟨h1, h2, h3⟩
theorem KT.put {H : Hp} {kvs : List (List Key × V)} {xs : List (List Key × Addr × Value)} (r : KT H kvs xs) (k : List Key) {b : Addr} {y : V} {u : Value} (hb : H b = some (.tup (k.map kV))) (ry : RelV y u) :
    KT H (putK kvs k y) (storedH xs k b u) := by
  have e : (kvs.any fun kv => decide (kv.1 = k)) = (atKey xs k).isSome := by
    rw [valV_any, (r.val k).isSome_eq, Option.isSome_map]
  unfold putK storedH
  rw [e]
  by_cases q : (atKey xs k).isSome = true
  · rw [if_pos q, if_pos q]; exact r.repl k ry
  · rw [if_neg q, if_neg q]; exact Paired.snoc r ⟨rfl, hb, ry⟩
theorem KT.keeps {H H' : Hp} {kvs : List (List Key × V)} {xs : List (List Key × Addr × Value)} (r : KT H kvs xs) (ht : ∀ b ys, H b = some (.tup ys) → H' b = some (.tup ys)) : KT H' kvs xs :=
  Paired.mapP r fun _ _ z => ⟨z.1, ht _ _ z.2.1, z.2.2⟩

section
variable {P : Program} {w : World} {H : Hp} {h : Heap} {a : Addr}
theorem rd_of {u : HO} (ok : HOk P w H h) (e : Rd H a u) : ObjOk P w H h a u := e.ok ok
theorem dk_rd {kvs : List (Key × V)} (ok : HOk P w H h) (e : Rd H a (.dK kvs)) : kvs.length ≤ sizeLine ∧ (a == sysModules) = false ∧ ∃ vs, KV kvs vs ∧ h.DictOf (mixKind P w) a vs :=
  show ObjOk P w H h a (.dK kvs) from rd_of ok e
theorem dk_of {kvs : List (Key × V)} (ok : HOk P w H h) (e : H a = some (.dK kvs)) : kvs.length ≤ sizeLine ∧ (a == sysModules) = false ∧ ∃ vs, KV kvs vs ∧ h.DictOf (mixKind P w) a vs := dk_rd ok (.inl e)
/-- a tracked tuple of ints and texts is a key -/
theorem key_of {ks : List Key} (ok : HOk P w H h) (e : H a = some (.tup (ks.map kV))) : (tupleKind (mixKind P w)).is h ks a := by
  obtain ⟨_, its, r, o, h1, h2, n, h3⟩ := (show ObjOk P w H h a (.tup (ks.map kV)) from ok a _ e)
  exact ⟨o, its.toArray, n, h1, h2, h3, by simpa using items_are r⟩
theorem dt_rd {kvs : List (List Key × V)} (ok : HOk P w H h) (e : Rd H a (.dT kvs)) : kvs.length ≤ sizeLine ∧ (a == sysModules) = false ∧
    ∃ xs, KT H kvs xs ∧ h.DictOfH (tupleKind (mixKind P w)) a xs := by
  obtain ⟨z, y, xs, r, o, es, ep, h1, h2, h3, h4, h5⟩ := (show ObjOk P w H h a (.dT kvs) from rd_of ok e)
  refine ⟨z, y, xs, r, o, es, ep, h1, h2, h3, h4, fun x hx => ?_, h5⟩
  have all : ∀ {l : List (List Key × V)} {m : List (List Key × Addr × Value)}, KT H l m → ∀ x ∈ m, (tupleKind (mixKind P w)).is h x.1 x.2.1 := by
    intro l m q
    induction q with
    | nil => intro x hx; exact nomatch hx
    | @cons p q ps qs hq t ih =>
      intro x hx
      rcases List.mem_cons.mp hx with e | hx
      · subst e
        exact key_of ok (by rw [← hq.1]; exact hq.2.1)
      · exact ih x hx
  exact all r x hx
theorem dt_of {kvs : List (List Key × V)} (ok : HOk P w H h) (e : H a = some (.dT kvs)) : kvs.length ≤ sizeLine ∧ (a == sysModules) = false ∧
    ∃ xs, KT H kvs xs ∧ h.DictOfH (tupleKind (mixKind P w)) a xs := dt_rd ok (.inl e)
end

/-- what the dict at a holds at the key y -/
def DGet (H : Hp) (a : Addr) (y : V) (r : Option V) : Prop :=
  (∃ kvs k, Rd H a (.dK kvs) ∧ y = kV k ∧ r = valV kvs k) ∨ ∃ kvs k b, Rd H a (.dT kvs) ∧ y = .ref b ∧ H b = some (.tup (k.map kV)) ∧ r = valV kvs k
/-- the heap behind a[y] = v -/
def DPut (H : Hp) (a : Addr) (y v : V) (H' : Hp) : Prop :=
  (∃ kvs k, H a = some (.dK kvs) ∧ y = kV k ∧ kvs.length < sizeLine ∧ H' = upd H a (.dK (putK kvs k v))) ∨
  ∃ kvs k b, H a = some (.dT kvs) ∧ y = .ref b ∧ H b = some (.tup (k.map kV)) ∧ kvs.length < sizeLine ∧ H' = upd H a (.dT (putK kvs k v))
theorem DGet.k {H : Hp} {a : Addr} {kvs : List (Key × V)} {k : Key} (e : H a = some (.dK kvs)) : DGet H a (kV k) (valV kvs k) := .inl ⟨kvs, k, .inl e, rfl, rfl⟩
theorem DPut.k {H : Hp} {a : Addr} {kvs : List (Key × V)} {k : Key} {v : V} (e : H a = some (.dK kvs)) (hl : kvs.length < sizeLine) : DPut H a (kV k) v (upd H a (.dK (putK kvs k v))) := .inl ⟨kvs, k, e, rfl, hl, rfl⟩

section
variable {X : Cx} {pins : List (Addr × Obj)} {σ : St} {H : Hp} {s : Shared} {a : Addr} {y v : V} {u r : Value} {o : Option V} {A : Around} {E : Value → Shared → Prop}

theorem Inv.big (I : Inv X pins σ H s) : sysModules < s.heap.objs.size := by
  have h : mainGlobals < s.heap.objs.size := (I.mod.glob.keeps I.bk).lt
  exact Nat.lt_trans (by decide) h

/-- d[y], there -/
theorem d_getItem {Q : Value → Shared → Prop} (hu : A.units + 1 < cLine) (I : Inv X pins σ H s) (g : DGet H a y (some v)) (ry : RelV y u) (h : ∀ w' s', Inv X pins σ H s' → RelV v w' → Q w' s') :
    wpAny (model X.prog X.w) A (getItem (.ref a) u) Q E s := by
  rcases g with ⟨kvs, k, e, ey, l⟩ | ⟨kvs, k, b, e, ey, eb, l⟩
  · subst ey
    obtain ⟨z, hd, vs, rel, dd⟩ := dk_rd I.hok e
    obtain ⟨w', hw, rw'⟩ := RelO.some_of (v := v) (o := valueAt vs k) (by rw [l]; exact rel.val k)
    exact wpAny_getItem_of (kV_is ry) dd.mapOf hw (h w' _ (I.tok _) rw')
  · subst ey
    cases (show u = Value.ref b from ry)
    obtain ⟨z, hd, xs, rel, dd⟩ := dt_rd I.hok e
    obtain ⟨w', hw, rw'⟩ := RelO.some_of (v := v) (o := (atKey xs k).map (·.2)) (by rw [l]; exact rel.val k)
    obtain ⟨p, hp, hp2⟩ := Option.map_eq_some_iff.mp hw
    refine wpAny_getItem_heap (tupleKind_room_in1 hu) (key_of I.hok eb) dd hp ?_
    rw [hp2]
    exact h w' _ (I.tok _) rw'
/-- a dict's object is replaced -/
theorem d_write {h' : Heap} {t' : Nat} {ob : HO} (I : Inv X pins σ H s) (mu : Mut (H a)) (hs : Heap.SameBut a s.heap h') (he : ∃ q, h'.get? a = some q) (new : ObjOk X.prog X.w (upd H a ob) h' a ob) :
    Inv X pins σ (upd H a ob) { s with heap := h', toks := t' } :=
  I.write (x := a) (e := a) mu (.inl rfl) (fun b q hb z => (hs.2 b hb).trans z) he new
theorem dk_new {P : Program} {w : World} {H' : Hp} {h' : Heap} {kvs : List (Key × V)} {vs : List (Key × Value)} (z : kvs.length ≤ sizeLine) (hd : (a == sysModules) = false) (rel : KV kvs vs) (dd : h'.DictOf (mixKind P w) a vs) :
    ObjOk P w H' h' a (.dK kvs) := ⟨z, hd, vs, rel, dd⟩
/-- d[y] = v -/
theorem d_setItem {H' : Hp} {Q : Unit → Shared → Prop} (hu : A.units + 1 < cLine) (I : Inv X pins σ H s) (g : DPut H a y v H') (ry : RelV y u) (rv : RelV v r) (h : ∀ s', Inv X pins σ H' s' → Q () s') :
    wpAny (model X.prog X.w) A (setItem (.ref a) u r) Q E s := by
  rcases g with ⟨kvs, k, e, ey, l, eH⟩ | ⟨kvs, k, b, e, ey, eb, l, eH⟩
  · subst ey eH
    obtain ⟨z, hd, vs, rel, dd⟩ := dk_of I.hok e
    have hz : vs.length ≤ sizeLine := by rw [← rel.length]; exact z
    have hl : (putK kvs k v).length ≤ sizeLine := by have := length_putK kvs k v; omega
    refine wpAny_setItem_pairs (hsz := hz) (kV_is ry) dd fun h' dd' hs => h _ ?_
    have he : ∃ q, h'.get? a = some q := let ⟨q, _, _, hq, _⟩ := dd'; ⟨q, hq⟩
    exact d_write I (by rw [e]; exact True.intro) hs he (dk_new hl hd (rel.put k rv) dd')
  · subst ey eH
    cases (show u = Value.ref b from ry)
    obtain ⟨z, hd, xs, rel, dd⟩ := dt_of I.hok e
    have hz : xs.length ≤ sizeLine := by rw [← Paired.length rel]; exact z
    have hl : (putK kvs k v).length ≤ sizeLine := by have := length_putK kvs k v; omega
    refine wpAny_setItem_heap (hsz := hz) (tupleKind_room_in1 hu) (key_of I.hok eb) dd fun h' dd' hs => h _ ?_
    obtain ⟨q, es, ep, hq, h2, h3, h4, _, h5⟩ := dd'
    refine d_write I (by rw [e]; exact True.intro) hs ⟨q, hq⟩ ⟨hl, hd, _, (rel.put k eb rv).keeps fun c ys ec => ?_, q, es, ep, hq, h2, h3, h4, h5⟩
    rw [upd_ne (ne_of ec e (fun z => nomatch z))]
    exact ec
end

section
variable {X : Cx} {pins : List (Addr × Obj)} {σ : St} {H : Hp} {s : Shared} {a : Addr} {kvs : List (Key × V)} {k : Key} {u : Value} {A : Around} {E : Value → Shared → Prop}
end

/-- the element of a subscription, not a slice -/
def NoSl (i : Expr) : Prop := ∀ ov iv, subscripted i false ov iv = operate [ov, iv] (getItem ov iv)
theorem subD_of {prog : Program} {w : World} {A : Around} {E : Value → Shared → Prop} {s : Shared} {env : Env} {value slice : Expr} {pos : Pos} {T id : String} {Q : Value → Shared → Prop}
    (hl : typeLookup (.type T) "__getitem__" = pure (some (.builtin id))) (hs : NoSl slice)
    (h : wpAny (model prog w) A (eval value env) (fun o s₁ => wpAny (model prog w) A (eval slice env) (fun i s₂ => s₂.TypeIs o T ∧ wpAny (model prog w) A (getItem o i) Q E s₂) E s₁) E s) :
    wpAny (model prog w) A (eval (.Subscript value slice pos) env) Q E s := by
  refine Subscript_ (wpAny_mono h (fun o s₁ h₁ => wpAny_mono h₁ (fun i s₂ h₂ => ?_) fun _ _ x => x) fun _ _ x => x)
  obtain ⟨hT, h₂⟩ := h₂
  unfold subscriptTail
  refine wpAny_bind ?_
  rw [getitemInPython_of_ne hT.not_modules]
  refine wpAny_bind (wpAny_specialOf hT hl ?_)
  have fin : wpAny (model prog w) A (subscripted slice false o i) (fun r s₃ => wpAny (model prog w) A (letTemporaryGo value o r >>= fun _ => pure r) Q E s₃) E s₂ := by
    rw [hs o i]
    exact wpAny_operating (wpAny_mono h₂ (fun r s₃ h₃ => wpAny_bind (wpAny_letTemporaryGo (wpAny_pure h₃))) fun _ _ x => x)
  first
    | exact wpAny_pure (wpAny_bind fin)
    | exact wpAny_bind (wpAny_pure (wpAny_bind fin))
    | exact wpAny_bind fin

theorem dict_typeIs {X : Cx} {pins : List (Addr × Obj)} {σ : St} {H : Hp} {s : Shared} {a : Addr} {y : V} {o : Option V} (I : Inv X pins σ H s) (g : DGet H a y o) : s.TypeIs (.ref a) "dict" := by
  rcases g with ⟨kvs, k, e, _, _⟩ | ⟨kvs, k, b, e, _, _, _⟩
  · obtain ⟨_, _, vs, _, dd⟩ := dk_rd I.hok e
    exact dd.typeIs
  · obtain ⟨_, _, xs, _, dd⟩ := dt_rd I.hok e
    exact dd.typeIs

/-- d[y] -/
def tDGet (td ty : TE) : TE := fun σ H Q => td σ H fun x H1 => ty σ H1 fun y H2 => ∃ a v, x = .ref a ∧ DGet H2 a y (some v) ∧ Q v H2
/-- d[y] = v -/
def sDPut (td ty tv : TE) : TS := fun D σ H => tv σ H fun v H1 => td σ H1 fun x H2 => ty σ H2 fun y H3 => ∃ a H4, x = .ref a ∧ DPut H3 a y v H4 ∧ D.nx σ H4

section
variable {X : Cx} {o i e value : Expr} {pos pos' tpos : Pos} {td ty tv : TE}
theorem pe_dget (hu : X.A.units + 1 < cLine) (ho : PE X o td) (hi : PE X i ty) (hs : NoSl i) : PE X (.Subscript o i pos) (tDGet td ty) := by
  intro pins s σ H Q I h
  refine subD_of PySem.F.slot_dict_getitem.lookup hs (thn (ho pins s σ H _ I h) fun u s1 ⟨x, H1, I1, rx, q1⟩ => thn (hi pins s1 σ H1 _ I1 q1) fun iv s2 ⟨y, H2, I2, ry, a, v, ex, g, q2⟩ => ?_)
  subst ex
  obtain rfl : u = Value.ref a := rx
  exact ⟨dict_typeIs I2 g, d_getItem hu I2 g ry fun w' s3 I3 rw' => ⟨v, H2, I3, rw', q2⟩⟩
theorem ps_dput (hu : X.A.units + 1 < cLine) (ho : PE X o td) (hi : PE X i ty) (hv : PE X value tv) (hs : swapsWith value (some (.Subscript o i pos')) pos.line X.env = pure false) :
    PS X (.Assign [.Subscript o i pos'] value pos) (sDPut td ty tv) := by
  intro pins s σ H D I h
  refine wpAny_Assign_Subscript (thn (hv pins s σ H _ I h) fun r s1 ⟨v, H1, I1, rv, q1⟩ => thn (ho pins s1 σ H1 _ I1 q1) fun u s2 ⟨x, H2, I2, rx, q2⟩ => thn (hi pins s2 σ H2 _ I2 q2) fun iv s3 ⟨y, H3, I3, ry, a, H4, ex, g, q3⟩ => ?_) hs
  subst ex
  obtain rfl : u = Value.ref a := rx
  exact d_setItem hu I3 g ry rv fun s4 I4 => ⟨σ, H4, I4, q3⟩
end

theorem dk_empty {P : Program} {w : World} {H : Hp} (h : Heap) (hb : sysModules < h.objs.size) : ObjOk P w H (h.push { cls := .type "dict", data := .dict #[] }) h.objs.size (.dK []) :=
  ⟨Nat.zero_le _, beq_eq_false_iff_ne.mpr (Ne.symm (Nat.ne_of_lt hb)), [], .nil, Heap.DictOf.new h⟩
/-- {}, to be a dict of the kind that is wanted -/
def tDNewK : TE := fun _ H Q => ∀ p, H p = none → Q (.ref p) (upd H p (.dK []))
section
variable {X : Cx} {pos : Pos}
theorem pe_dnewK : PE X (.Dict [] [] pos) tDNewK := fun pins s σ H Q I h =>
  wpAny_Dict_empty ⟨.ref s.heap.objs.size, _, I.laid (a := s.heap.objs.size) (o := .dK []) (t' := s.toks) (fun _ _ q => Heap.get?_push_of_some _ q) (Nat.le_refl _) (dk_empty s.heap I.big), rfl, h _ (I.hok.fresh (Nat.le_refl _))⟩
end

/-- the pairs of a display, from the left -/
def tPairs : List (TE × TE) → St → Hp → (List (V × V) → Hp → Prop) → Prop
  | [], _, H, Q => Q [] H
  | (tk, tv) :: r, σ, H, Q => tk σ H fun x H1 => tv σ H1 fun y H2 => tPairs r σ H2 fun ps H3 => Q ((x, y) :: ps) H3
abbrev VV : List (V × V) → List (Value × Value) → Prop := Paired fun p q => RelV p.1 q.1 ∧ RelV p.2 q.2
def PPs (X : Cx) (pos : Pos) (keys : List (Option Expr)) (values : List Expr) (trs : List (TE × TE)) : Prop :=
  ∀ (pins : List (Addr × Obj)) (s : Shared) (σ : St) (H : Hp) (Q : List (V × V) → Hp → Prop), Inv X pins σ H s → tPairs trs σ H Q →
    wpAny (model X.prog X.w) X.A (evalPairs (pairTrees keys values X.env pos)) (fun vs s' => ∃ ps H', Inv X pins σ H' s' ∧ VV ps vs ∧ Q ps H') X.xe s
theorem pps_nil {X : Cx} {pos : Pos} : PPs X pos [] [] [] := fun pins s σ H Q I h => pairTrees_nil_walk ⟨[], H, I, .nil, h⟩
theorem pps_cons {X : Cx} {pos : Pos} {k v : Expr} {ks : List (Option Expr)} {vs : List Expr} {tk tv : TE} {trs : List (TE × TE)} (hk : PE X k tk) (hv : PE X v tv) (hr : PPs X pos ks vs trs) :
    PPs X pos (some k :: ks) (v :: vs) ((tk, tv) :: trs) := fun pins s σ H Q I h =>
  pairTrees_cons_walk (thn (hk pins s σ H _ I h) fun u s1 ⟨x, H1, I1, rx, q1⟩ => thn (hv pins s1 σ H1 _ I1 q1) fun w2 s2 ⟨y, H2, I2, ry, q2⟩ =>
    thn (hr pins s2 σ H2 _ I2 q2) fun ws s3 ⟨ps, H3, I3, rel, q3⟩ => ⟨(x, y) :: ps, H3, I3, .cons ⟨rx, ry⟩ rel, q3⟩)

def mergeK (kvs more : List (Key × V)) : List (Key × V) := more.foldl (fun acc kv => putK acc kv.1 kv.2) kvs
theorem KV.merge : ∀ {more : List (Key × V)} {rs : List (Key × Value)} {kvs : List (Key × V)} {vs : List (Key × Value)}, KV more rs → KV kvs vs → KV (mergeK kvs more) (merged vs rs) := by
  intro more rs kvs vs r
  unfold KV at r
  induction r generalizing kvs vs with
  | nil => intro q; exact q
  | @cons p q ps qs h t ih =>
    intro r0
    have e : KV (putK kvs p.1 p.2) (stored vs q.1 q.2) := by
      have := r0.put p.1 h.2
      rw [← h.1]; exact this
    exact ih e
theorem length_mergeK : ∀ (more kvs : List (Key × V)), (mergeK kvs more).length ≤ kvs.length + more.length
  | [], kvs => by show kvs.length ≤ kvs.length + 0; omega
  | p :: r, kvs => by
    have h1 := length_mergeK r (putK kvs p.1 p.2)
    have h2 := length_putK kvs p.1 p.2
    show (mergeK (putK kvs p.1 p.2) r).length ≤ _
    rw [List.length_cons]; omega
theorem carries_of {P : Program} {w : World} : ∀ {kvs : List (Key × V)} {ws : List (Value × Value)}, VV (kvs.map fun kv => (kV kv.1, kv.2)) ws → ∃ rs, Carries (mixKind P w) ws rs ∧ KV kvs rs
  | [], _, r => by rw [List.map_nil] at r; cases r; exact ⟨[], True.intro, .nil⟩
  | p :: kvs, _, r => by
    rw [List.map_cons] at r
    cases r with
    | @cons a b as bs h t =>
      obtain ⟨rs, c, q⟩ := carries_of (P := P) (w := w) t
      obtain ⟨b1, b2⟩ := b
      exact ⟨(p.1, b2) :: rs, ⟨kV_is h.1, rfl, c⟩, .cons ⟨rfl, h.2⟩ q⟩
/-- {k: v, ..} with keys ints and texts; the new dict stands empty while the pairs are made -/
def tDisp (trs : List (TE × TE)) : TE := fun σ H Q => ∀ p, H p = none → tPairs trs σ (upd H p (.dK [])) fun ps H2 => H2 p = some (.dK []) ∧ ∃ kvs : List (Key × V), ps = kvs.map (fun kv => (kV kv.1, kv.2)) ∧ kvs.length ≤ 15 ∧ Q (.ref p) (upd H2 p (.dK (mergeK [] kvs)))
theorem pe_disp {X : Cx} {pos : Pos} {keys : List (Option Expr)} {values : List Expr} {trs : List (TE × TE)} (h : PPs X pos keys values trs) (hall : keys.all (·.isSome) = true) (hl : keys.length = values.length) (h0 : keys ≠ [])
    (h15 : keys.length ≤ 15) : PE X (.Dict keys values pos) (tDisp trs) := by
  intro pins s σ H Q I q
  have hn := I.hok.fresh (Nat.le_refl s.heap.objs.size)
  have I1 := I.laid (a := s.heap.objs.size) (o := .dK []) (h' := s.heap.push { cls := .type "dict", data := .dict #[] }) (t' := s.toks) (fun _ _ q => Heap.get?_push_of_some _ q) (Nat.le_refl _) (dk_empty s.heap I.big)
  refine wpAny_Dict_walk (knd := mixKind X.prog X.w) hall hl h0 h15 (thn (h pins _ σ _ _ I1 (q _ hn)) fun ws s2 ⟨ps, H2, I2, rel, e, kvs, ep, lk, q2⟩ => ?_)
  subst ep
  obtain ⟨rs, c, rk⟩ := carries_of (P := X.prog) (w := X.w) rel
  obtain ⟨z, hd, vs0, r0, dd⟩ := dk_of I2.hok e
  cases r0
  refine ⟨rs, c, dd, fun h' dd' hs => ⟨.ref s.heap.objs.size, _, ?_, rfl, q2⟩⟩
  have hz : (mergeK [] kvs).length ≤ sizeLine := by
    have h1 := length_mergeK kvs []
    rw [List.length_nil] at h1
    rw [sizeLine_eq]; omega
  have he : ∃ q, h'.get? s.heap.objs.size = some q := let ⟨q, _, _, hq, _⟩ := dd'; ⟨q, hq⟩
  exact d_write I2 (by rw [e]; exact True.intro) hs he (dk_new hz hd (rk.merge .nil) dd')

structure M2 (X : Cx) (o : Expr) (m : Str) (apos : Pos) (e f : Expr) (cpos : Pos) : Prop where
  base : attributeBase o m X.env (eval o X.env) = eval o X.env
  few : ((backTo cpos (starEach [e, f] X.env)).all (fun x => !x.1) && (backToKw cpos (keywordEach [] X.env)).all (fun x => x.1.isSome)
    && decide (([e, f] : List Expr).length + ([] : List Keyword).length + (if ([] : List Keyword).isEmpty then 0 else 1) < 30)) = true
  line : (apos.endLine == cpos.line) = true
  trees : backTo cpos (starEach [e, f] X.env) = [(false, eval e X.env), (false, eval f X.env)]

/-- a is a dict, whatever its keys -/
def IsD (H : Hp) (a : Addr) : Prop := (∃ kvs, Rd H a (.dK kvs)) ∨ ∃ kvs, Rd H a (.dT kvs)
theorem isD_at {X : Cx} {pins : List (Addr × Obj)} {σ : St} {H : Hp} {s : Shared} {a : Addr} (I : Inv X pins σ H s) (d : IsD H a) :
    s.TypeIs (.ref a) "dict" ∧ (∀ b, Value.ref a = .ref b → ∃ ob, s.heap.get? b = some ob ∧ ob.dict = none) ∧ (a == sysModules) = false := by
  rcases d with ⟨kvs, e⟩ | ⟨kvs, e⟩
  · obtain ⟨_, hd, vs, _, dd⟩ := dk_rd I.hok e
    refine ⟨dd.typeIs, fun b q => ?_, hd⟩
    cases q
    obtain ⟨ob, _, _, h1, h2, _⟩ := dd
    exact ⟨ob, h1, h2.2.1⟩
  · obtain ⟨_, hd, xs, _, dd⟩ := dt_rd I.hok e
    refine ⟨dd.typeIs, fun b q => ?_, hd⟩
    cases q
    obtain ⟨ob, _, _, h1, h2, _⟩ := dd
    exact ⟨ob, h1, h2.2.1⟩

section
variable {X : Cx} {pins : List (Addr × Obj)} {σ : St} {H : Hp} {s : Shared} {a : Addr} {y d : V} {u r : Value} {o : Option V} {A : Around} {E : Value → Shared → Prop}
/-- d.get(y, x) -/
theorem d_get2 {Q : Value → Shared → Prop} (hu : A.units + 1 < cLine) (I : Inv X pins σ H s) (g : DGet H a y o) (ry : RelV y u) (rd : RelV d r) (h : ∀ w' s', Inv X pins σ H s' → RelV (o.getD d) w' → Q w' s') :
    wpAny (model X.prog X.w) A (call (.builtin "dict.get") [.ref a, u, r]) Q E s := by
  rcases g with ⟨kvs, k, e, ey, l⟩ | ⟨kvs, k, b, e, ey, eb, l⟩
  · subst ey
    obtain ⟨z, hd, vs, rel, dd⟩ := dk_rd I.hok e
    refine call_meetsIn PySem.F.slot_dict_get dd.typeIs PySem.F.entry_dict_get (PySem.F.args_dict_get_3 _ _ _) (meets_dict_get_default (mixKind X.prog X.w) a (kV_is ry) hd r) ⟨_, dd.mapOf, h _ _ (I.tok _) ?_⟩
    rw [l]
    exact (rel.val k).getD rd
  · subst ey
    cases (show u = Value.ref b from ry)
    obtain ⟨z, hd, xs, rel, dd⟩ := dt_rd I.hok e
    refine call_meetsIn PySem.F.slot_dict_get dd.typeIs PySem.F.entry_dict_get (PySem.F.args_dict_get_3 _ _ _) (meetsH_dict_get_default (tupleKind (mixKind X.prog X.w)) a b hd r) ⟨tupleKind_room_in1 hu, k, xs, key_of I.hok eb, dd, h _ _ (I.tok _) ?_⟩
    rw [l]
    exact (rel.val k).getD rd
end

def tDGet2 (td ty tx : TE) : TE := fun σ H Q => td σ H fun x H1 => ∃ a, x = .ref a ∧ IsD H1 a ∧ ty σ H1 fun y H2 => tx σ H2 fun z H3 => ∃ o, DGet H3 a y o ∧ Q (o.getD z) H3
section
variable {X : Cx} {o e f : Expr} {apos cpos : Pos} {td ty tx : TE}
theorem pe_dget2 (hu : X.A.units + 1 < cLine) (ho : PE X o td) (he : PE X e ty) (hf : PE X f tx) (m : M2 X o "get" apos e f cpos) : PE X (.Call (.Attribute o "get" apos) [e, f] [] cpos) (tDGet2 td ty tx) := by
  intro pins s σ H Q I h
  refine wpAny_Call_method m.base m.few m.line PySem.F.plainAttrs_dict PySem.F.slot_dict_get PySem.F.type_dict_get (thn (ho pins s σ H _ I h) fun u s1 ⟨x, H1, I1, rx, a, ex, d, q1⟩ => ?_)
  subst ex
  obtain rfl : u = Value.ref a := rx
  obtain ⟨t1, t2, _⟩ := isD_at I1 d
  refine ⟨t1, t2, ?_⟩
  rw [m.trees]
  refine Calls.callWith_builtin rfl (Calls.evalArgs_plain (Calls.spliced_cons (thn (he pins s1 σ H1 _ I1 q1) fun iv s2 ⟨y, H2, I2, ry, q2⟩ =>
    Calls.spliced_cons (thn (hf pins s2 σ H2 _ I2 q2) fun fv s3 ⟨z, H3, I3, rz, ov, g, q3⟩ => Calls.spliced_nil ?_))))
  exact d_get2 hu I3 g ry rz fun w' s4 I4 rw' => ⟨_, H3, I4, rw', q3⟩
end

section
variable {X : Cx} {pins : List (Addr × Obj)} {σ : St} {H : Hp} {s : Shared} {a : Addr} {kvs : List (Key × V)} {A : Around} {E : Value → Shared → Prop}
end

section
variable {X : Cx} {pins : List (Addr × Obj)} {σ : St} {H : Hp} {s : Shared} {a : Addr} {y : V} {u : Value} {A : Around} {E : Value → Shared → Prop}
end
end L2

namespace Att
open PySem PySem.W PySem.Calls PyProof.Rows

end Att

namespace L2
open PySem PySem.Spec PyProof.Rows

end L2

namespace L2
open PySem PySem.Spec PyProof.Rows

end L2

namespace L2
open PySem PySem.Spec PyProof.Rows

section
variable {X : Cx}
end

section
variable {κ : Type} [DecidableEq κ]
end
end L2

namespace L2
open PySem PySem.Spec PyProof.Rows
section
variable {D : Ends} {σ : St} {H : Hp} {Q : VK} {td ty tx tv : TE}
theorem rd_dnew (h : ∀ p, H p = none → Q (.ref p) (upd H p (.dK []))) : tDNewK σ H Q := h
theorem isDk {a : Addr} {kvs : List (Key × V)} (h : H a = some (.dK kvs)) : IsD H a := .inl ⟨kvs, .inl h⟩
end
end L2
namespace L2
open PySem PySem.Spec PyProof.Rows

/-! ### enumerate(list) -/
def Ite (K : PySem.W.Frag) (l : Addr) : It :=
  ⟨fun i H => ∃ xs x, SqL K H l xs ∧ xs[i]? = some x,
   fun i H v H' => ∃ T x, (∀ xs, SqL K H l xs → xs[i]? = some x) ∧ H T = none ∧ v = .ref T ∧ H' = upd H T (.tup [.int i, x]),
   fun i H => ∃ xs, SqL K H l xs ∧ xs.length ≤ i⟩
theorem turn_enum {P : Program} {w : World} {K : PySem.W.Frag} {es : List Expr} {x1} {pos : Pos} (l e it : Addr) (hne : e ≠ it) :
    Turn P w K (.Tuple es x1 pos) (Ite K l) [e, it] e (fun i h => (∃ old, IsEnum h e it (i : Int) old) ∧ h.IsListIter it l i) where
  mem := by simp
  obj := fun i h ⟨⟨old, h1⟩, h2⟩ c hc => by
    simp only [List.mem_cons, List.not_mem_nil, or_false] at hc
    rcases hc with rfl | rfl
    · exact ⟨_, h1, fun v z => by cases z⟩
    · obtain ⟨o, e, c, d⟩ := h2; exact ⟨o, e, fun v z => by rw [d] at z; cases z⟩
  keep := fun i h h' ⟨⟨old, h1⟩, h2⟩ k => ⟨⟨old, k e (by simp) _ h1⟩, h2.at fun o e => k it (by simp) o e⟩
  item := by
    intro X hP hw hK hc i pins s σ H E I hf ⟨⟨old, h1⟩, h2⟩ hg
    subst hP hw hK
    obtain ⟨xs, x, hq, hx⟩ := hg
    obtain ⟨its, rv, p, hz⟩ := I.list hq
    obtain ⟨u, hu, ru⟩ := rv.get hx
    have le : e < s.heap.objs.size := Heap.lt_size h1
    have li : it < s.heap.objs.size := by obtain ⟨o, e', _⟩ := id h2; exact Heap.lt_size e'
    refine wpAny_pyNext_enum_item h1 h2 p.isList (x := u) (by simpa using hu) hne fun h' he' hit' hT hsz hk => ?_
    refine ⟨.ref s.heap.objs.size, rfl, ?_⟩
    refine wpAny_letOwnedTupleGo_enum he' fun h'' he'' hs'' => ?_
    have hs'' : Heap.SameBut e h' h'' := hs''
    have k1 : ∀ c o, c ∉ ([e, it] : List Addr) → s.heap.get? c = some o → h''.get? c = some o := fun c o hc q => by
      simp only [List.mem_cons, List.not_mem_nil, or_false, not_or] at hc
      exact hs''.extBut _ _ hc.1 (hk c o hc.1 hc.2 q)
    have hn : H s.heap.objs.size = none := I.hok.fresh (Nat.le_refl _)
    have I1 : Inv X pins σ H { s with heap := h'', toks := s.toks + 1 } := I.turnedL k1 hf
    have hT'' : IsPair h'' s.heap.objs.size (.int i s.toks) u := hs''.extBut _ _ (Nat.ne_of_gt le) hT
    have I2 : Inv X pins σ (upd H s.heap.objs.size (.tup [.int i, x])) { s with heap := h'', toks := s.toks + 1 } := by
      refine I.step (g' := s.gens) (d' := s.drawn) (ch := [e, it]) (fun b hb => ?_) (fun b o _ _ hc e _ => k1 b o hc e) (fun b o _ _ hc e _ => ⟨o.slots, k1 b o hc e⟩) (fun b o hc e n => ?_)
        (fun b o hc e => ⟨o, k1 b o hc e⟩) (fun b ys e => ?_) (fun b o u e => ?_) (fun b ps e => ⟨#[], ?_⟩) (fun m hm => ?_) (fun b o e => ?_) I.bare
      · obtain ⟨f0, f1, f2, f3, f4, f5⟩ := hf b hb
        exact ⟨f3, f1, f4, f5⟩
      · rw [upd_ne (Nat.ne_of_lt (Heap.lt_size e))]; exact n
      · rw [upd_ne (ne_of_none e hn)]; exact e
      · rw [upd_ne (ne_of_none e hn)]; exact e
      · rw [upd_ne (ne_of_none e hn), e]; simp
      · obtain ⟨o, es', ep, ho, r⟩ := hm
        exact ⟨o, es', ep, k1 _ o (fun z => (hf _ z).2.1 rfl) ho, r⟩
      · by_cases hb : b = s.heap.objs.size
        · subst hb
          rw [upd_same] at e
          cases e
          exact ⟨(by show 2 ≤ sizeLine; decide), [.int i s.toks, u], .cons ⟨_, rfl⟩ (.cons ru .nil), ⟨_, hT'', rfl, _, rfl⟩⟩
        · rw [upd_ne hb] at e
          refine (I1.hok b o e).stay (fun c v hc q => q) (fun c q => by rw [upd_ne (ne_of_none q hn)]; exact q) fun c ys q => by rw [upd_ne (ne_of_none q hn)]; exact q
    refine ⟨.ref s.heap.objs.size, _, I2, rfl, ⟨_, x, fun ys hy => by rw [I.list_inj hy hq]; exact hx, hn, rfl, rfl⟩, ⟨⟨u, by simpa using he''⟩, hit'.at fun o q => hs''.extBut _ _ (Ne.symm hne) q⟩, fun c hc => ?_⟩
    simp only [List.mem_cons, List.not_mem_nil, or_false] at hc
    rcases hc with rfl | rfl
    · rw [upd_ne (Nat.ne_of_lt le)]; exact (hf _ (by simp)).1
    · rw [upd_ne (Nat.ne_of_lt li)]; exact (hf _ (by simp)).1
  done := by
    intro X hP hw hK hc i pins s σ H E I hf ⟨⟨old, h1⟩, h2⟩ hg
    subst hP hw hK
    obtain ⟨xs, hq, hx⟩ := hg
    obtain ⟨its, rv, p, hz⟩ := I.list hq
    have hl := rv.length
    refine wpAny_pyNext_enum_end (I.ok.hd hc) h1 h2 p.isList (by simp; omega) fun h' eb => ⟨rfl, I.turnedL (t' := s.toks) (fun c o hc q => ?_) hf⟩
    simp only [List.mem_cons, List.not_mem_nil, or_false, not_or] at hc
    exact eb c o hc.2 q
  self := fun _ _ _ _ _ ⟨⟨old, h1⟩, _⟩ h => wpAny_pyIter_enum h1 h
theorem boot_enum : bootBuiltins "enumerate" = some (.type "enumerate") := by decide +kernel
section
variable {X : Cx}
def iEnum (K : PySem.W.Frag) (ta : TA) : TI := fun σ H R => ta σ H fun vs H1 => ∃ l xs, vs = [.ref l] ∧ SqL K H1 l xs ∧ R (Ite K l) H1
theorem pi_enum {es : List Expr} {x1} {tpos : Pos} {a : Expr} {ta : TA} {p pos : Pos} (hg : Gl X "enumerate") (hm : X.mg "enumerate" = none) (ha : PA X [a] ta) (hs : starEach [a] X.env = [(false, eval a X.env)] := by rfl) :
    PI X (.Tuple es x1 tpos) (.Call (.Name "enumerate" p) [a] [] pos) (iEnum X.K ta) := by
  intro pins s σ H R I h
  refine Call_ (ld_blt I hg hm boot_enum (PyProof.Rows.callWith_type1 (thn (ha pos pins s σ H _ I h) fun us s1 ⟨vs, H1, I1, r1, q1⟩ => ?_) hs rfl))
  obtain ⟨l, xs, e, ok, q⟩ := q1
  subst e
  cases r1 with
  | cons r rr =>
    cases rr
    cases r
    obtain ⟨its, rv, pl, hz⟩ := I1.list ok
    refine call_enumerate_list pl.isList fun h' he hit hsz kp => ?_
    refine wpAny_pyIter_enum he ?_
    have I5 : Inv X pins σ H1 { s1 with heap := h' } := I1.kept (t' := s1.toks) kp
    refine ⟨s1.heap.objs.size + 1, [s1.heap.objs.size + 1, s1.heap.objs.size], _, _, H1, rfl, I5, turn_enum l _ _ (by show (_ : Nat) ≠ _; omega), ⟨⟨_, he⟩, hit⟩, fun b hb => ?_, q⟩
    have hb' : s1.heap.objs.size ≤ b := by
      simp only [List.mem_cons, List.not_mem_nil, or_false] at hb
      rcases hb with rfl | rfl
      · show s1.heap.objs.size ≤ s1.heap.objs.size + 1; omega
      · exact Nat.le_refl _
    exact I1.fpOk hb' (I1.hok.fresh hb')
end
end L2
namespace L2
open PySem PySem.Spec PyProof.Rows
section
variable {X : Cx}
end
/-! ### comprehensions by an invariant -/
section
variable {K : PySem.W.Frag} {g : TG} {tc : TC} {D : Addr} {σ0 : St} {H0 : Hp} {Q : Hp → Prop}
theorem comp_n {J : It} {n : Nat} (Pv : Nat → St → Hp → Prop) (h0 : Pv 0 σ0 H0) (hgo : ∀ i σ H, i < n → Pv i σ H → J.go i H) (hst : ∀ σ H, Pv n σ H → J.stop n H)
    (step : ∀ i σ H x H2, i < n → Pv i σ H → J.yld i H x H2 → ∀ R : St → Hp → Prop, (∀ σ3 H4, Pv (i + 1) σ3 H4 → R σ3 H4) → g x σ H2 fun σ3 H3 => tc D σ3 H3 fun H4 => R σ3 H4)
    (done : ∀ σ H, Pv n σ H → Q H) :
    ∃ W : Nat → Nat → St → Hp → Prop, (∃ m, W 0 m σ0 H0) ∧ ∀ i m σ' H', W i m σ' H' → (J.stop i H' ∧ Q H') ∨ (J.go i H' ∧ ∀ x H2, J.yld i H' x H2 → g x σ' H2 fun σ3 H3 => tc D σ3 H3 fun H4 => ∃ m', m' < m ∧ W (i + 1) m' σ3 H4) := by
  refine ⟨fun i m σ H => m = n - i ∧ i ≤ n ∧ Pv i σ H, ⟨n, by simp, Nat.zero_le _, h0⟩, ?_⟩
  rintro i m σ H ⟨rfl, hi, p⟩
  by_cases hlt : i < n
  · exact .inr ⟨hgo i σ H hlt p, fun x H2 y => step i σ H x H2 hlt p y _ fun σ3 H4 q => ⟨n - (i + 1), by omega, rfl, hlt, q⟩⟩
  · have e : i = n := by omega
    subst e
    exact .inl ⟨hst σ H p, done σ H p⟩
theorem comp_range {lo : Int} {n : Nat} (Pv : Nat → St → Hp → Prop) (h0 : Pv 0 σ0 H0)
    (step : ∀ i σ H, i < n → Pv i σ H → ∀ R : St → Hp → Prop, (∀ σ3 H4, Pv (i + 1) σ3 H4 → R σ3 H4) → g (.int (lo + i)) σ H fun σ3 H3 => tc D σ3 H3 fun H4 => R σ3 H4)
    (done : ∀ σ H, Pv n σ H → Q H) :
    ∃ W : Nat → Nat → St → Hp → Prop, (∃ m, W 0 m σ0 H0) ∧ ∀ i m σ' H', W i m σ' H' → ((Itr lo n).stop i H' ∧ Q H') ∨ ((Itr lo n).go i H' ∧ ∀ x H2, (Itr lo n).yld i H' x H2 → g x σ' H2 fun σ3 H3 => tc D σ3 H3 fun H4 => ∃ m', m' < m ∧ W (i + 1) m' σ3 H4) :=
  comp_n (n := n) Pv h0 (fun i σ H h p => h) (fun σ H p => Nat.le_refl _)
    (fun i σ H x H2 h p y R hR => by
      obtain ⟨e, y⟩ := y
      subst e y
      exact step i σ _ h p R hR) done
theorem comp_enum {l : Addr} {xs : List V} (Pv : Nat → St → Hp → Prop) (h0 : Pv 0 σ0 H0) (hl : ∀ i σ H, Pv i σ H → SqL K H l xs)
    (step : ∀ i σ H x T, xs[i]? = some x → Pv i σ H → H T = none → ∀ R : St → Hp → Prop, (∀ σ3 H4, Pv (i + 1) σ3 H4 → R σ3 H4) → g (.ref T) σ (upd H T (.tup [.int i, x])) fun σ3 H3 => tc D σ3 H3 fun H4 => R σ3 H4)
    (done : ∀ σ H, Pv xs.length σ H → Q H) :
    ∃ W : Nat → Nat → St → Hp → Prop, (∃ m, W 0 m σ0 H0) ∧ ∀ i m σ' H', W i m σ' H' → ((Ite K l).stop i H' ∧ Q H') ∨ ((Ite K l).go i H' ∧ ∀ x H2, (Ite K l).yld i H' x H2 → g x σ' H2 fun σ3 H3 => tc D σ3 H3 fun H4 => ∃ m', m' < m ∧ W (i + 1) m' σ3 H4) :=
  comp_n (n := xs.length) Pv h0 (fun i σ H h p => ⟨xs, xs[i], hl i σ H p, by simp [h]⟩) (fun σ H p => ⟨xs, hl _ σ H p, Nat.le_refl _⟩)
    (fun i σ H x H2 h p y R hR => by
      obtain ⟨T, v, y, hn, e1, e2⟩ := y
      subst e1 e2
      exact step i σ H v T (y xs (hl i σ H p)) p hn R hR) done
end
end L2
namespace L2
open PySem PySem.Spec PyProof.Rows
/-! ### range(i, j, c) with a step -/
def Its (lo c : Int) (n : Nat) : It := ⟨fun i _ => i < n, fun i H x H' => H' = H ∧ x = .int (lo + i * c), fun i _ => n ≤ i⟩
theorem turn_step {P : Program} {w : World} {K : PySem.W.Frag} {tg : Expr} (it : Addr) (lo c : Int) (n : Nat) : Turn P w K tg (Its lo c n) [it] it (fun i h => IsRangeIter h it (lo + (i : Nat) * c) ((n : Int) - (i : Nat)) c) where
  mem := by simp
  obj := fun i h st b hb => by
    have e : b = it := by simpa using hb
    subst e
    exact ⟨_, st, fun v z => by
      have z' : Data.fields _ = Data.cell v := z
      cases z'⟩
  keep := fun i h h' st k => k it (by simp) _ st
  item := by
    intro X hP hw hK hc i pins s σ H E I hf st hg
    subst hP hw hK
    obtain ⟨f0, f1, f2, f3, f4, f5⟩ := hf it (by simp)
    have W := Walks.range (prog := X.prog) (w := X.w) (I.ok.hd hc) it lo c n
    refine W.item i s _ _ hg st fun v h' tk hv st' kk => ?_
    obtain ⟨t, rfl⟩ := hv
    have I1 : Inv X pins σ H { s with heap := h', toks := tk } := I.turned (fun b o hb e => kk b o (by simpa using hb) e) f0 f1 f3 f4 f5
    exact ⟨_, rfl, go_of (s := { s with heap := h', toks := tk }) (n := "range_iterator") st' rfl rfl (by decide) ⟨.int (lo + i * c), H, I1, ⟨t, rfl⟩, ⟨rfl, rfl⟩, st', fun b hb => (hf b hb).1⟩⟩
  done := by
    intro X hP hw hK hc i pins s σ H E I hf st hg
    subst hP hw hK
    obtain ⟨f0, f1, f2, f3, f4, f5⟩ := hf it (by simp)
    exact wpAny_pyNext_range_end (I.ok.hd hc) st (by have : n ≤ i := hg; omega) fun h' eb => ⟨rfl, I.turned (t' := s.toks) (fun b o hb e => eb b o hb e) f0 f1 f3 f4 f5⟩
  self := fun _ _ _ _ _ st h => wpAny_pyIter_rangeiter st h
section
variable {X : Cx} {tg : Expr}
def iRng3 (ta : TA) : TI := fun σ H R => ta σ H fun vs H1 => ∃ (i j c : Int) (n : Nat), vs = [.int i, .int j, .int c] ∧ (-1000000 ≤ i ∧ i ≤ 1000000 ∧ -1000000 ≤ j ∧ j ≤ 1000000 ∧ 0 < c ∧ c ≤ 1000) ∧ Builtin.Range.rangeSize i j c = (n : Int) ∧ R (Its i c n) H1
theorem small_step {a b c : Int} (h1 : -1000000 ≤ a) (h2 : a ≤ 1000000) (h3 : -1000000 ≤ b) (h4 : b ≤ 1000000) (h5 : 0 < c) (h6 : c ≤ 1000) : Builtin.Range.small a b c = true := by
  have d0 : 0 ≤ (if a < b then (b - a - 1) / c + 1 else 0) ∧ (if a < b then (b - a - 1) / c + 1 else 0) ≤ 3000000 := by
    split
    · have x1 : 0 ≤ (b - a - 1) / c := Int.ediv_nonneg (by omega) (by omega)
      have x2 : (b - a - 1) / c ≤ b - a - 1 := Int.ediv_le_self _ (by omega)
      omega
    · omega
  have d1 : (if a < b then (b - a - 1) / c + 1 else 0) * c ≤ 3000000000 ∧ 0 ≤ (if a < b then (b - a - 1) / c + 1 else 0) * c := by
    generalize (if a < b then (b - a - 1) / c + 1 else 0) = n at *
    exact ⟨Int.le_trans (Int.mul_le_mul d0.2 h6 (by omega) (by omega)) (by decide), Int.mul_nonneg d0.1 (by omega)⟩
  unfold Builtin.Range.small
  unfold Builtin.Range.rangeSize
  rw [if_pos h5]
  generalize (if a < b then (b - a - 1) / c + 1 else 0) = n at *
  simp only [Builtin.Range.rangeFitsLong, Bool.and_eq_true, Bool.or_eq_true, decide_eq_true_eq, beq_iff_eq, if_pos h5]
  omega
theorem pi_range3 {a b c : Expr} {ta : TA} {p pos : Pos} (hg : Gl X "range") (hm : X.mg "range" = none) (ha : PA X [a, b, c] ta) (hs : starEach [a, b, c] X.env = [(false, eval a X.env), (false, eval b X.env), (false, eval c X.env)] := by rfl)
    (hs2 : starEach [b, c] X.env = [(false, eval b X.env), (false, eval c X.env)] := by rfl) :
    PI X tg (.Call (.Name "range" p) [a, b, c] [] pos) (iRng3 ta) := by
  intro pins s σ H R I h
  refine Call_ (ld_blt I hg hm boot_range (PyProof.Rows.callWith_type1 (thn (ha pos pins s σ H _ I h) fun us s1 ⟨vs, H1, I1, r1, q1⟩ => ?_) (by rw [hs, hs2]) (by rw [hs2]; rfl)))
  obtain ⟨i, j, k, n, e, ⟨b1, b2, b3, b4, b5, b6⟩, hn, q⟩ := q1
  subst e
  cases r1 with
  | cons r rr =>
    cases rr with
    | cons r' rr =>
      cases rr with
      | cons r'' rr =>
        cases rr
        obtain ⟨t, rfl⟩ := r
        obtain ⟨t', rfl⟩ := r'
        obtain ⟨t'', rfl⟩ := r''
        refine call_range_3 (by omega) ?_ (Or.inl (PyProof.noPylong_small (by omega)))
        refine wpAny_pyIter_range (IsRange.new ..) (small_step b1 b2 b3 b4 b5 b6) ?_
        have I1' : Inv X pins σ H1 { s1 with heap := s1.heap.push { cls := .type "range", data := .fields #[.int i t, .int j t', .int k t''] }, toks := s1.toks } := I1.kept fun b o e => Heap.get?_push_of_some _ e
        refine ⟨(s1.heap.push { cls := .type "range", data := .fields #[.int i t, .int j t', .int k t''] }).objs.size, [(s1.heap.push { cls := .type "range", data := .fields #[.int i t, .int j t', .int k t''] }).objs.size], _, _, H1, rfl,
          I1'.kept (t' := s1.toks) fun b o e => Heap.get?_push_of_some _ e, turn_step _ i k n, ?_, fun b hb => ?_, q⟩
        · have e1 : i + ((0 : Nat) : Int) * k = i := by simp
          have e2 : (n : Int) - ((0 : Nat) : Int) = Builtin.Range.rangeSize i j k := by rw [hn]; simp
          show IsRangeIter _ _ (i + ((0 : Nat) : Int) * k) ((n : Int) - ((0 : Nat) : Int)) k
          rw [e1, e2]
          exact Heap.get?_push_size _ rfl
        · have e : b = (s1.heap.push { cls := .type "range", data := .fields #[.int i t, .int j t', .int k t''] }).objs.size := by simpa using hb
          subst e
          exact I1'.fpOk (Nat.le_refl _) (I1'.hok.fresh (Nat.le_refl _))
end
section
variable {K : PySem.W.Frag} {g : TG} {tc : TC} {D : Addr} {σ0 : St} {H0 : Hp} {Q : Hp → Prop}
theorem comp_step {lo c : Int} {n : Nat} (Pv : Nat → St → Hp → Prop) (h0 : Pv 0 σ0 H0)
    (step : ∀ i σ H, i < n → Pv i σ H → ∀ R : St → Hp → Prop, (∀ σ3 H4, Pv (i + 1) σ3 H4 → R σ3 H4) → g (.int (lo + i * c)) σ H fun σ3 H3 => tc D σ3 H3 fun H4 => R σ3 H4)
    (done : ∀ σ H, Pv n σ H → Q H) :
    ∃ W : Nat → Nat → St → Hp → Prop, (∃ m, W 0 m σ0 H0) ∧ ∀ i m σ' H', W i m σ' H' → ((Its lo c n).stop i H' ∧ Q H') ∨ ((Its lo c n).go i H' ∧ ∀ x H2, (Its lo c n).yld i H' x H2 → g x σ' H2 fun σ3 H3 => tc D σ3 H3 fun H4 => ∃ m', m' < m ∧ W (i + 1) m' σ3 H4) :=
  comp_n (n := n) Pv h0 (fun i σ H h p => h) (fun σ H p => Nat.le_refl _)
    (fun i σ H x H2 h p y R hR => by
      obtain ⟨e, y⟩ := y
      subst e y
      exact step i σ _ h p R hR) done
end
end L2
namespace L2
open PySem PySem.Spec PyProof.Rows

/-! ### a module's dict of texts by texts -/

section
variable {X : Cx} {o i e : Expr} {pos : Pos} {ti : TE} {c : Addr} {kvs : List (Str × Str)}

/-! ### is, is not of truths -/

/-! ### repr of data -/

/-! ### a, b, .. = a list -/
theorem swaps_dict {ks : List (Option Expr)} {vs : List Expr} {p : Pos} {tg : Option Expr} {l : Nat} {env : Env} : swapsWith (.Dict ks vs p) tg l env = pure false := rfl
end
end L2
set_option Elab.async false
set_option linter.all false
set_option maxRecDepth 100000
set_option maxHeartbeats 4000000
namespace Np
open PySem L2
def top (i : Nat) : Stmt := PySem.Challenge.pw_nearpool_k36_typed_cells_run.main.body.getD i (.Pass ⟨0, 0, 0, 0⟩)
abbrev s_pair_seen : Stmt := top 22
abbrev s_nil_seen : Stmt := top 23
abbrev s_lone_seen : Stmt := top 24
abbrev s_two_seen : Stmt := top 25
abbrev s_pool_seen : Stmt := top 26
abbrev s_seen_at : Stmt := top 27
abbrev s_carry_out : Stmt := top 29
abbrev s_jumps_now : Stmt := top 30
abbrev s_word_at : Stmt := top 32
abbrev s_past_overs : Stmt := top 33
abbrev s_row_at : Stmt := top 34
abbrev s_run : Stmt := top 35
abbrev s_cell_at : Stmt := top 37
abbrev s_tape : Stmt := top 38
abbrev s_take : Stmt := top 39
abbrev s_great : Stmt := top 40
abbrev s_same : Stmt := top 41
abbrev s_single : Stmt := top 42
abbrev s_double : Stmt := top 43
abbrev s_seen : Stmt := top 44
abbrev s_word : Stmt := top 45
abbrev s_machine : Stmt := top 46
abbrev s_typed : Stmt := top 47
abbrev s_unit : Stmt := top 48
abbrev s_law : Stmt := top 49
theorem sc_pair_seen : FnScope ["word", "rest", "one", "other"] ["word", "rest"] (defScope s_pair_seen) := ⟨rfl, rfl, rfl, by decide +kernel, rfl, by decide +kernel, by decide +kernel⟩
theorem sc_nil_seen : FnScope ["cell", "place", "lowest", "one", "step"] ["cell", "place"] (defScope s_nil_seen) := ⟨rfl, rfl, rfl, by decide +kernel, rfl, by decide +kernel, by decide +kernel⟩
theorem sc_lone_seen : FnScope ["cell", "place"] ["cell", "place"] (defScope s_lone_seen) := ⟨rfl, rfl, rfl, by decide +kernel, rfl, by decide +kernel, by decide +kernel⟩
theorem sc_two_seen : FnScope ["cell", "second", "place"] ["cell", "second", "place"] (defScope s_two_seen) := ⟨rfl, rfl, rfl, by decide +kernel, rfl, by decide +kernel, by decide +kernel⟩
theorem sc_pool_seen : FnScope ["cells", "place", "begin", "end", "numbers"] ["cells", "place"] (defScope s_pool_seen) := ⟨rfl, rfl, rfl, by decide +kernel, rfl, by decide +kernel, by decide +kernel⟩
theorem sn_pool_seen_0 : CompOk ["at", "cells"] 1 [0] ["cells", "place", "begin", "end", "numbers"] ((compsS 40 s_pool_seen).getD 0 noScope) (defScope s_pool_seen) := ⟨⟨rfl, by decide +kernel, by decide +kernel, rfl, compOut (by decide +kernel), by decide +kernel, by decide +kernel⟩, by decide +kernel⟩
theorem sc_seen_at : FnScope ["cells", "place", "cell", "lone", "two"] ["cells", "place"] (defScope s_seen_at) := ⟨rfl, rfl, rfl, by decide +kernel, rfl, by decide +kernel, by decide +kernel⟩
theorem sc_carry_out : FnScope ["row", "held", "told", "word"] ["row", "held", "told"] (defScope s_carry_out) := ⟨rfl, rfl, rfl, by decide +kernel, rfl, by decide +kernel, by decide +kernel⟩
theorem sc_jumps_now : FnScope ["row", "held"] ["row", "held"] (defScope s_jumps_now) := ⟨rfl, rfl, rfl, by decide +kernel, rfl, by decide +kernel, by decide +kernel⟩
theorem sc_word_at : FnScope ["cells", "begin", "at", "seen"] ["cells", "begin", "at"] (defScope s_word_at) := ⟨rfl, rfl, rfl, by decide +kernel, rfl, by decide +kernel, by decide +kernel⟩
theorem sc_past_overs : FnScope ["cells", "place", "seen"] ["cells", "place"] (defScope s_past_overs) := ⟨rfl, rfl, rfl, by decide +kernel, rfl, by decide +kernel, by decide +kernel⟩
theorem sc_row_at : FnScope ["cells", "place", "seen", "row", "behind", "number"] ["cells", "place"] (defScope s_row_at) := ⟨rfl, rfl, rfl, by decide +kernel, rfl, by decide +kernel, by decide +kernel⟩
theorem sc_run : FnScope ["cells", "most", "held", "told", "trace", "place", "found", "row", "behind"] ["cells", "most"] (defScope s_run) := ⟨rfl, rfl, rfl, by decide +kernel, rfl, by decide +kernel, by decide +kernel⟩
theorem sc_cell_at : FnScope ["_law_script", "_law_k"] ["_law_script", "_law_k"] (defScope s_cell_at) := ⟨rfl, rfl, rfl, by decide +kernel, rfl, by decide +kernel, by decide +kernel⟩
theorem sc_tape : FnScope ["_law_script", "_law_k", "_law_cell"] ["_law_script", "_law_k"] (defScope s_tape) := ⟨rfl, rfl, rfl, by decide +kernel, rfl, by decide +kernel, by decide +kernel⟩
theorem sc_take : FnScope ["_law_tape_here", "_law_many", "_law_found", "_law_once"] ["_law_tape_here", "_law_many"] (defScope s_take) := ⟨rfl, rfl, rfl, by decide +kernel, rfl, by decide +kernel, by decide +kernel⟩
theorem sc_great : FnScope ["_law_tape_here", "_law_way", "_law_any_one"] ["_law_tape_here"] (defScope s_great) := ⟨rfl, rfl, rfl, by decide +kernel, rfl, by decide +kernel, by decide +kernel⟩
theorem sc_same : FnScope ["_law_found", "_law_due"] ["_law_found", "_law_due"] (defScope s_same) := ⟨rfl, rfl, rfl, by decide +kernel, rfl, by decide +kernel, by decide +kernel⟩
theorem sn_same_0 : CompOk ["_law_one", "_law_other"] 2 [] ["_law_found", "_law_due"] ((compsS 40 s_same).getD 0 noScope) (defScope s_same) := ⟨⟨rfl, by decide +kernel, by decide +kernel, rfl, compOut (by decide +kernel), by decide +kernel, by decide +kernel⟩, by decide +kernel⟩
theorem sc_single : FnScope ["_law_code", "_law_p", "_law_r", "_law_word_here", "_law_base"] ["_law_code", "_law_p"] (defScope s_single) := ⟨rfl, rfl, rfl, by decide +kernel, rfl, by decide +kernel, by decide +kernel⟩
theorem sc_double : FnScope ["_law_code", "_law_second", "_law_p", "_law_r"] ["_law_code", "_law_second", "_law_p"] (defScope s_double) := ⟨rfl, rfl, rfl, by decide +kernel, rfl, by decide +kernel, by decide +kernel⟩
theorem sc_seen : FnScope ["_law_cells", "_law_p", "_law_code", "_law_many", "_law_numbers", "_law_thing"] ["_law_cells", "_law_p"] (defScope s_seen) := ⟨rfl, rfl, rfl, by decide +kernel, rfl, by decide +kernel, by decide +kernel⟩
theorem sn_seen_0 : CompOk ["_law_k", "_law_numbers"] 1 [4] ["_law_cells", "_law_p", "_law_code", "_law_many", "_law_numbers", "_law_thing"] ((compsS 40 s_seen).getD 0 noScope) (defScope s_seen) := ⟨⟨rfl, by decide +kernel, by decide +kernel, rfl, compOut (by decide +kernel), by decide +kernel, by decide +kernel⟩, by decide +kernel⟩
theorem sc_word : FnScope ["_law_cells", "_law_b", "_law_k", "_law_pool"] ["_law_cells", "_law_b", "_law_k"] (defScope s_word) := ⟨rfl, rfl, rfl, by decide +kernel, rfl, by decide +kernel, by decide +kernel⟩
theorem sc_machine : FnScope ["_law_cells", "_law_most", "_law_registers", "_law_told", "_law_trace", "_law_p", "_law_seen_here", "_law_thing", "_law_behind", "_law_number", "_law_other", "_law_here"] ["_law_cells", "_law_most"] (defScope s_machine) := ⟨rfl, rfl, rfl, by decide +kernel, rfl, by decide +kernel, by decide +kernel⟩
theorem sc_typed : FnScope ["_law_tape_here", "_law_units", "_law_many", "_law_turn", "_law_way", "_law_r", "_law_s", "_law_small", "_law_q", "_law_some", "_law_numbers", "_law_sizes", "_law_places", "_law_unit_here", "_law_size", "_law_pools", "_law_cells", "_law_at"] ["_law_tape_here"] (defScope s_typed) := ⟨rfl, rfl, rfl, by decide +kernel, rfl, by decide +kernel, by decide +kernel⟩
theorem sn_typed_0 : CompOk ["_law_word_here", "_law_tape_here"] 1 [0] ["_law_tape_here", "_law_units", "_law_many", "_law_turn", "_law_way", "_law_r", "_law_s", "_law_small", "_law_q", "_law_some", "_law_numbers", "_law_sizes", "_law_places", "_law_unit_here", "_law_size", "_law_pools", "_law_cells", "_law_at"] ((compsS 40 s_typed).getD 0 noScope) (defScope s_typed) := ⟨⟨rfl, by decide +kernel, by decide +kernel, rfl, compOut (by decide +kernel), by decide +kernel, by decide +kernel⟩, by decide +kernel⟩
theorem sn_typed_1 : CompOk ["_law_at", "_law_unit_here", "_law_places"] 2 [12] ["_law_tape_here", "_law_units", "_law_many", "_law_turn", "_law_way", "_law_r", "_law_s", "_law_small", "_law_q", "_law_some", "_law_numbers", "_law_sizes", "_law_places", "_law_unit_here", "_law_size", "_law_pools", "_law_cells", "_law_at"] ((compsS 40 s_typed).getD 1 noScope) (defScope s_typed) := ⟨⟨rfl, by decide +kernel, by decide +kernel, rfl, compOut (by decide +kernel), by decide +kernel, by decide +kernel⟩, by decide +kernel⟩
theorem sc_unit : FnScope ["_law_tape_here", "_law_unit_here", "_law_places", "_law_at", "_law_pools", "_law_p", "_law_far", "_law_b", "_law_numbers", "_law_cells", "_law_number"] ["_law_tape_here", "_law_unit_here", "_law_places", "_law_at", "_law_pools"] (defScope s_unit) := ⟨rfl, rfl, rfl, by decide +kernel, rfl, by decide +kernel, by decide +kernel⟩
theorem sc_law : FnScope ["_law_script", "_law_k", "_law_tape_here", "_law_cells", "_law_kept", "_law_most", "_law_due", "_law_turn", "_law_found"] ["_law_script"] (defScope s_law) := ⟨rfl, rfl, rfl, by decide +kernel, rfl, by decide +kernel, by decide +kernel⟩
structure Adr where
  f_pair_seen : Addr
  d_pair_seen : FuncData
  f_nil_seen : Addr
  d_nil_seen : FuncData
  f_lone_seen : Addr
  d_lone_seen : FuncData
  f_two_seen : Addr
  d_two_seen : FuncData
  f_pool_seen : Addr
  d_pool_seen : FuncData
  f_seen_at : Addr
  d_seen_at : FuncData
  f_carry_out : Addr
  d_carry_out : FuncData
  f_jumps_now : Addr
  d_jumps_now : FuncData
  f_word_at : Addr
  d_word_at : FuncData
  f_past_overs : Addr
  d_past_overs : FuncData
  f_row_at : Addr
  d_row_at : FuncData
  f_run : Addr
  d_run : FuncData
  f_cell_at : Addr
  d_cell_at : FuncData
  f_tape : Addr
  d_tape : FuncData
  f_take : Addr
  d_take : FuncData
  f_great : Addr
  d_great : FuncData
  f_same : Addr
  d_same : FuncData
  f_single : Addr
  d_single : FuncData
  f_double : Addr
  d_double : FuncData
  f_seen : Addr
  d_seen : FuncData
  f_word : Addr
  d_word : FuncData
  f_machine : Addr
  d_machine : FuncData
  f_typed : Addr
  d_typed : FuncData
  f_unit : Addr
  d_unit : FuncData
  f_law : Addr
  d_law : FuncData
structure Txt (K : PySem.W.Frag) (mg : Str → Option Value) (t : Adr) : Prop where
  F_pair_seen : Fun K "pair_seen" "pair_seen" s_pair_seen t.f_pair_seen t.d_pair_seen
  b_pair_seen : Binds K t.d_pair_seen ["word", "rest"] []
  m_pair_seen : mg "pair_seen" = some (.ref t.f_pair_seen)
  F_nil_seen : Fun K "nil_seen" "nil_seen" s_nil_seen t.f_nil_seen t.d_nil_seen
  b_nil_seen : Binds K t.d_nil_seen ["cell", "place"] []
  m_nil_seen : mg "nil_seen" = some (.ref t.f_nil_seen)
  F_lone_seen : Fun K "lone_seen" "lone_seen" s_lone_seen t.f_lone_seen t.d_lone_seen
  b_lone_seen : Binds K t.d_lone_seen ["cell", "place"] []
  m_lone_seen : mg "lone_seen" = some (.ref t.f_lone_seen)
  F_two_seen : Fun K "two_seen" "two_seen" s_two_seen t.f_two_seen t.d_two_seen
  b_two_seen : Binds K t.d_two_seen ["cell", "second", "place"] []
  m_two_seen : mg "two_seen" = some (.ref t.f_two_seen)
  F_pool_seen : Fun K "pool_seen" "pool_seen" s_pool_seen t.f_pool_seen t.d_pool_seen
  b_pool_seen : Binds K t.d_pool_seen ["cells", "place"] []
  m_pool_seen : mg "pool_seen" = some (.ref t.f_pool_seen)
  F_seen_at : Fun K "seen_at" "seen_at" s_seen_at t.f_seen_at t.d_seen_at
  b_seen_at : Binds K t.d_seen_at ["cells", "place"] []
  m_seen_at : mg "seen_at" = some (.ref t.f_seen_at)
  F_carry_out : Fun K "carry_out" "carry_out" s_carry_out t.f_carry_out t.d_carry_out
  b_carry_out : Binds K t.d_carry_out ["row", "held", "told"] []
  m_carry_out : mg "carry_out" = some (.ref t.f_carry_out)
  F_jumps_now : Fun K "jumps_now" "jumps_now" s_jumps_now t.f_jumps_now t.d_jumps_now
  b_jumps_now : Binds K t.d_jumps_now ["row", "held"] []
  m_jumps_now : mg "jumps_now" = some (.ref t.f_jumps_now)
  F_word_at : Fun K "word_at" "word_at" s_word_at t.f_word_at t.d_word_at
  b_word_at : Binds K t.d_word_at ["cells", "begin", "at"] []
  m_word_at : mg "word_at" = some (.ref t.f_word_at)
  F_past_overs : Fun K "past_overs" "past_overs" s_past_overs t.f_past_overs t.d_past_overs
  b_past_overs : Binds K t.d_past_overs ["cells", "place"] []
  m_past_overs : mg "past_overs" = some (.ref t.f_past_overs)
  F_row_at : Fun K "row_at" "row_at" s_row_at t.f_row_at t.d_row_at
  b_row_at : Binds K t.d_row_at ["cells", "place"] []
  m_row_at : mg "row_at" = some (.ref t.f_row_at)
  F_run : Fun K "run" "run" s_run t.f_run t.d_run
  b_run : Binds K t.d_run ["cells", "most"] []
  m_run : mg "run" = some (.ref t.f_run)
  F_cell_at : Fun K "_law_cell_at" "_law_cell_at" s_cell_at t.f_cell_at t.d_cell_at
  b_cell_at : Binds K t.d_cell_at ["_law_script", "_law_k"] []
  m_cell_at : mg "_law_cell_at" = some (.ref t.f_cell_at)
  F_tape : Fun K "_law_tape" "_law_tape" s_tape t.f_tape t.d_tape
  b_tape : Binds K t.d_tape ["_law_script", "_law_k"] []
  m_tape : mg "_law_tape" = some (.ref t.f_tape)
  F_take : Fun K "_law_take" "_law_take" s_take t.f_take t.d_take
  b_take : Binds K t.d_take ["_law_tape_here", "_law_many"] []
  m_take : mg "_law_take" = some (.ref t.f_take)
  F_great : Fun K "_law_great" "_law_great" s_great t.f_great t.d_great
  b_great : Binds K t.d_great ["_law_tape_here"] []
  m_great : mg "_law_great" = some (.ref t.f_great)
  F_same : Fun K "_law_same" "_law_same" s_same t.f_same t.d_same
  b_same : Binds K t.d_same ["_law_found", "_law_due"] []
  m_same : mg "_law_same" = some (.ref t.f_same)
  F_single : Fun K "_law_single" "_law_single" s_single t.f_single t.d_single
  b_single : Binds K t.d_single ["_law_code", "_law_p"] []
  m_single : mg "_law_single" = some (.ref t.f_single)
  F_double : Fun K "_law_double" "_law_double" s_double t.f_double t.d_double
  b_double : Binds K t.d_double ["_law_code", "_law_second", "_law_p"] []
  m_double : mg "_law_double" = some (.ref t.f_double)
  F_seen : Fun K "_law_seen" "_law_seen" s_seen t.f_seen t.d_seen
  b_seen : Binds K t.d_seen ["_law_cells", "_law_p"] []
  m_seen : mg "_law_seen" = some (.ref t.f_seen)
  F_word : Fun K "_law_word" "_law_word" s_word t.f_word t.d_word
  b_word : Binds K t.d_word ["_law_cells", "_law_b", "_law_k"] []
  m_word : mg "_law_word" = some (.ref t.f_word)
  F_machine : Fun K "_law_machine" "_law_machine" s_machine t.f_machine t.d_machine
  b_machine : Binds K t.d_machine ["_law_cells", "_law_most"] []
  m_machine : mg "_law_machine" = some (.ref t.f_machine)
  F_typed : Fun K "_law_typed" "_law_typed" s_typed t.f_typed t.d_typed
  b_typed : Binds K t.d_typed ["_law_tape_here"] []
  m_typed : mg "_law_typed" = some (.ref t.f_typed)
  F_unit : Fun K "_law_unit" "_law_unit" s_unit t.f_unit t.d_unit
  b_unit : Binds K t.d_unit ["_law_tape_here", "_law_unit_here", "_law_places", "_law_at", "_law_pools"] []
  m_unit : mg "_law_unit" = some (.ref t.f_unit)
  F_law : Fun K "law" "law" s_law t.f_law t.d_law
  b_law : Binds K t.d_law ["_law_script"] []
  m_law : mg "law" = some (.ref t.f_law)
  m_abs : mg "abs" = none
  m_all : mg "all" = none
  m_bool : mg "bool" = none
  m_enumerate : mg "enumerate" = none
  m_int : mg "int" = none
  m_isinstance : mg "isinstance" = none
  m_len : mg "len" = none
  m_list : mg "list" = none
  m_min : mg "min" = none
  m_range : mg "range" = none
  m_str : mg "str" = none
  m_tuple : mg "tuple" = none
  m_zip : mg "zip" = none
  c_FARTHEST_GO : ∃ tk, mg "FARTHEST_GO" = some (.int 499 tk)
  c_FARTHEST_NIL : ∃ tk, mg "FARTHEST_NIL" = some (.int 99 tk)
  c_GREAT : ∃ tk, mg "GREAT" = some (.int 5000 tk)
  c_HALF_WORD : ∃ tk, mg "HALF_WORD" = some (.int 10000 tk)
  c_LESS : ∃ tk, mg "LESS" = some (.int 3000 tk)
  c_LONG_GO : ∃ tk, mg "LONG_GO" = some (.int 7000 tk)
  c_LONG_NIL : ∃ tk, mg "LONG_NIL" = some (.int 9000 tk)
  c_MOST_WORDS : ∃ tk, mg "MOST_WORDS" = some (.int 100 tk)
  c_NILS_OF_ONE : ∃ tk, mg "NILS_OF_ONE" = some (.int 200 tk)
  c_NUMBERS : ∃ tk, mg "NUMBERS" = some (.int 100000000 tk)
  c_OVER : ∃ tk, mg "OVER" = some (.int 7001 tk)
  c_PAD : ∃ tk, mg "PAD" = some (.int 7002 tk)
  c_POOL : ∃ tk, mg "POOL" = some (.int 7100 tk)
  c_REGISTERS : ∃ tk, mg "REGISTERS" = some (.int 5 tk)
  c_SAME_PLACE : ∃ tk, mg "SAME_PLACE" = some (.int 5000 tk)
  c_SET : ∃ tk, mg "SET" = some (.int 1000 tk)
  c_SHORT_GO : ∃ tk, mg "SHORT_GO" = some (.int 6500 tk)
  c_SHORT_NIL : ∃ tk, mg "SHORT_NIL" = some (.int 8100 tk)
  c_STOP : ∃ tk, mg "STOP" = some (.int 0 tk)
  c_SUM : ∃ tk, mg "SUM" = some (.int 2000 tk)
  c_TELL : ∃ tk, mg "TELL" = some (.int 4000 tk)
local macro_rules | `(tactic| walk_at "np") => `(tactic| first
  | with_reducible first | apply rd_seq | apply rd_asg | apply rd_name | apply rd_ret | apply rd_drop | apply rd_ifS | apply rd_next | apply rd_test | apply rd_tB | apply rd_bl | apply rd_and | apply rd_or | apply rd_not | apply rd_andV | apply rd_orV | apply rd_notV | apply rd_isN | apply rd_if | apply rd_op | apply rd_un | apply rd_c | apply rd_I0 | apply rd_U | apply rd_eqI | apply rd_eqS | apply rd_eqB | apply rd_neI | apply rd_neS | apply rd_neB | apply rd_cons | apply rd_nil | apply rd_call | apply rd_cb | apply rd_tup | apply rd_lst | apply rd_sub | apply rd_bm | apply rd_bm0 | apply rd_par | apply rd_par3 | apply rd_two | apply rd_three | apply rd_gcons | apply rd_gnil | apply rd_emit | apply rd_ctest | apply rd_chain | apply rd_sl | apply rd_nopart | apply rd_part | apply rd_int | apply rd_cont | apply rd_retN | apply rd_eqN | apply rd_zip | apply rd_comp | apply rd_for | apply rd_rng1 | apply rd_rng2 | apply rd_ilist | apply rd_itup
  | ((with_reducible refine' rd_var ?hv ?_); (case hv => exact rfl))
  | ((with_reducible refine rd_I ?c ?_); (case c => first | exact ⟨by decide, by decide⟩ | exact ⟨by decide, by decide, by decide⟩ | exact .inl ⟨by omega, by omega⟩ | exact .inr ⟨by omega, by omega⟩ | exact ⟨by omega, by omega⟩ | (show (0 : Int) < _; omega)))
  | ((with_reducible refine' rd_ixL ?hs ?he ?_); (case hs => first | assumption | (apply SqL.of; assumption) | exact SqL.of upd_same); (case he => exact rfl))
  | ((with_reducible refine' rd_ixT ?hs ?he ?_); (case hs => first | assumption | (apply SqT.of; assumption) | exact SqT.of upd_same); (case he => exact rfl))
  | ((with_reducible refine' ⟨_, _, _, rfl, ?ty, ?kit, ?_⟩); (case ty => first | exact Ty.int _ | exact Ty.bl _ | exact Ty.str _ | exact Ty.non); (case kit => first | exact kit_same _ _ | exact kit_ib _ | exact kit_bi _ | exact kit_is _ | exact kit_sb _ | exact kit_si _ | exact kit_bs _ | exact kit_ns _ | exact kit_nb _ | exact kit_ni _ | exact kit_il _ | exact kit_it _ | exact kit_sl _ | exact kit_st _ | exact kit_bl _ | exact kit_bt _ | exact kit_nl _ | exact kit_nt _))
  | ((with_reducible refine' ⟨_, "list", _, rfl, ?ty, ?kit, ?_⟩); (case ty => (apply Ty.lst; assumption)); (case kit => first | exact kit_same _ _ | exact kit_lt _ | exact kit_li _ | exact kit_ls _ | exact kit_lb _))
  | ((with_reducible refine' ⟨_, "tuple", _, rfl, ?ty, ?kit, ?_⟩); (case ty => (apply Ty.tup; assumption)); (case kit => first | exact kit_same _ _ | exact kit_tl _ | exact kit_ti _ | exact kit_ts _ | exact kit_tb _))
  | refine ⟨_, rfl, ?_⟩
  | refine ⟨_, _, rfl, ?_⟩
  | refine Or.inr ⟨_, rfl, ?_⟩
  | ((with_reducible refine' ⟨_, _, rfl, Or.inl ?hs, ?_⟩); (case hs => first | assumption | (apply SqL.of; assumption) | exact SqL.of upd_same))
  | ((with_reducible refine' ⟨_, _, rfl, Or.inr ?hs, ?_⟩); (case hs => first | assumption | (apply SqT.of; assumption) | exact SqT.of upd_same)))
section
variable {P : Program} {w : World} {K : PySem.W.Frag} {mg : Str → Option Value} {base : Heap} {t : Adr}
/-! ### the tape -/
/-- the tape stands at p; n: how often it has been asked at most -/
def Tape (H : Hp) (p : Addr) (n : Int) : Prop := ∃ a b c : Int, H p = some (.lst [.int a, .int b, .int c]) ∧ 0 ≤ a ∧ 0 ≤ b ∧ b < 2147483647 ∧ 0 ≤ c ∧ c ≤ n
def spCell (K : PySem.W.Frag) : Sp := fun vs H Q _ => ∃ (a : Addr) (ns : List Int) (k : Int), vs = [.ref a, .int k] ∧ SqL K H a (ns.map V.int) ∧ 0 ≤ k ∧ ∀ i : Int, Q (.int i) H
theorem ok_cell_at (T : Txt K mg t) : FnOk P w K mg base CX0 1 t.f_cell_at t.d_cell_at ["_law_script", "_law_k"] (spCell K) := by
  refine T.F_cell_at.ok sc_cell_at (fun vs H Q E h => ?_) (fun cdv A outer s H vs Q E hr h => ?_)
  · obtain ⟨a, ns, k, rfl, _⟩ := h
    rfl
  · obtain ⟨a, ns, k, rfl, hS, h0, q⟩ := h
    refine ⟨_, (@pss_one _ _ _ (ps_ret (pe_ifExp (@pt_cmpR _ _ _ _ _ _ _ _ op_lt (pv 1) (@pe_callB _ _ _ _ _ _ _ _ _ call_len_seq rfl T.m_len bt_len (@pa_cons _ _ _ _ _ (pv 0) pa_nil (by rfl)) (by decide) (by first | rfl | decide) (by rfl) (by rfl)) (nomark _)) (@pe_ix _ _ _ _ _ _ _ ix_list (pv 0) (pv 1) (fun _ _ => rfl)) pe_int))), ?_⟩
    repeat walk_at "np"
    refine iteD (fun hlt => ?_) (fun _ => ?_)
    · repeat walk_at "np"
      rw [List.length_map] at hlt
      have e : (ns.map V.int)[k.toNat]? = some (.int ns[k.toNat]!) := by
        rw [List.getElem?_map, List.getElem?_eq_getElem (by omega)]
        simp [show k.toNat < ns.length by omega]
      refine rd_ixL hS (by rw [show k = ((k.toNat : Nat) : Int) by omega]; exact atI_nat e) ?_
      exact q _
    · repeat walk_at "np"
      exact q _

def spTape (K : PySem.W.Frag) : Sp := fun vs H Q _ => ∃ (a : Addr) (ns : List Int) (k : Int), vs = [.ref a, .int k] ∧ SqL K H a (ns.map V.int) ∧ 0 ≤ k ∧ k ≤ 1000 ∧
  ∀ p H', H p = none → Keep [] H H' → Tape H' p 0 → Q (.ref p) H'
theorem ok_tape (T : Txt K mg t) : FnOk P w K mg base CX0 2 t.f_tape t.d_tape ["_law_script", "_law_k"] (spTape K) := by
  have G_cell_at := ok_cell_at (P := P) (w := w) (base := base) T
  refine T.F_tape.ok sc_tape (fun vs H Q E h => ?_) (fun cdv A outer s H vs Q E hr h => ?_)
  · obtain ⟨a, ns, k, rfl, _⟩ := h
    rfl
  · obtain ⟨a, ns, k, rfl, hS, h0, h1, q⟩ := h
    refine ⟨_, (@pss_cons _ _ _ _ _ (@ps_set _ _ 2 _ _ _ _ sc_tape.nd rfl (Or.inl rfl) (@pe_call _ _ _ _ _ _ _ _ _ _ _ _ _ _ _ _ G_cell_at (hr.mono (by first | decide | omega)) rfl T.m_cell_at T.F_cell_at.kp T.b_cell_at .nil pass0 (@pa_cons _ _ _ _ _ (pv 0) (@pa_cons _ _ _ _ _ (pv 1) pa_nil (by rfl)) (by rfl)) (by first | rfl | decide) (by rfl) (by rfl)) (by rfl) (by first | exact Or.inl rfl | exact Or.inr rfl | assumption))
      (@pss_one _ _ _ (ps_ret (@pe_lst _ _ _ _ (@pa_cons _ _ _ _ _ (@pe_op _ _ _ _ _ _ _ _ op_mul (@pe_callB _ _ _ _ _ _ _ _ _ call_abs rfl T.m_abs bt_abs (@pa_cons _ _ _ _ _ (pv 2) pa_nil (by rfl)) (by decide) (by first | rfl | decide) (by rfl) (by rfl)) (@pe_callTy _ _ _ _ _ _ _ _ _ call_int1 rfl T.m_int bt_int (@pa_cons _ _ _ _ _ (@pe_cmpR _ _ _ _ _ _ _ _ op_ge (@pe_callB _ _ _ _ _ _ _ _ _ call_abs rfl T.m_abs bt_abs (@pa_cons _ _ _ _ _ (pv 2) pa_nil (by rfl)) (by decide) (by first | rfl | decide) (by rfl) (by rfl)) (@pe_op _ _ _ _ _ _ _ _ op_pow pe_int pe_int) (nomark _)) pa_nil (by rfl)) (by decide) (by first | rfl | decide) (by rfl) (by rfl))) (@pa_cons _ _ _ _ _ (@pe_op _ _ _ _ _ _ _ _ op_mod (@pe_op _ _ _ _ _ _ _ _ op_mul (@pe_op _ _ _ _ _ _ _ _ op_add (@pe_op _ _ _ _ _ _ _ _ op_add (@pe_op _ _ _ _ _ _ _ _ op_mod (pv 2) pe_int) (@pe_op _ _ _ _ _ _ _ _ op_mul pe_int (pv 1))) pe_int) pe_int) pe_int) (@pa_cons _ _ _ _ _ pe_int pa_nil (by rfl)) (by rfl)) (by rfl)))))), ?_⟩
    repeat walk_at "np"
    refine ⟨a, ns, k, rfl, hS, h0, fun i => ?_⟩
    repeat walk_at "np"
    refine ⟨small2 (by simp), fun p hp => ?_⟩
    refine q p _ hp (Keep.new (Keep.refl _ _) hp) ⟨_, _, _, upd_same, ?_, ?_, ?_, Int.le_refl _, Int.le_refl _⟩
    · split <;> split <;> omega
    · omega
    · omega

def spTake : Sp := fun vs H Q _ => ∃ (p : Addr) (many n : Int), vs = [.ref p, .int many] ∧ Tape H p n ∧ n ≤ 1000000000 ∧ 1 ≤ many ∧ many < 1073741824 ∧
  ∀ (r : Int) (H' : Hp), 0 ≤ r → r < many → Tape H' p (n + 1) → Keep [p] H H' → (∀ b, b ≠ p → H' b = H b) → Q (.int r) H'
theorem ok_take (T : Txt K mg t) : FnOk P w K mg base CX0 1 t.f_take t.d_take ["_law_tape_here", "_law_many"] spTake := by
  refine T.F_take.ok sc_take (fun vs H Q E h => ?_) (fun cdv A outer s H vs Q E hr h => ?_)
  · obtain ⟨p, many, n, rfl, _⟩ := h
    rfl
  · obtain ⟨p, many, n, rfl, ⟨a, b, c, hp, a0, b0, b1, c0, c1⟩, hn, m0, m1, q⟩ := h
    have kp : ∀ o, Keep [p] H (upd H p o) := fun o => Keep.put (Keep.refl _ _) (.inl (by simp))
    refine ⟨_, (@pss_cons _ _ _ _ _ (@ps_if _ _ _ _ _ _ _ _ (@pt_cmpR _ _ _ _ _ _ _ _ op_gt (@pe_ix _ _ _ _ _ _ _ ix_list (pv 0) pe_int (fun _ _ => rfl)) pe_int (nomark _))
        (@pss_cons _ _ _ _ _ (@ps_set _ _ 2 _ _ _ _ sc_take.nd rfl (Or.inl rfl) (@pe_op _ _ _ _ _ _ _ _ op_mod (@pe_ix _ _ _ _ _ _ _ ix_list (pv 0) pe_int (fun _ _ => rfl)) (pv 1)) (by rfl) (by first | exact Or.inl rfl | exact Or.inr rfl | assumption))
      (@pss_cons _ _ _ _ _ (ps_asg (@pe_op _ _ _ _ _ _ _ _ op_fdiv (@pe_ix _ _ _ _ _ _ _ ix_list (pv 0) pe_int (fun _ _ => rfl)) (pv 1)) (pg_sub (pv 0) pe_int set_list))
      (@pss_one _ _ _ (ps_ret (pv 2)))))
        pss_nil)
      (@pss_cons _ _ _ _ _ (ps_asg (@pe_op _ _ _ _ _ _ _ _ op_add (@pe_ix _ _ _ _ _ _ _ ix_list (pv 0) pe_int (fun _ _ => rfl)) pe_int) (pg_sub (pv 0) pe_int set_list))
      (@pss_cons _ _ _ _ _ (@ps_set _ _ 3 _ _ _ _ sc_take.nd rfl (Or.inl rfl) (@pe_op _ _ _ _ _ _ _ _ op_mod (@pe_op _ _ _ _ _ _ _ _ op_mul (@pe_op _ _ _ _ _ _ _ _ op_add (@pe_ix _ _ _ _ _ _ _ ix_list (pv 0) pe_int (fun _ _ => rfl)) (@pe_op _ _ _ _ _ _ _ _ op_mul pe_int (@pe_ix _ _ _ _ _ _ _ ix_list (pv 0) pe_int (fun _ _ => rfl)))) (@pe_op _ _ _ _ _ _ _ _ op_add pe_int (@pe_ix _ _ _ _ _ _ _ ix_list (pv 0) pe_int (fun _ _ => rfl)))) pe_int) (by rfl) (by first | exact Or.inl rfl | exact Or.inr rfl | assumption))
      (@pss_cons _ _ _ _ _ (ps_asg (@pe_op _ _ _ _ _ _ _ _ op_mod (@pe_op _ _ _ _ _ _ _ _ op_add (@pe_op _ _ _ _ _ _ _ _ op_mul (pv 3) (@pe_op _ _ _ _ _ _ _ _ op_add (@pe_op _ _ _ _ _ _ _ _ op_mod (pv 3) pe_int) pe_int)) (@pe_ix _ _ _ _ _ _ _ ix_list (pv 0) pe_int (fun _ _ => rfl))) pe_int) (pg_sub (pv 0) pe_int set_list))
      (@pss_one _ _ _ (ps_ret (@pe_op _ _ _ _ _ _ _ _ op_mod (@pe_op _ _ _ _ _ _ _ _ op_fdiv (@pe_op _ _ _ _ _ _ _ _ op_mod (@pe_op _ _ _ _ _ _ _ _ op_mul (@pe_ix _ _ _ _ _ _ _ ix_list (pv 0) pe_int (fun _ _ => rfl)) (@pe_op _ _ _ _ _ _ _ _ op_add (@pe_op _ _ _ _ _ _ _ _ op_mod (@pe_ix _ _ _ _ _ _ _ ix_list (pv 0) pe_int (fun _ _ => rfl)) pe_int) pe_int)) pe_int) pe_int) (pv 1)))))))), ?_⟩
    repeat walk_at "np"
    refine iteD (fun hlt => ?_) (fun hlt => ?_)
    · repeat walk_at "np"
      refine rd_setL hp rfl ?_
      repeat walk_at "np"
      refine q _ _ (Int.emod_nonneg _ (by omega)) (Int.emod_lt_of_pos _ (by omega)) ⟨_, _, _, upd_same, Int.ediv_nonneg a0 (by omega), b0, b1, c0, by omega⟩ (kp _) fun b hb => upd_ne hb
    · repeat walk_at "np"
      refine rd_setL hp rfl ?_
      repeat walk_at "np"
      refine rd_setL upd_same rfl ?_
      repeat walk_at "np"
      refine q _ _ (Int.emod_nonneg _ (by omega)) (Int.emod_lt_of_pos _ (by omega)) ⟨_, _, _, upd_same, a0, Int.emod_nonneg _ (by decide), Int.lt_trans (Int.emod_lt_of_pos _ (by decide)) (by decide), by omega, by omega⟩ (by rw [upd_upd]; exact kp _) fun b hb => by rw [upd_ne hb, upd_ne hb]

/-! ### _law_same: True of like data -/
def DOk : Nat → PyData → Prop
  | _, .none => True
  | _, .bool _ => True
  | _, .int _ => True
  | _, .str _ => True
  | n + 1, .list ds => ds.length ≤ 100000 ∧ ∀ d ∈ ds, DOk n d
  | n + 1, .tuple ds => ds.length ≤ 100000 ∧ ∀ d ∈ ds, DOk n d
  | _, _ => False
def spSame (K : PySem.W.Frag) (n : Nat) : Sp := fun vs H Q _ => ∃ (x y : V) (d : PyData), vs = [x, y] ∧ Dt K H x d ∧ Dt K H y d ∧ DOk n d ∧ ∀ H', Keep [] H H' → Q (.bl true) H'
theorem keep_dt {K : PySem.W.Frag} {H H' : Hp} (k : Keep [] H H') {x : V} {d : PyData} (h : Dt K H x d) : Dt K H' x d := h.mono k.same
theorem keep_sqL {K : PySem.W.Frag} {H H' : Hp} (k : Keep [] H H') {a : Addr} {xs : List V} (h : SqL K H a xs) : SqL K H' a xs := k.same.seq h
theorem keep_sqT {K : PySem.W.Frag} {H H' : Hp} (k : Keep [] H H') {a : Addr} {xs : List V} (h : SqT K H a xs) : SqT K H' a xs := k.same.tupS h
theorem rep_true (n : Nat) : (List.replicate n true).all id = true := by
  induction n with
  | zero => rfl
  | succ n ih => rw [List.replicate_succ, List.all_cons, ih]; rfl
/-- the whole of the comprehension over the two lists' pairs -/
theorem same_comp {K : PySem.W.Frag} {n : Nat} {H : Hp} {Q : Addr → Hp → Prop} {E : XK} {a b : ZS} {ds : List PyData} {σ : St} {sp : Sp} (hsp : ∀ vs H Q E, spSame K n vs H Q E → sp vs H Q E) (ha : a.ok K H) (hb : b.ok K H) (da : DtAll K H a.items ds) (db : DtAll K H b.items ds) (hz : ds.length ≤ 100000) (hd : ∀ d ∈ ds, DOk n d)
    (ka : ∀ H', Keep [] H H' → a.ok K H') (kb : ∀ H', Keep [] H H' → b.ok K H')
    (q : ∀ p H', Keep [] H H' → H' p = some (.lst (List.replicate ds.length (.bl true))) → Q p H') :
    ∀ (c : CC) D, H D = none → ∃ W : Nat → Nat → St → Hp → Prop, (∃ m, W 0 m (compSt 2 [] σ) (upd H D (.lst []))) ∧
      ∀ i m σ' H', W i m σ' H' → ((Itz K a b).stop i H' ∧ Q D H') ∨ ((Itz K a b).go i H' ∧ ∀ x H2, (Itz K a b).yld i H' x H2 → gTup K 2 (gCons (gName 0) (gCons (gName 1) gNil)) x σ' H2 fun σ3 H3 =>
        cEmit (tCall sp [] E (tCons (tVar 0) (tCons (tVar 1) tNil))) D σ3 H3 fun H4 => ∃ m', m' < m ∧ W (i + 1) m' σ3 H4) := by
  intro c D hD
  refine ⟨fun i m σ' H' => m = ds.length - i ∧ i ≤ ds.length ∧ (∃ u v, σ' = [u, v]) ∧ Keep [] H H' ∧ H' D = some (.lst (List.replicate i (.bl true))), ⟨_, rfl, Nat.zero_le _, ⟨_, _, rfl⟩, Keep.new (Keep.refl _ _) hD, upd_same⟩, ?_⟩
  rintro i m σ' H' ⟨rfl, hi, ⟨u, v, rfl⟩, kp, hDl⟩
  have la := da.length
  have lb := db.length
  by_cases hlt : i < ds.length
  · refine .inr ⟨⟨ka _ kp, kb _ kp, by omega, by omega⟩, ?_⟩
    rintro x H2 ⟨T, x1, y1, e1, e2, hT, rfl, rfl⟩
    obtain ⟨x1', f1, d1⟩ := da.get (List.getElem?_eq_getElem hlt)
    obtain ⟨y1', f2, d2⟩ := db.get (List.getElem?_eq_getElem hlt)
    rw [e1] at f1; cases f1
    rw [e2] at f2; cases f2
    have k2 : Keep [] H (upd H' T (.tup [x1, y1])) := Keep.new kp hT
    refine rd_gtup (SqT.of upd_same) rfl ?_
    repeat walk_at "np"
    refine hsp _ _ _ _ ⟨x1, y1, ds[i], rfl, keep_dt k2 d1, keep_dt k2 d2, hd _ (List.getElem_mem hlt), fun H3 k3 => ?_⟩
    have hDT : D ≠ T := fun e => by rw [e, hT] at hDl; cases hDl
    have hD3 : H3 D = some (.lst (List.replicate i (.bl true))) := k3 _ _ (by rw [upd_ne hDT]; exact hDl) (by simp)
    refine ⟨_, hD3, Nat.lt_of_lt_of_le (by rw [List.length_replicate]; omega) (by decide : 100001 ≤ sizeLine), _, Nat.sub_lt_sub_left hlt (Nat.lt_succ_self i), rfl, hlt, ⟨_, _, rfl⟩, Keep.put (k2.trans k3) (.inr hD), ?_⟩
    rw [upd_same, List.replicate_succ']
  · have e : i = ds.length := by omega
    subst e
    exact .inl ⟨⟨ka _ kp, kb _ kp, .inl (by omega)⟩, q D H' kp hDl⟩
theorem same_step (T : Txt K mg t) (n : Nat) (G_same : FnOk P w K mg base CX0 n t.f_same t.d_same ["_law_found", "_law_due"] (fun vs H Q E => ∃ m, n = m + 1 ∧ spSame K m vs H Q E)) :
    FnOk P w K mg base CX0 (n + 1) t.f_same t.d_same ["_law_found", "_law_due"] (spSame K n) := by
  refine T.F_same.ok sc_same (fun vs H Q E h => ?_) (fun cdv A outer s H vs Q E hr h => ?_)
  · obtain ⟨x, y, d, rfl, _⟩ := h
    rfl
  · obtain ⟨x, y, d, rfl, hx, hy, hd, q⟩ := h
    refine ⟨_, (@pss_cons _ _ _ _ _ (@ps_if _ _ _ _ _ _ _ _ (pt_val (@pe_callB _ _ _ _ _ _ _ _ _ (call_isi2 "list" "tuple") rfl T.m_isinstance bt_isinstance (@pa_cons _ _ _ _ _ (pv 1) (@pa_cons _ _ _ _ _ (@pe_tup _ _ _ _ _ (@pa_cons _ _ _ _ _ (pe_bltn (v := .ty "list") rfl T.m_list bt_list rfl) (@pa_cons _ _ _ _ _ (pe_bltn (v := .ty "tuple") rfl T.m_tuple bt_tuple rfl) pa_nil (by rfl)) (by rfl))) pa_nil (by rfl)) (by rfl)) (by decide) (by first | rfl | decide) (by rfl) (by rfl)))
        (@pss_cons _ _ _ _ _ (@ps_if _ _ _ _ _ _ _ _ (PW.pt (pw_or (@pt_cmpR _ _ _ _ _ _ _ _ op_ne (@pe_callB _ _ _ _ _ _ _ _ _ (call_isi "list") rfl T.m_isinstance bt_isinstance (@pa_cons _ _ _ _ _ (pv 0) (@pa_cons _ _ _ _ _ (pe_bltn (v := .ty "list") rfl T.m_list bt_list rfl) pa_nil (by rfl)) (by rfl)) (by decide) (by first | rfl | decide) (by rfl) (by rfl)) (@pe_callB _ _ _ _ _ _ _ _ _ (call_isi "list") rfl T.m_isinstance bt_isinstance (@pa_cons _ _ _ _ _ (pv 1) (@pa_cons _ _ _ _ _ (pe_bltn (v := .ty "list") rfl T.m_list bt_list rfl) pa_nil (by rfl)) (by rfl)) (by decide) (by first | rfl | decide) (by rfl) (by rfl)) (nomark _)) (pw_or1 (@pt_cmpR _ _ _ _ _ _ _ _ op_ne (@pe_callB _ _ _ _ _ _ _ _ _ (call_isi "tuple") rfl T.m_isinstance bt_isinstance (@pa_cons _ _ _ _ _ (pv 0) (@pa_cons _ _ _ _ _ (pe_bltn (v := .ty "tuple") rfl T.m_tuple bt_tuple rfl) pa_nil (by rfl)) (by rfl)) (by decide) (by first | rfl | decide) (by rfl) (by rfl)) (@pe_callB _ _ _ _ _ _ _ _ _ (call_isi "tuple") rfl T.m_isinstance bt_isinstance (@pa_cons _ _ _ _ _ (pv 1) (@pa_cons _ _ _ _ _ (pe_bltn (v := .ty "tuple") rfl T.m_tuple bt_tuple rfl) pa_nil (by rfl)) (by rfl)) (by decide) (by first | rfl | decide) (by rfl) (by rfl)) (nomark _)))))
        (@pss_one _ _ _ (ps_ret pe_bl))
        pss_nil)
      (@pss_cons _ _ _ _ _ (@ps_if _ _ _ _ _ _ _ _ (@pt_cmpR _ _ _ _ _ _ _ _ op_ne (@pe_callB _ _ _ _ _ _ _ _ _ call_len_seq rfl T.m_len bt_len (@pa_cons _ _ _ _ _ (pv 0) pa_nil (by rfl)) (by decide) (by first | rfl | decide) (by rfl) (by rfl)) (@pe_callB _ _ _ _ _ _ _ _ _ call_len_seq rfl T.m_len bt_len (@pa_cons _ _ _ _ _ (pv 1) pa_nil (by rfl)) (by decide) (by first | rfl | decide) (by rfl) (by rfl)) (nomark _))
        (@pss_one _ _ _ (ps_ret pe_bl))
        pss_nil)
      (@pss_one _ _ _ (ps_ret (@pe_callB _ _ _ _ _ _ _ _ _ (call_all rfl) rfl T.m_all bt_all (@pa_cons _ _ _ _ _ (pe_comp rfl sn_same_0.sc (pi_zip rfl T.m_zip (@pa_cons _ _ _ _ _ (pv 0) (@pa_cons _ _ _ _ _ (pv 1) pa_nil (by rfl)) (by rfl))) (fun _ => (pg_tup rfl (pgs_cons (pg_name (i := 0) sn_same_0.nd rfl (Or.inl rfl)) (pgs_cons (pg_name (i := 1) sn_same_0.nd rfl (Or.inl rfl)) pgs_nil)))) (fun _ _ => (act_plain (@pe_call _ _ _ _ _ _ _ _ _ _ _ _ _ _ _ _ G_same (hr.mono (by first | decide | omega)) rfl T.m_same T.F_same.kp T.b_same .nil pass0 (@pa_cons _ _ _ _ _ (pv 0) (@pa_cons _ _ _ _ _ (pv 1) pa_nil (by rfl)) (by rfl)) (by first | rfl | decide) (by rfl) (by rfl))))) pa_nil (by rfl)) (by decide) (by first | rfl | decide) (by rfl) (by rfl))))))
        pss_nil)
      (@pss_cons _ _ _ _ _ (@ps_if _ _ _ _ _ _ _ _ (PW.pt (pw_or (pt_cmp (pc_isN (pv 1))) (pw_or1 (pt_val (@pe_callB _ _ _ _ _ _ _ _ _ (call_isi "str") rfl T.m_isinstance bt_isinstance (@pa_cons _ _ _ _ _ (pv 1) (@pa_cons _ _ _ _ _ (pe_bltn (v := .ty "str") rfl T.m_str bt_str rfl) pa_nil (by rfl)) (by rfl)) (by decide) (by first | rfl | decide) (by rfl) (by rfl))))))
        (@pss_one _ _ _ (ps_ret (pe_and (@pe_cmpR _ _ _ _ _ _ _ _ op_eq (pv 0) (pv 1) (nomark _)) (pe_one (@pe_cmpR _ _ _ _ _ _ _ _ op_eq (@pe_callB _ _ _ _ _ _ _ _ _ (call_isi "str") rfl T.m_isinstance bt_isinstance (@pa_cons _ _ _ _ _ (pv 0) (@pa_cons _ _ _ _ _ (pe_bltn (v := .ty "str") rfl T.m_str bt_str rfl) pa_nil (by rfl)) (by rfl)) (by decide) (by first | rfl | decide) (by rfl) (by rfl)) (@pe_callB _ _ _ _ _ _ _ _ _ (call_isi "str") rfl T.m_isinstance bt_isinstance (@pa_cons _ _ _ _ _ (pv 1) (@pa_cons _ _ _ _ _ (pe_bltn (v := .ty "str") rfl T.m_str bt_str rfl) pa_nil (by rfl)) (by rfl)) (by decide) (by first | rfl | decide) (by rfl) (by rfl)) (nomark _))))))
        pss_nil)
      (@pss_cons _ _ _ _ _ (@ps_if _ _ _ _ _ _ _ _ (pt_val (@pe_callB _ _ _ _ _ _ _ _ _ (call_isi "bool") rfl T.m_isinstance bt_isinstance (@pa_cons _ _ _ _ _ (pv 1) (@pa_cons _ _ _ _ _ (pe_bltn (v := .ty "bool") rfl T.m_bool bt_bool rfl) pa_nil (by rfl)) (by rfl)) (by decide) (by first | rfl | decide) (by rfl) (by rfl)))
        (@pss_one _ _ _ (ps_ret (pe_and (@pe_callB _ _ _ _ _ _ _ _ _ (call_isi "bool") rfl T.m_isinstance bt_isinstance (@pa_cons _ _ _ _ _ (pv 0) (@pa_cons _ _ _ _ _ (pe_bltn (v := .ty "bool") rfl T.m_bool bt_bool rfl) pa_nil (by rfl)) (by rfl)) (by decide) (by first | rfl | decide) (by rfl) (by rfl)) (pe_one (@pe_cmpR _ _ _ _ _ _ _ _ op_eq (pv 0) (pv 1) (nomark _))))))
        pss_nil)
      (@pss_one _ _ _ (ps_ret (pe_and (@pe_callB _ _ _ _ _ _ _ _ _ (call_isi "int") rfl T.m_isinstance bt_isinstance (@pa_cons _ _ _ _ _ (pv 0) (@pa_cons _ _ _ _ _ (pe_bltn (v := .ty "int") rfl T.m_int bt_int rfl) pa_nil (by rfl)) (by rfl)) (by decide) (by first | rfl | decide) (by rfl) (by rfl)) (pe_and (pe_not (@pe_callB _ _ _ _ _ _ _ _ _ (call_isi "bool") rfl T.m_isinstance bt_isinstance (@pa_cons _ _ _ _ _ (pv 0) (@pa_cons _ _ _ _ _ (pe_bltn (v := .ty "bool") rfl T.m_bool bt_bool rfl) pa_nil (by rfl)) (by rfl)) (by decide) (by first | rfl | decide) (by rfl) (by rfl))) (pe_one (@pe_cmpR _ _ _ _ _ _ _ _ op_eq (pv 0) (pv 1) (nomark _)))))))))), ?_⟩
    repeat walk_at "np"
    refine ⟨small2 (by simp), fun p hp => ?_⟩
    have kp : Keep [] H (upd H p (.tup [.ty "list", .ty "tuple"])) := Keep.new (Keep.refl _ _) hp
    cases hx with
    | non =>
      cases hy
      refine ⟨_, _, _, _, rfl, upd_same, .non, kitAny_no _ (kit_nl _) (kit_nt _), ?_⟩
      repeat walk_at "np"
      exact q _ kp
    | bl b =>
      cases hy
      refine ⟨_, _, _, _, rfl, upd_same, .bl _, kitAny_no _ (kit_bl _) (kit_bt _), ?_⟩
      repeat walk_at "np"
      show Q (.bl (decide (b = b))) _
      rw [decide_eq_true rfl]
      exact q _ kp
    | int i =>
      cases hy
      refine ⟨_, _, _, _, rfl, upd_same, .int _, kitAny_no _ (kit_il _) (kit_it _), ?_⟩
      repeat walk_at "np"
      show Q (.bl (decide (i = i))) _
      rw [decide_eq_true rfl]
      exact q _ kp
    | str x =>
      cases hy
      refine ⟨_, _, _, _, rfl, upd_same, .str _, kitAny_no _ (kit_sl _) (kit_st _), ?_⟩
      repeat walk_at "np"
      refine iteD (fun _ => ?_) (fun h => absurd rfl h)
      repeat walk_at "np"
      exact q _ kp
    | @lst a xs ds ha da =>
      cases hy with
      | @lst b ys _ hb db =>
        cases n with
        | zero => exact hd.elim
        | succ n =>
          obtain ⟨hz, hd⟩ := hd
          have sa := keep_sqL kp ha
          have sb := keep_sqL kp hb
          refine ⟨_, _, _, _, rfl, upd_same, .lst sb, kitAny_yes _ (.inl (kit_same _ _)), ?_⟩
          repeat walk_at "np"
          have la := da.length
          have lb := db.length
          refine iteDN (fun h => absurd (by omega) h) (fun _ => ?_)
          repeat walk_at "np"
          refine ⟨.lst a xs, .lst b ys, rfl, sa, sb, ?_⟩
          refine same_comp (K := K) (n := n) (a := .lst a xs) (b := .lst b ys) (sp := fun vs H Q E => ∃ m, n + 1 = m + 1 ∧ spSame K m vs H Q E) (fun vs H Q E h => ⟨n, rfl, h⟩) sa sb (da.mono kp.same) (db.mono kp.same) hz hd (fun H' k' => keep_sqL k' sa) (fun H' k' => keep_sqL k' sb) fun r H' k' hr' => ?_
          repeat walk_at "np"
          refine ⟨r, List.replicate ds.length true, rfl, SqL.of (by rw [hr', List.map_replicate]), ?_⟩
          rw [rep_true]
          exact q _ (kp.trans k')
    | @tup a xs ds ha da =>
      cases hy with
      | @tup b ys _ hb db =>
        cases n with
        | zero => exact hd.elim
        | succ n =>
          obtain ⟨hz, hd⟩ := hd
          have sa := keep_sqT kp ha
          have sb := keep_sqT kp hb
          refine ⟨_, _, _, _, rfl, upd_same, .tup sb, kitAny_yes _ (.inr ⟨kit_tl _, kit_same _ _⟩), ?_⟩
          repeat walk_at "np"
          have la := da.length
          have lb := db.length
          refine iteDN (fun h => absurd (by omega) h) (fun _ => ?_)
          repeat walk_at "np"
          refine ⟨.tup a xs, .tup b ys, rfl, sa, sb, ?_⟩
          refine same_comp (K := K) (n := n) (a := .tup a xs) (b := .tup b ys) (sp := fun vs H Q E => ∃ m, n + 1 = m + 1 ∧ spSame K m vs H Q E) (fun vs H Q E h => ⟨n, rfl, h⟩) sa sb (da.mono kp.same) (db.mono kp.same) hz hd (fun H' k' => keep_sqT k' sa) (fun H' k' => keep_sqT k' sb) fun r H' k' hr' => ?_
          repeat walk_at "np"
          refine ⟨r, List.replicate ds.length true, rfl, SqL.of (by rw [hr', List.map_replicate]), ?_⟩
          rw [rep_true]
          exact q _ (kp.trans k')
theorem ok_same (T : Txt K mg t) : ∀ n : Nat, FnOk P w K mg base CX0 (n + 1) t.f_same t.d_same ["_law_found", "_law_due"] (spSame K n)
  | 0 => same_step T 0 ⟨fun _ _ _ _ ⟨_, e, _⟩ => (nomatch e), fun _ _ _ _ _ _ _ _ _ _ _ _ _ ⟨_, e, _⟩ => (nomatch e)⟩
  | n + 1 => same_step T (n + 1) ((ok_same T n).imp fun vs H Q E ⟨m, e, h⟩ => by cases e; exact h)

/-! ### rows, and their plain run as a function -/
inductive Rw where
  | set (r : Nat) (n : Int)
  | sum (r s : Nat)
  | less (r s : Nat)
  | tell (r : Nat)
  | go (t : Nat)
  | nil (r t : Nat)
  | stop
def rowV : Rw → List V
  | .set r n => [.str "set", .int r, .int n]
  | .sum r s => [.str "sum", .int r, .int s]
  | .less r s => [.str "less", .int r, .int s]
  | .tell r => [.str "tell", .int r]
  | .go t => [.str "go", .int t]
  | .nil r t => [.str "nil", .int r, .int t]
  | .stop => [.str "stop"]

def reg (g : List Int) (r : Nat) : Int := g.getD r 0
def reck : Rw → List Int → List Int
  | .set r n, g => g.set r n
  | .sum r s, g => g.set r ((reg g r + reg g s) % 100000000)
  | .less r s, g => g.set r ((reg g r - reg g s) % 100000000)
  | _, g => g
theorem reck_len (r : Rw) (g : List Int) : (reck r g).length = g.length := by cases r <;> simp [reck]
def says (g : List Int) : Rw → List Int
  | .tell k => [reg g k]
  | _ => []
theorem reg_at {g : List Int} {r : Nat} (h : r < g.length) : atI (g.map V.int) (r : Int) = some (.int (reg g r)) := by
  refine atI_nat ?_
  rw [List.getElem?_map, List.getElem?_eq_getElem h]
  simp [reg, h]
theorem reg_ix {g : List Int} {r : Nat} (h : r < g.length) : ixN (g.map V.int).length (r : Int) = some r := by
  unfold ixN
  rw [List.length_map, if_pos (by omega), if_pos (by omega)]
  simp
theorem reg_set (g : List Int) (r : Nat) (n : Int) : (g.map V.int).set r (.int n) = (g.set r n).map V.int := by rw [List.map_set]
theorem iteDF {p : Prop} [Decidable p] {A B : Prop} (h : ¬ p) (q : B) : if decide p = true then A else B := by rw [decide_eq_false h]; exact iteF q
theorem iteDT {p : Prop} [Decidable p] {A B : Prop} (h : p) (q : A) : if decide p = true then A else B := by rw [decide_eq_true h]; exact iteT q
theorem iteBT {b : Bool} {A B : Prop} (h : b = true) (q : A) : if b = true then A else B := by rw [h]; exact iteT q
theorem iteBF {b : Bool} {A B : Prop} (h : b = false) (q : B) : if b = true then A else B := by rw [h]; exact iteF q
theorem rd_tyL {K : PySem.W.Frag} {H : Hp} {l : Addr} {xs : List V} {B : Prop} (h : H l = some (.lst xs)) (b : B) : tyV K "list" (.ref l) H ∧ B := ⟨.inl ⟨rfl, xs, SqL.of h⟩, b⟩
local macro_rules | `(tactic| walk_at "ns") => `(tactic| first
  | walk_at "np"
  | ((with_reducible refine' iteDF ?h ?_); (case h => decide +kernel))
  | ((with_reducible refine' iteDT ?h ?_); (case h => decide +kernel))
  | ((with_reducible refine' iteBT ?h ?_); (case h => decide +kernel))
  | ((with_reducible refine' iteBF ?h ?_); (case h => decide +kernel))
  | ((with_reducible refine' rd_tyL ?hs ?_); (case hs => first | assumption | exact upd_same)))

/-! ### rows being made -/
theorem upd_old {H : Hp} {c b : Addr} {o y : HO} (h : H c = some o) (n : H b = none) : upd H b y c = some o := by rw [upd_ne (ne_of_none h n)]; exact h
theorem Tape.new {H : Hp} {p q : Addr} {o : HO} {n : Int} (t : Tape H p n) (h : H q = none) : Tape (upd H q o) p n := by
  obtain ⟨a, b, c, hp, r⟩ := t
  exact ⟨a, b, c, upd_old hp h, r⟩
theorem Tape.put {H : Hp} {p q : Addr} {o : HO} {n : Int} (t : Tape H p n) (h : q ≠ p) : Tape (upd H q o) p n := by
  obtain ⟨a, b, c, hp, r⟩ := t
  exact ⟨a, b, c, by rw [upd_ne (Ne.symm h)]; exact hp, r⟩
theorem Tape.le {H : Hp} {p : Addr} {n m : Int} (t : Tape H p n) (h : n ≤ m) : Tape H p m := by
  obtain ⟨a, b, c, hp, h1, h2, h3, h4, h5⟩ := t
  exact ⟨a, b, c, hp, h1, h2, h3, h4, by omega⟩
theorem Tape.lst {H : Hp} {p : Addr} {n : Int} (t : Tape H p n) : ∃ xs, H p = some (.lst xs) := let ⟨_, _, _, hp, _⟩ := t; ⟨_, hp⟩
theorem atI_pick {xs : List V} {i : Int} (h0 : 0 ≤ i) (h1 : i < xs.length) : ∃ v, atI xs i = some v ∧ v ∈ xs := by
  obtain ⟨k, rfl⟩ := Int.eq_ofNat_of_zero_le h0
  exact ⟨xs[k]'(by omega), atI_nat (List.getElem?_eq_getElem (by omega)), List.getElem_mem _⟩
local macro_rules | `(tactic| walk_at "look") => `(tactic| first
  | assumption
  | exact upd_same
  | ((refine upd_old ?_ ?_) <;> (first | assumption | walk_at "look")))
local macro_rules | `(tactic| walk_at "na") => `(tactic| first
  | walk_at "ns"
  | ((with_reducible refine' rd_tyL ?hs ?_); (case hs => walk_at "look"))
  | ((refine ⟨small2 (by simp), ?_⟩); (intro _ _))
  | ((with_reducible refine' rd_cat ?h1 ?h2 ?hz ?_); (case h1 => walk_at "look"); (case h2 => walk_at "look"); (case hz => exact small2 (by simp)); (intro _ _)))
local macro_rules | `(tactic| walk_at "keep") => `(tactic| first
  | assumption
  | ((refine Keep.new ?_ ?_) <;> (first | assumption | walk_at "keep")))
local macro_rules | `(tactic| walk_at "tape") => `(tactic| first
  | assumption
  | ((refine Tape.new ?_ ?_) <;> (first | assumption | walk_at "tape")))

theorem ints_ok (n : Nat) (ns : List Int) (h : ns.length ≤ 100000) : DOk (n + 1) (.list (ns.map PyData.int)) := by
  refine ⟨by rw [List.length_map]; exact h, fun d hd => ?_⟩
  obtain ⟨i, _, rfl⟩ := List.mem_map.mp hd
  cases n <;> trivial
def spLaw (K : PySem.W.Frag) : Sp := fun vs H Q _ => ∃ (a : Addr) (ns : List Int), vs = [.ref a] ∧ SqL K H a (ns.map V.int) ∧ ns.length ≤ 63 ∧ ∀ H', Q (.bl true) H'

/-! ### great numbers and rows drawn -/
theorem Tape.ne {H : Hp} {p z : Addr} {n : Int} (h : Tape H p n) (hz : H z = none) : z ≠ p := fun e => by
  obtain ⟨xs, hx⟩ := h.lst
  rw [e, hx] at hz; cases hz
def spGreat : Sp := fun vs H Q _ => ∃ (p : Addr) (n : Int), vs = [.ref p] ∧ Tape H p n ∧ n ≤ 100000000 ∧
  ∀ (v : Int) (H' : Hp), 100 ≤ v → v ≤ 99999999 → Tape H' p (n + 4) → Keep [p] H H' → Q (.int v) H'
theorem ok_great (T : Txt K mg t) : FnOk P w K mg base CX0 2 t.f_great t.d_great ["_law_tape_here"] spGreat := by
  have G_take := ok_take (P := P) (w := w) (base := base) T
  refine T.F_great.ok sc_great (fun vs H Q E h => ?_) (fun cdv A outer s H vs Q E hr h => ?_)
  · obtain ⟨p, n, rfl, _⟩ := h
    rfl
  · obtain ⟨p, n, rfl, hT, hn, q⟩ := h
    refine ⟨_, (@pss_cons _ _ _ _ _ (@ps_set _ _ 1 _ _ _ _ sc_great.nd rfl (Or.inl rfl) (@pe_call _ _ _ _ _ _ _ _ _ _ _ _ _ _ _ _ G_take (hr.mono (by first | decide | omega)) rfl T.m_take T.F_take.kp T.b_take .nil pass0 (@pa_cons _ _ _ _ _ (pv 0) (@pa_cons _ _ _ _ _ pe_int pa_nil (by rfl)) (by rfl)) (by first | rfl | decide) (by rfl) (by rfl)) (by rfl) (by first | exact Or.inl rfl | exact Or.inr rfl | assumption))
      (@pss_cons _ _ _ _ _ (@ps_set _ _ 2 _ _ _ _ sc_great.nd rfl (Or.inl rfl) (@pe_op _ _ _ _ _ _ _ _ op_add pe_int (@pe_call _ _ _ _ _ _ _ _ _ _ _ _ _ _ _ _ G_take (hr.mono (by first | decide | omega)) rfl T.m_take T.F_take.kp T.b_take .nil pass0 (@pa_cons _ _ _ _ _ (pv 0) (@pa_cons _ _ _ _ _ pe_int pa_nil (by rfl)) (by rfl)) (by first | rfl | decide) (by rfl) (by rfl))) (by rfl) (by first | exact Or.inl rfl | exact Or.inr rfl | assumption))
      (@pss_one _ _ _ (ps_ret (@pe_ix _ _ _ _ _ _ _ ix_list (@pe_lst _ _ _ _ (@pa_cons _ _ _ _ _ (@pe_ix _ _ _ _ _ _ _ ix_list (@pe_lst _ _ _ _ (@pa_cons _ _ _ _ _ pe_int (@pa_cons _ _ _ _ _ pe_int (@pa_cons _ _ _ _ _ pe_int (@pa_cons _ _ _ _ _ pe_int (@pa_cons _ _ _ _ _ pe_int pa_nil (by rfl)) (by rfl)) (by rfl)) (by rfl)) (by rfl))) (@pe_call _ _ _ _ _ _ _ _ _ _ _ _ _ _ _ _ G_take (hr.mono (by first | decide | omega)) rfl T.m_take T.F_take.kp T.b_take .nil pass0 (@pa_cons _ _ _ _ _ (pv 0) (@pa_cons _ _ _ _ _ pe_int pa_nil (by rfl)) (by rfl)) (by first | rfl | decide) (by rfl) (by rfl)) (fun _ _ => rfl)) (@pa_cons _ _ _ _ _ (@pe_op _ _ _ _ _ _ _ _ op_add pe_int (@pe_call _ _ _ _ _ _ _ _ _ _ _ _ _ _ _ _ G_take (hr.mono (by first | decide | omega)) rfl T.m_take T.F_take.kp T.b_take .nil pass0 (@pa_cons _ _ _ _ _ (pv 0) (@pa_cons _ _ _ _ _ pe_int pa_nil (by rfl)) (by rfl)) (by first | rfl | decide) (by rfl) (by rfl))) (@pa_cons _ _ _ _ _ (pv 2) (@pa_cons _ _ _ _ _ pe_int pa_nil (by rfl)) (by rfl)) (by rfl)) (by rfl))) (pv 1) (fun _ _ => rfl)))))), ?_⟩
    repeat walk_at "na"
    refine ⟨p, _, n, rfl, hT, by omega, by first | decide | omega, by first | decide | omega, fun way H1 w0 w1 T1 K1 _ => ?_⟩
    repeat walk_at "na"
    refine ⟨p, _, _, rfl, T1, by omega, by first | decide | omega, by first | decide | omega, fun any H2 a0 a1 T2 K2 _ => ?_⟩
    repeat walk_at "na"
    rename_i l1 hl1
    have n1 : l1 ≠ p := fun e => by
      obtain ⟨xs, hx⟩ := T2.lst
      rw [e, hx] at hl1; cases hl1
    refine ⟨p, _, _, rfl, T2.new hl1, by omega, by first | decide | omega, by first | decide | omega, fun five H3 f0 f1 T3 K3 e3 => ?_⟩
    obtain ⟨v, hv, hvm⟩ := atI_pick (xs := [V.int 100, V.int 101, V.int 12345, V.int 10000, V.int 9999]) f0 (by simp; omega)
    obtain ⟨c, rfl, c0, c1⟩ : ∃ c : Int, v = .int c ∧ 100 ≤ c ∧ c ≤ 99999999 := by
      simp only [List.mem_cons, List.not_mem_nil, or_false] at hvm
      rcases hvm with rfl | rfl | rfl | rfl | rfl <;> exact ⟨_, rfl, by decide, by decide⟩
    have h3 : H3 l1 = some (.lst [V.int 100, V.int 101, V.int 12345, V.int 10000, V.int 9999]) := by rw [e3 _ n1]; exact upd_same
    repeat walk_at "na"
    refine rd_ixL (SqL.of h3) hv ?_
    repeat walk_at "na"
    refine ⟨p, _, _, rfl, T3, by omega, by first | decide | omega, by first | decide | omega, fun six H4 s0 s1 T4 K4 _ => ?_⟩
    repeat walk_at "na"
    rename_i l2 hl2
    have k4 : Keep [p] H H4 := ((K1.trans K2).trans ((Keep.new (Keep.refl _ _) hl1).trans K3)).trans K4
    obtain ⟨u, hu, hum⟩ := atI_pick (xs := [V.int c, V.int (100 + six), V.int (100 + any), V.int 99999999]) w0 (by simp; omega)
    refine rd_ixL (SqL.of upd_same) hu ?_
    obtain ⟨d, rfl, d0, d1⟩ : ∃ d : Int, u = .int d ∧ 100 ≤ d ∧ d ≤ 99999999 := by
      simp only [List.mem_cons, List.not_mem_nil, or_false] at hum
      rcases hum with rfl | rfl | rfl | rfl <;> exact ⟨_, rfl, by omega, by omega⟩
    exact q d _ d0 d1 ((T4.new hl2).le (by omega)) (Keep.new k4 hl2)


/-! ### what is seen in cells -/
def Seen (H H' : Hp) (v : V) : Option (List V) → Prop
  | none => v = .non ∧ H' = H
  | some xs => ∃ T, v = .ref T ∧ H T = none ∧ H' = upd H T (.tup xs)
def pairS (word : Str) (rest : Int) : Option (List V) := if rest / 10 < 5 ∧ rest % 10 < 5 then some [.str word, .int (rest / 10), .int (rest % 10)] else none
def nilS (cell place : Int) : Option (List V) := if (cell - 8000) % 200 > 0 then some [.str "nil", .int ((cell - 8000) / 200), .int (place + (cell - 8000) % 200 - 99 - 1), .bl false] else none
def loneS (cell place : Int) : Option (List V) :=
  if cell = 0 then some [.str "stop"] else
  if 1000 ≤ cell ∧ cell < 1500 then some [.str "set", .int ((cell - 1000) / 100), .int (cell % 100)] else
  if 2000 ≤ cell ∧ cell < 3000 then pairS "sum" (cell - 2000) else
  if 3000 ≤ cell ∧ cell < 4000 then pairS "less" (cell - 3000) else
  if 4000 ≤ cell ∧ cell < 4005 then some [.str "tell", .int (cell - 4000)] else
  if 6001 ≤ cell ∧ cell ≤ 6999 then some [.str "go", .int (place + cell - 6500), .bl false] else
  if cell = 7002 then some [.str "pad"] else
  if 8001 ≤ cell ∧ cell < 9000 then nilS cell place else none
def spPair : Sp := fun vs H Q _ => ∃ (word : Str) (rest : Int), vs = [.str word, .int rest] ∧ ∀ v H', Seen H H' v (pairS word rest) → Q v H'
theorem ok_pair_seen (T : Txt K mg t) : FnOk P w K mg base CX0 1 t.f_pair_seen t.d_pair_seen ["word", "rest"] spPair := by
  obtain ⟨tk, hc_REGISTERS⟩ := T.c_REGISTERS
  refine T.F_pair_seen.ok sc_pair_seen (fun vs H Q E h => ?_) (fun cdv A outer s H vs Q E hr h => ?_)
  · obtain ⟨word, rest, rfl, _⟩ := h
    rfl
  · obtain ⟨word, rest, rfl, q⟩ := h
    refine ⟨_, (@pss_cons _ _ _ _ _ (ps_par (i := 2) (j := 3) rfl sc_pair_seen.nd rfl rfl (by decide) rfl rfl (@pa_cons _ _ _ _ _ (@pe_op _ _ _ _ _ _ _ _ op_fdiv (pv 1) pe_int) (@pa_cons _ _ _ _ _ (@pe_op _ _ _ _ _ _ _ _ op_mod (pv 1) pe_int) pa_nil (by rfl)) (by rfl)) rfl)
      (@pss_one _ _ _ (ps_ret (pe_ifExp (PW.pt (pw_and (@pt_cmpR _ _ _ _ _ _ _ _ op_lt (pv 2) (pe_glob (v := .int 5) rfl hc_REGISTERS ⟨_, rfl⟩) (nomark _)) (pw_and1 (@pt_cmpR _ _ _ _ _ _ _ _ op_lt (pv 3) (pe_glob (v := .int 5) rfl hc_REGISTERS ⟨_, rfl⟩) (nomark _))))) (@pe_tup _ _ _ _ _ (@pa_cons _ _ _ _ _ (pv 0) (@pa_cons _ _ _ _ _ (pv 2) (@pa_cons _ _ _ _ _ (pv 3) pa_nil (by rfl)) (by rfl)) (by rfl))) pe_non)))), ?_⟩
    repeat walk_at "na"
    refine iteD (fun h1 => ?_) (fun h1 => ?_)
    · repeat walk_at "na"
      refine iteD (fun h2 => ?_) (fun h2 => ?_)
      · repeat walk_at "na"
        rename_i T' hT
        exact q _ _ (by rw [pairS, if_pos ⟨h1, h2⟩]; exact ⟨T', rfl, hT, rfl⟩)
      · repeat walk_at "na"
        exact q _ _ (by rw [pairS, if_neg (fun z => h2 z.2)]; exact ⟨rfl, rfl⟩)
    · repeat walk_at "na"
      exact q _ _ (by rw [pairS, if_neg (fun z => h1 z.1)]; exact ⟨rfl, rfl⟩)
def spNil : Sp := fun vs H Q _ => ∃ (cell place : Int), vs = [.int cell, .int place] ∧ ∀ v H', Seen H H' v (nilS cell place) → Q v H'
theorem ok_nil_seen (T : Txt K mg t) : FnOk P w K mg base CX0 1 t.f_nil_seen t.d_nil_seen ["cell", "place"] spNil := by
  obtain ⟨tk1, hc_SHORT_NIL⟩ := T.c_SHORT_NIL
  obtain ⟨tk2, hc_FARTHEST_NIL⟩ := T.c_FARTHEST_NIL
  obtain ⟨tk3, hc_NILS_OF_ONE⟩ := T.c_NILS_OF_ONE
  refine T.F_nil_seen.ok sc_nil_seen (fun vs H Q E h => ?_) (fun cdv A outer s H vs Q E hr h => ?_)
  · obtain ⟨cell, place, rfl, _⟩ := h
    rfl
  · obtain ⟨cell, place, rfl, q⟩ := h
    refine ⟨_, (@pss_cons _ _ _ _ _ (@ps_set _ _ 2 _ _ _ _ sc_nil_seen.nd rfl (Or.inl rfl) (@pe_op _ _ _ _ _ _ _ _ op_sub (@pe_op _ _ _ _ _ _ _ _ op_sub (pe_glob (v := .int 8100) rfl hc_SHORT_NIL ⟨_, rfl⟩) (pe_glob (v := .int 99) rfl hc_FARTHEST_NIL ⟨_, rfl⟩)) pe_int) (by rfl) (by first | exact Or.inl rfl | exact Or.inr rfl | assumption))
      (@pss_cons _ _ _ _ _ (ps_par (i := 3) (j := 4) rfl sc_nil_seen.nd rfl rfl (by decide) rfl rfl (@pa_cons _ _ _ _ _ (@pe_op _ _ _ _ _ _ _ _ op_fdiv (@pe_op _ _ _ _ _ _ _ _ op_sub (pv 0) (pv 2)) (pe_glob (v := .int 200) rfl hc_NILS_OF_ONE ⟨_, rfl⟩)) (@pa_cons _ _ _ _ _ (@pe_op _ _ _ _ _ _ _ _ op_mod (@pe_op _ _ _ _ _ _ _ _ op_sub (pv 0) (pv 2)) (pe_glob (v := .int 200) rfl hc_NILS_OF_ONE ⟨_, rfl⟩)) pa_nil (by rfl)) (by rfl)) rfl)
      (@pss_one _ _ _ (ps_ret (pe_ifExp (@pt_cmpR _ _ _ _ _ _ _ _ op_gt (pv 4) pe_int (nomark _)) (@pe_tup _ _ _ _ _ (@pa_cons _ _ _ _ _ pe_str (@pa_cons _ _ _ _ _ (pv 3) (@pa_cons _ _ _ _ _ (@pe_op _ _ _ _ _ _ _ _ op_sub (@pe_op _ _ _ _ _ _ _ _ op_sub (@pe_op _ _ _ _ _ _ _ _ op_add (pv 1) (pv 4)) (pe_glob (v := .int 99) rfl hc_FARTHEST_NIL ⟨_, rfl⟩)) pe_int) (@pa_cons _ _ _ _ _ pe_bl pa_nil (by rfl)) (by rfl)) (by rfl)) (by rfl))) pe_non))))), ?_⟩
    repeat walk_at "na"
    rw [show (8100 - 99 - 1 : Int) = 8000 from rfl]
    refine iteD (fun h1 => ?_) (fun h1 => ?_)
    · repeat walk_at "na"
      rename_i T' hT
      exact q _ _ (by rw [nilS, if_pos h1]; exact ⟨T', rfl, hT, rfl⟩)
    · repeat walk_at "na"
      exact q _ _ (by rw [nilS, if_neg h1]; exact ⟨rfl, rfl⟩)
structure Bx (X : Prop) : Prop where
  out : X
theorem iteY {X : Prop} {p : Prop} [Decidable p] {A B : Prop} (x : X) (h1 : Bx X → p → A) (h2 : Bx X → ¬ p → B) : if decide p = true then A else B := iteD (h1 ⟨x⟩) (h2 ⟨x⟩)
def spLone : Sp := fun vs H Q _ => ∃ (cell place : Int), vs = [.int cell, .int place] ∧ ∀ v H', Seen H H' v (loneS cell place) → Q v H'
theorem ok_lone_seen (T : Txt K mg t) : FnOk P w K mg base CX0 2 t.f_lone_seen t.d_lone_seen ["cell", "place"] spLone := by
  obtain ⟨tk_STOP, hc_STOP⟩ := T.c_STOP
  obtain ⟨tk_SET, hc_SET⟩ := T.c_SET
  obtain ⟨tk_SUM, hc_SUM⟩ := T.c_SUM
  obtain ⟨tk_LESS, hc_LESS⟩ := T.c_LESS
  obtain ⟨tk_TELL, hc_TELL⟩ := T.c_TELL
  obtain ⟨tk_REGISTERS, hc_REGISTERS⟩ := T.c_REGISTERS
  obtain ⟨tk_SHORT_GO, hc_SHORT_GO⟩ := T.c_SHORT_GO
  obtain ⟨tk_FARTHEST_GO, hc_FARTHEST_GO⟩ := T.c_FARTHEST_GO
  obtain ⟨tk_PAD, hc_PAD⟩ := T.c_PAD
  obtain ⟨tk_SHORT_NIL, hc_SHORT_NIL⟩ := T.c_SHORT_NIL
  obtain ⟨tk_FARTHEST_NIL, hc_FARTHEST_NIL⟩ := T.c_FARTHEST_NIL
  obtain ⟨tk_LONG_NIL, hc_LONG_NIL⟩ := T.c_LONG_NIL
  have G_pair_seen := ok_pair_seen (P := P) (w := w) (base := base) T
  have G_nil_seen := ok_nil_seen (P := P) (w := w) (base := base) T
  refine T.F_lone_seen.ok sc_lone_seen (fun vs H Q E h => ?_) (fun cdv A outer s H vs Q E hr h => ?_)
  · obtain ⟨cell, place, rfl, _⟩ := h
    rfl
  · obtain ⟨cell, place, rfl, q⟩ := h
    refine ⟨_, (@pss_cons _ _ _ _ _ (@ps_if _ _ _ _ _ _ _ _ (@pt_cmpR _ _ _ _ _ _ _ _ op_eq (pv 0) (pe_glob (v := .int 0) rfl hc_STOP ⟨_, rfl⟩) (nomark _))
        (@pss_one _ _ _ (ps_ret (@pe_tup _ _ _ _ _ (@pa_cons _ _ _ _ _ pe_str pa_nil (by rfl)))))
        pss_nil)
      (@pss_cons _ _ _ _ _ (@ps_if _ _ _ _ _ _ _ _ (pt_chain op_le op_lt (pe_glob (v := .int 1000) rfl hc_SET ⟨_, rfl⟩) (pv 0) (@pe_op _ _ _ _ _ _ _ _ op_add (pe_glob (v := .int 1000) rfl hc_SET ⟨_, rfl⟩) (@pe_op _ _ _ _ _ _ _ _ op_mul pe_int (pe_glob (v := .int 5) rfl hc_REGISTERS ⟨_, rfl⟩))))
        (@pss_one _ _ _ (ps_ret (@pe_tup _ _ _ _ _ (@pa_cons _ _ _ _ _ pe_str (@pa_cons _ _ _ _ _ (@pe_op _ _ _ _ _ _ _ _ op_fdiv (@pe_op _ _ _ _ _ _ _ _ op_sub (pv 0) (pe_glob (v := .int 1000) rfl hc_SET ⟨_, rfl⟩)) pe_int) (@pa_cons _ _ _ _ _ (@pe_op _ _ _ _ _ _ _ _ op_mod (pv 0) pe_int) pa_nil (by rfl)) (by rfl)) (by rfl)))))
        pss_nil)
      (@pss_cons _ _ _ _ _ (@ps_if _ _ _ _ _ _ _ _ (pt_chain op_le op_lt (pe_glob (v := .int 2000) rfl hc_SUM ⟨_, rfl⟩) (pv 0) (pe_glob (v := .int 3000) rfl hc_LESS ⟨_, rfl⟩))
        (@pss_one _ _ _ (ps_ret (@pe_call _ _ _ _ _ _ _ _ _ _ _ _ _ _ _ _ G_pair_seen (hr.mono (by first | decide | omega)) rfl T.m_pair_seen T.F_pair_seen.kp T.b_pair_seen .nil pass0 (@pa_cons _ _ _ _ _ pe_str (@pa_cons _ _ _ _ _ (@pe_op _ _ _ _ _ _ _ _ op_sub (pv 0) (pe_glob (v := .int 2000) rfl hc_SUM ⟨_, rfl⟩)) pa_nil (by rfl)) (by rfl)) (by first | rfl | decide) (by rfl) (by rfl))))
        pss_nil)
      (@pss_cons _ _ _ _ _ (@ps_if _ _ _ _ _ _ _ _ (pt_chain op_le op_lt (pe_glob (v := .int 3000) rfl hc_LESS ⟨_, rfl⟩) (pv 0) (pe_glob (v := .int 4000) rfl hc_TELL ⟨_, rfl⟩))
        (@pss_one _ _ _ (ps_ret (@pe_call _ _ _ _ _ _ _ _ _ _ _ _ _ _ _ _ G_pair_seen (hr.mono (by first | decide | omega)) rfl T.m_pair_seen T.F_pair_seen.kp T.b_pair_seen .nil pass0 (@pa_cons _ _ _ _ _ pe_str (@pa_cons _ _ _ _ _ (@pe_op _ _ _ _ _ _ _ _ op_sub (pv 0) (pe_glob (v := .int 3000) rfl hc_LESS ⟨_, rfl⟩)) pa_nil (by rfl)) (by rfl)) (by first | rfl | decide) (by rfl) (by rfl))))
        pss_nil)
      (@pss_cons _ _ _ _ _ (@ps_if _ _ _ _ _ _ _ _ (pt_chain op_le op_lt (pe_glob (v := .int 4000) rfl hc_TELL ⟨_, rfl⟩) (pv 0) (@pe_op _ _ _ _ _ _ _ _ op_add (pe_glob (v := .int 4000) rfl hc_TELL ⟨_, rfl⟩) (pe_glob (v := .int 5) rfl hc_REGISTERS ⟨_, rfl⟩)))
        (@pss_one _ _ _ (ps_ret (@pe_tup _ _ _ _ _ (@pa_cons _ _ _ _ _ pe_str (@pa_cons _ _ _ _ _ (@pe_op _ _ _ _ _ _ _ _ op_sub (pv 0) (pe_glob (v := .int 4000) rfl hc_TELL ⟨_, rfl⟩)) pa_nil (by rfl)) (by rfl)))))
        pss_nil)
      (@pss_cons _ _ _ _ _ (@ps_if _ _ _ _ _ _ _ _ (@pt_cmpR _ _ _ _ _ _ _ _ op_le (@pe_callB _ _ _ _ _ _ _ _ _ call_abs rfl T.m_abs bt_abs (@pa_cons _ _ _ _ _ (@pe_op _ _ _ _ _ _ _ _ op_sub (pv 0) (pe_glob (v := .int 6500) rfl hc_SHORT_GO ⟨_, rfl⟩)) pa_nil (by rfl)) (by decide) (by first | rfl | decide) (by rfl) (by rfl)) (pe_glob (v := .int 499) rfl hc_FARTHEST_GO ⟨_, rfl⟩) (nomark _))
        (@pss_one _ _ _ (ps_ret (@pe_tup _ _ _ _ _ (@pa_cons _ _ _ _ _ pe_str (@pa_cons _ _ _ _ _ (@pe_op _ _ _ _ _ _ _ _ op_sub (@pe_op _ _ _ _ _ _ _ _ op_add (pv 1) (pv 0)) (pe_glob (v := .int 6500) rfl hc_SHORT_GO ⟨_, rfl⟩)) (@pa_cons _ _ _ _ _ pe_bl pa_nil (by rfl)) (by rfl)) (by rfl)))))
        pss_nil)
      (@pss_cons _ _ _ _ _ (@ps_if _ _ _ _ _ _ _ _ (@pt_cmpR _ _ _ _ _ _ _ _ op_eq (pv 0) (pe_glob (v := .int 7002) rfl hc_PAD ⟨_, rfl⟩) (nomark _))
        (@pss_one _ _ _ (ps_ret (@pe_tup _ _ _ _ _ (@pa_cons _ _ _ _ _ pe_str pa_nil (by rfl)))))
        pss_nil)
      (@pss_cons _ _ _ _ _ (@ps_if _ _ _ _ _ _ _ _ (pt_chain op_le op_lt (@pe_op _ _ _ _ _ _ _ _ op_sub (pe_glob (v := .int 8100) rfl hc_SHORT_NIL ⟨_, rfl⟩) (pe_glob (v := .int 99) rfl hc_FARTHEST_NIL ⟨_, rfl⟩)) (pv 0) (pe_glob (v := .int 9000) rfl hc_LONG_NIL ⟨_, rfl⟩))
        (@pss_one _ _ _ (ps_ret (@pe_call _ _ _ _ _ _ _ _ _ _ _ _ _ _ _ _ G_nil_seen (hr.mono (by first | decide | omega)) rfl T.m_nil_seen T.F_nil_seen.kp T.b_nil_seen .nil pass0 (@pa_cons _ _ _ _ _ (pv 0) (@pa_cons _ _ _ _ _ (pv 1) pa_nil (by rfl)) (by rfl)) (by first | rfl | decide) (by rfl) (by rfl))))
        pss_nil)
      (@pss_one _ _ _ (ps_ret pe_non)))))))))), ?_⟩
    repeat walk_at "na"
    refine iteD (fun p1 => ?_) (fun n1 => ?_)
    · repeat walk_at "na"
      rename_i T' hT
      exact q _ _ (by rw [loneS, if_pos p1]; exact ⟨T', rfl, hT, rfl⟩)
    repeat walk_at "na"
    refine' iteY ?key2 (fun key h1 => ?a2) (fun key h1 => ?b2)
    case b2 =>
      have n2 : ¬ (1000 ≤ cell ∧ cell < 1500) := fun z => h1 (by omega)
      repeat walk_at "na"
      revert n2
      exact key.out
    case a2 =>
      repeat walk_at "na"
      refine iteD (fun h2 => ?_) (fun h2 => ?_)
      · have p2 : 1000 ≤ cell ∧ cell < 1500 := ⟨by omega, by omega⟩
        repeat walk_at "na"
        rename_i T' hT
        exact q _ _ (by rw [loneS, if_neg n1, if_pos p2]; exact ⟨T', rfl, hT, rfl⟩)
      · repeat walk_at "na"
        exact key.out (fun z => h2 (by omega))
    intro n2
    refine' iteY ?key3 (fun key h1 => ?a3) (fun key h1 => ?b3)
    case b3 =>
      have n3 : ¬ (2000 ≤ cell ∧ cell < 3000) := fun z => h1 (by omega)
      repeat walk_at "na"
      revert n3
      exact key.out
    case a3 =>
      repeat walk_at "na"
      refine iteD (fun h2 => ?_) (fun h2 => ?_)
      · have p3 : 2000 ≤ cell ∧ cell < 3000 := ⟨by omega, by omega⟩
        repeat walk_at "na"
        exact fun v H' hs => q v H' (by rw [loneS, if_neg n1, if_neg n2, if_pos p3]; exact hs)
      · repeat walk_at "na"
        exact key.out (fun z => h2 (by omega))
    intro n3
    refine' iteY ?key4 (fun key h1 => ?a4) (fun key h1 => ?b4)
    case b4 =>
      have n4 : ¬ (3000 ≤ cell ∧ cell < 4000) := fun z => h1 (by omega)
      repeat walk_at "na"
      revert n4
      exact key.out
    case a4 =>
      repeat walk_at "na"
      refine iteD (fun h2 => ?_) (fun h2 => ?_)
      · have p4 : 3000 ≤ cell ∧ cell < 4000 := ⟨by omega, by omega⟩
        repeat walk_at "na"
        exact fun v H' hs => q v H' (by rw [loneS, if_neg n1, if_neg n2, if_neg n3, if_pos p4]; exact hs)
      · repeat walk_at "na"
        exact key.out (fun z => h2 (by omega))
    intro n4
    refine' iteY ?key5 (fun key h1 => ?a5) (fun key h1 => ?b5)
    case b5 =>
      have n5 : ¬ (4000 ≤ cell ∧ cell < 4005) := fun z => h1 (by omega)
      repeat walk_at "na"
      revert n5
      exact key.out
    case a5 =>
      repeat walk_at "na"
      refine iteD (fun h2 => ?_) (fun h2 => ?_)
      · have p5 : 4000 ≤ cell ∧ cell < 4005 := ⟨by omega, by omega⟩
        repeat walk_at "na"
        rename_i T' hT
        exact q _ _ (by rw [loneS, if_neg n1, if_neg n2, if_neg n3, if_neg n4, if_pos p5]; exact ⟨T', rfl, hT, rfl⟩)
      · repeat walk_at "na"
        exact key.out (fun z => h2 (by omega))
    intro n5
    refine iteD (fun h6 => ?_) (fun h6 => ?_)
    · have p6 : 6001 ≤ cell ∧ cell ≤ 6999 := by split at h6 <;> omega
      repeat walk_at "na"
      rename_i T' hT
      exact q _ _ (by rw [loneS, if_neg n1, if_neg n2, if_neg n3, if_neg n4, if_neg n5, if_pos p6]; exact ⟨T', rfl, hT, rfl⟩)
    have n6 : ¬ (6001 ≤ cell ∧ cell ≤ 6999) := fun z => h6 (by split <;> omega)
    repeat walk_at "na"
    refine iteD (fun p7 => ?_) (fun n7 => ?_)
    · repeat walk_at "na"
      rename_i T' hT
      exact q _ _ (by rw [loneS, if_neg n1, if_neg n2, if_neg n3, if_neg n4, if_neg n5, if_neg n6, if_pos p7]; exact ⟨T', rfl, hT, rfl⟩)
    repeat walk_at "na"
    refine iteD (fun h8 => ?_) (fun h8 => ?_)
    · repeat walk_at "na"
      refine iteD (fun h9 => ?_) (fun h9 => ?_)
      · repeat walk_at "na"
        exact fun v H' hs => q v H' (by rw [loneS, if_neg n1, if_neg n2, if_neg n3, if_neg n4, if_neg n5, if_neg n6, if_neg n7, if_pos ⟨by omega, h9⟩]; exact hs)
      · repeat walk_at "na"
        exact q _ _ (by rw [loneS, if_neg n1, if_neg n2, if_neg n3, if_neg n4, if_neg n5, if_neg n6, if_neg n7, if_neg (fun z => h9 z.2)]; exact ⟨rfl, rfl⟩)
    · repeat walk_at "na"
      exact q _ _ (by rw [loneS, if_neg n1, if_neg n2, if_neg n3, if_neg n4, if_neg n5, if_neg n6, if_neg n7, if_neg (fun z => h8 (by omega))]; exact ⟨rfl, rfl⟩)
def twoS (cell second place : Int) : Option (List V) :=
  if 5000 ≤ cell ∧ cell < 5500 then some [.str "great", .int ((cell - 5000) / 100), .int (place + second - 5000), .int (cell % 100)] else
  if cell = 7000 then some [.str "go", .int second, .bl true] else
  if cell = 7001 then some [.str "over", .int second] else
  if 9000 ≤ cell ∧ cell < 9005 then some [.str "nil", .int (cell - 9000), .int second, .bl true] else none
def spTwo : Sp := fun vs H Q _ => ∃ (cell second place : Int), vs = [.int cell, .int second, .int place] ∧ ∀ v H', Seen H H' v (twoS cell second place) → Q v H'
theorem ok_two_seen (T : Txt K mg t) : FnOk P w K mg base CX0 1 t.f_two_seen t.d_two_seen ["cell", "second", "place"] spTwo := by
  obtain ⟨tk_GREAT, hc_GREAT⟩ := T.c_GREAT
  obtain ⟨tk_REGISTERS, hc_REGISTERS⟩ := T.c_REGISTERS
  obtain ⟨tk_SAME_PLACE, hc_SAME_PLACE⟩ := T.c_SAME_PLACE
  obtain ⟨tk_LONG_GO, hc_LONG_GO⟩ := T.c_LONG_GO
  obtain ⟨tk_OVER, hc_OVER⟩ := T.c_OVER
  obtain ⟨tk_LONG_NIL, hc_LONG_NIL⟩ := T.c_LONG_NIL
  refine T.F_two_seen.ok sc_two_seen (fun vs H Q E h => ?_) (fun cdv A outer s H vs Q E hr h => ?_)
  · obtain ⟨cell, second, place, rfl, _⟩ := h
    rfl
  · obtain ⟨cell, second, place, rfl, q⟩ := h
    refine ⟨_, (@pss_cons _ _ _ _ _ (@ps_if _ _ _ _ _ _ _ _ (pt_chain op_le op_lt (pe_glob (v := .int 5000) rfl hc_GREAT ⟨_, rfl⟩) (pv 0) (@pe_op _ _ _ _ _ _ _ _ op_add (pe_glob (v := .int 5000) rfl hc_GREAT ⟨_, rfl⟩) (@pe_op _ _ _ _ _ _ _ _ op_mul pe_int (pe_glob (v := .int 5) rfl hc_REGISTERS ⟨_, rfl⟩))))
        (@pss_one _ _ _ (ps_ret (@pe_tup _ _ _ _ _ (@pa_cons _ _ _ _ _ pe_str (@pa_cons _ _ _ _ _ (@pe_op _ _ _ _ _ _ _ _ op_fdiv (@pe_op _ _ _ _ _ _ _ _ op_sub (pv 0) (pe_glob (v := .int 5000) rfl hc_GREAT ⟨_, rfl⟩)) pe_int) (@pa_cons _ _ _ _ _ (@pe_op _ _ _ _ _ _ _ _ op_sub (@pe_op _ _ _ _ _ _ _ _ op_add (pv 2) (pv 1)) (pe_glob (v := .int 5000) rfl hc_SAME_PLACE ⟨_, rfl⟩)) (@pa_cons _ _ _ _ _ (@pe_op _ _ _ _ _ _ _ _ op_mod (pv 0) pe_int) pa_nil (by rfl)) (by rfl)) (by rfl)) (by rfl)))))
        pss_nil)
      (@pss_cons _ _ _ _ _ (@ps_if _ _ _ _ _ _ _ _ (@pt_cmpR _ _ _ _ _ _ _ _ op_eq (pv 0) (pe_glob (v := .int 7000) rfl hc_LONG_GO ⟨_, rfl⟩) (nomark _))
        (@pss_one _ _ _ (ps_ret (@pe_tup _ _ _ _ _ (@pa_cons _ _ _ _ _ pe_str (@pa_cons _ _ _ _ _ (pv 1) (@pa_cons _ _ _ _ _ pe_bl pa_nil (by rfl)) (by rfl)) (by rfl)))))
        pss_nil)
      (@pss_cons _ _ _ _ _ (@ps_if _ _ _ _ _ _ _ _ (@pt_cmpR _ _ _ _ _ _ _ _ op_eq (pv 0) (pe_glob (v := .int 7001) rfl hc_OVER ⟨_, rfl⟩) (nomark _))
        (@pss_one _ _ _ (ps_ret (@pe_tup _ _ _ _ _ (@pa_cons _ _ _ _ _ pe_str (@pa_cons _ _ _ _ _ (pv 1) pa_nil (by rfl)) (by rfl)))))
        pss_nil)
      (@pss_cons _ _ _ _ _ (@ps_if _ _ _ _ _ _ _ _ (pt_chain op_le op_lt (pe_glob (v := .int 9000) rfl hc_LONG_NIL ⟨_, rfl⟩) (pv 0) (@pe_op _ _ _ _ _ _ _ _ op_add (pe_glob (v := .int 9000) rfl hc_LONG_NIL ⟨_, rfl⟩) (pe_glob (v := .int 5) rfl hc_REGISTERS ⟨_, rfl⟩)))
        (@pss_one _ _ _ (ps_ret (@pe_tup _ _ _ _ _ (@pa_cons _ _ _ _ _ pe_str (@pa_cons _ _ _ _ _ (@pe_op _ _ _ _ _ _ _ _ op_sub (pv 0) (pe_glob (v := .int 9000) rfl hc_LONG_NIL ⟨_, rfl⟩)) (@pa_cons _ _ _ _ _ (pv 1) (@pa_cons _ _ _ _ _ pe_bl pa_nil (by rfl)) (by rfl)) (by rfl)) (by rfl)))))
        pss_nil)
      (@pss_one _ _ _ (ps_ret pe_non)))))), ?_⟩
    repeat walk_at "na"
    refine' iteY ?key1 (fun key h1 => ?a1) (fun key h1 => ?b1)
    case b1 =>
      have n1 : ¬ (5000 ≤ cell ∧ cell < 5500) := fun z => h1 (by omega)
      repeat walk_at "na"
      revert n1
      exact key.out
    case a1 =>
      repeat walk_at "na"
      refine iteD (fun h2 => ?_) (fun h2 => ?_)
      · have p1 : 5000 ≤ cell ∧ cell < 5500 := ⟨by omega, by omega⟩
        repeat walk_at "na"
        rename_i T' hT
        exact q _ _ (by rw [twoS, if_pos p1]; exact ⟨T', rfl, hT, rfl⟩)
      · repeat walk_at "na"
        exact key.out (fun z => h2 (by omega))
    intro n1
    refine iteD (fun p2 => ?_) (fun n2 => ?_)
    · repeat walk_at "na"
      rename_i T' hT
      exact q _ _ (by rw [twoS, if_neg n1, if_pos p2]; exact ⟨T', rfl, hT, rfl⟩)
    repeat walk_at "na"
    refine iteD (fun p3 => ?_) (fun n3 => ?_)
    · repeat walk_at "na"
      rename_i T' hT
      exact q _ _ (by rw [twoS, if_neg n1, if_neg n2, if_pos p3]; exact ⟨T', rfl, hT, rfl⟩)
    repeat walk_at "na"
    refine iteD (fun h8 => ?_) (fun h8 => ?_)
    · repeat walk_at "na"
      refine iteD (fun h9 => ?_) (fun h9 => ?_)
      · repeat walk_at "na"
        rename_i T' hT
        exact q _ _ (by rw [twoS, if_neg n1, if_neg n2, if_neg n3, if_pos ⟨h8, by omega⟩]; exact ⟨T', rfl, hT, rfl⟩)
      · repeat walk_at "na"
        exact q _ _ (by rw [twoS, if_neg n1, if_neg n2, if_neg n3, if_neg (fun z => h9 (by omega))]; exact ⟨rfl, rfl⟩)
    · repeat walk_at "na"
      exact q _ _ (by rw [twoS, if_neg n1, if_neg n2, if_neg n3, if_neg (fun z => h8 z.1)]; exact ⟨rfl, rfl⟩)

inductive Sn where
  | flat (xs : List V) (nxt : Int) | pool (ns : List Int) (nxt : Int)
def SeenAt (H H' : Hp) (v : V) : Option Sn → Prop
  | none => v = .non ∧ Keep [] H H'
  | some (.flat xs nxt) => ∃ T U, v = .ref U ∧ H' U = some (.tup [.ref T, .int nxt]) ∧ H' T = some (.tup xs) ∧ Keep [] H H'
  | some (.pool ns nxt) => ∃ T U N, v = .ref U ∧ H' U = some (.tup [.ref T, .int nxt]) ∧ H' T = some (.tup [.str "pool", .ref N]) ∧ H' N = some (.tup (ns.map V.int)) ∧ Keep [] H H'
def ci (cs : List Int) (k : Nat) : Int := cs.getD k 0
theorem ci_at {cs : List Int} {k : Nat} (h : k < cs.length) : atI (cs.map V.int) (k : Int) = some (.int (ci cs k)) := by
  refine atI_nat ?_
  rw [List.getElem?_map, List.getElem?_eq_getElem h]
  simp [ci, h]
def words (cs : List Int) (b m : Nat) : List Int := (List.range m).map fun i => ci cs (b + 2 * i) * 10000 + ci cs (b + 2 * i + 1)
theorem words_succ (cs : List Int) (b m : Nat) : words cs b (m + 1) = words cs b m ++ [ci cs (b + 2 * m) * 10000 + ci cs (b + 2 * m + 1)] := by
  unfold words
  rw [List.range_succ, List.map_append]; rfl
theorem words_len (cs : List Int) (b m : Nat) : (words cs b m).length = m := by simp [words]
def poolS (cs : List Int) (place : Nat) : Option Sn :=
  if (place : Int) + 1 + 2 * (ci cs place - 7100) > cs.length then none else some (.pool (words cs (place + 1) (ci cs place - 7100).toNat) ((place : Int) + 1 + 2 * (ci cs place - 7100)))
def spPool : Sp := fun vs H Q _ => ∃ (a : Addr) (cs : List Int) (place : Nat), vs = [.ref a, .int place] ∧ H a = some (.lst (cs.map V.int)) ∧ place < cs.length ∧ cs.length ≤ 10000 ∧ 7100 < ci cs place ∧ ci cs place ≤ 7200 ∧
  ∀ v H', SeenAt H H' v (poolS cs place) → Q v H'
theorem ok_pool_seen (T : Txt K mg t) : FnOk P w K mg base CX0 1 t.f_pool_seen t.d_pool_seen ["cells", "place"] spPool := by
  obtain ⟨tk_POOL, hc_POOL⟩ := T.c_POOL
  obtain ⟨tk_HALF, hc_HALF_WORD⟩ := T.c_HALF_WORD
  refine T.F_pool_seen.ok sc_pool_seen (fun vs H Q E h => ?_) (fun cdv A outer s H vs Q E hr h => ?_)
  · obtain ⟨a, cs, place, rfl, _⟩ := h
    rfl
  · obtain ⟨a, cs, place, rfl, ha, hp, hl, c0, c1, q⟩ := h
    refine ⟨_, (@pss_cons _ _ _ _ _ (@ps_set _ _ 2 _ _ _ _ sc_pool_seen.nd rfl (Or.inl rfl) (@pe_op _ _ _ _ _ _ _ _ op_add (pv 1) pe_int) (by rfl) (by first | exact Or.inl rfl | exact Or.inr rfl | assumption))
      (@pss_cons _ _ _ _ _ (@ps_set _ _ 3 _ _ _ _ sc_pool_seen.nd rfl (Or.inl rfl) (@pe_op _ _ _ _ _ _ _ _ op_add (pv 2) (@pe_op _ _ _ _ _ _ _ _ op_mul pe_int (@pe_op _ _ _ _ _ _ _ _ op_sub (@pe_ix _ _ _ _ _ _ _ ix_list (pv 0) (pv 1) (fun _ _ => rfl)) (pe_glob (v := .int 7100) rfl hc_POOL ⟨_, rfl⟩)))) (by rfl) (by first | exact Or.inl rfl | exact Or.inr rfl | assumption))
      (@pss_cons _ _ _ _ _ (@ps_if _ _ _ _ _ _ _ _ (@pt_cmpR _ _ _ _ _ _ _ _ op_gt (pv 3) (@pe_callB _ _ _ _ _ _ _ _ _ call_len_seq rfl T.m_len bt_len (@pa_cons _ _ _ _ _ (pv 0) pa_nil (by rfl)) (by decide) (by first | rfl | decide) (by rfl) (by rfl)) (nomark _))
        (@pss_one _ _ _ (ps_ret pe_non))
        pss_nil)
      (@pss_cons _ _ _ _ _ (ps_setC (i := 4) sc_pool_seen.nd rfl rfl rfl sn_pool_seen_0.sc (pi_range3 rfl T.m_range (@pa_cons _ _ _ _ _ (pv 2) (@pa_cons _ _ _ _ _ (pv 3) (@pa_cons _ _ _ _ _ pe_int pa_nil (by rfl)) (by rfl)) (by rfl))) (fun _ => (pg_name (i := 0) sn_pool_seen_0.nd rfl (Or.inl rfl))) (fun _ _ => (act_plain (@pe_op _ _ _ _ _ _ _ _ op_add (@pe_op _ _ _ _ _ _ _ _ op_mul (@pe_ix _ _ _ _ _ _ _ ix_list (pv 1) (pv 0) (fun _ _ => rfl)) (pe_glob (v := .int 10000) rfl hc_HALF_WORD ⟨_, rfl⟩)) (@pe_ix _ _ _ _ _ _ _ ix_list (pv 1) (@pe_op _ _ _ _ _ _ _ _ op_add (pv 0) pe_int) (fun _ _ => rfl))))))
      (@pss_one _ _ _ (ps_ret (@pe_tup _ _ _ _ _ (@pa_cons _ _ _ _ _ (@pe_tup _ _ _ _ _ (@pa_cons _ _ _ _ _ pe_str (@pa_cons _ _ _ _ _ (@pe_callTy _ _ _ _ _ _ _ _ _ call_tuple_of rfl T.m_tuple bt_tuple (@pa_cons _ _ _ _ _ (pv 4) pa_nil (by rfl)) (by decide) (by first | rfl | decide) (by rfl) (by rfl)) pa_nil (by rfl)) (by rfl))) (@pa_cons _ _ _ _ _ (pv 3) pa_nil (by rfl)) (by rfl))))))))), ?_⟩
    repeat walk_at "na"
    refine rd_ixL (SqL.of ha) (ci_at hp) ?_
    repeat walk_at "na"
    refine iteD (fun h1 => ?_) (fun h1 => ?_)
    · repeat walk_at "na"
      rw [List.length_map] at h1
      exact q _ _ (by rw [poolS, if_pos h1]; exact ⟨rfl, Keep.refl _ _⟩)
    · rw [List.length_map] at h1
      repeat walk_at "na"
      obtain ⟨k, hk⟩ : ∃ k : Nat, (k : Int) = ci cs place - 7100 := ⟨(ci cs place - 7100).toNat, by omega⟩
      have hkt : (ci cs place - 7100).toNat = k := by omega
      rw [← hk] at h1
      refine ⟨_, _, _, k, rfl, ⟨by omega, by omega, by omega, by omega, by omega, by omega⟩, ?_, fun c D hD => comp_step (c := 2) (n := k) (fun m σ Hd => ∃ v0, σ = [v0, some (.ref a)] ∧ Keep [] H Hd ∧ Hd D = some (.lst ((words cs (place + 1) m).map V.int))) ?_ ?_ ?_⟩
      · unfold Builtin.Range.rangeSize
        rw [if_pos (by decide)]
        split <;> omega
      · exact ⟨_, rfl, Keep.new (Keep.refl _ _) hD, upd_same⟩
      · rintro m σ Hd hm ⟨v0, rfl, kd, hDd⟩ R hR
        have had := kd _ _ ha (by simp)
        have e1 : (place : Int) + 1 + (m : Int) * 2 = ((place + 1 + 2 * m : Nat) : Int) := by omega
        have e2 : (place : Int) + 1 + (m : Int) * 2 + 1 = ((place + 1 + 2 * m + 1 : Nat) : Int) := by omega
        have i1 : atI (cs.map V.int) ((place : Int) + 1 + (m : Int) * 2) = some (.int (ci cs (place + 1 + 2 * m))) := by rw [e1]; exact ci_at (by omega)
        have i2 : atI (cs.map V.int) ((place : Int) + 1 + (m : Int) * 2 + 1) = some (.int (ci cs (place + 1 + 2 * m + 1))) := by rw [e2]; exact ci_at (by omega)
        repeat walk_at "na"
        refine rd_ixL (SqL.of had) i1 ?_
        repeat walk_at "na"
        refine rd_ixL (SqL.of had) i2 ?_
        repeat walk_at "na"
        exact ⟨_, hDd, Nat.lt_of_le_of_lt (show _ ≤ 1000 by rw [List.length_map, words_len]; omega) (by decide), hR _ _ ⟨_, rfl, Keep.put kd (.inr hD), by rw [upd_same, words_succ, List.map_append]; rfl⟩⟩
      · rintro σ Hd ⟨v0, rfl, kd, hDd⟩
        repeat walk_at "na"
        refine ⟨D, _, rfl, .inl ⟨SqL.of hDd, fun N hN => ?_⟩⟩
        repeat walk_at "na"
        rename_i T1 hT1 U hU
        refine q _ _ ?_
        rw [poolS, if_neg (by rw [← hk]; exact h1), hkt]
        refine ⟨T1, U, N, rfl, ?_, ?_, ?_, ?_⟩
        · exact upd_same
        · exact upd_old upd_same hU
        · exact upd_old (upd_old upd_same hT1) hU
        · exact Keep.new (Keep.new (Keep.new kd hN) hT1) hU
def seenS (cs : List Int) (place : Int) : Option Sn :=
  if 0 ≤ place ∧ place < cs.length then
    (if 7100 < ci cs place.toNat ∧ ci cs place.toNat ≤ 7200 then poolS cs place.toNat else
      match loneS (ci cs place.toNat) place with
      | some xs => some (.flat xs (place + 1))
      | none => if place + 1 = cs.length then none else
        match twoS (ci cs place.toNat) (ci cs (place.toNat + 1)) place with
        | some xs => some (.flat xs (place + 2))
        | none => none)
  else none
def spSeen : Sp := fun vs H Q _ => ∃ (a : Addr) (cs : List Int) (place : Int), vs = [.ref a, .int place] ∧ H a = some (.lst (cs.map V.int)) ∧ cs.length ≤ 10000 ∧
  ∀ v H', SeenAt H H' v (seenS cs place) → Q v H'
theorem ok_seen_at (T : Txt K mg t) : FnOk P w K mg base CX0 3 t.f_seen_at t.d_seen_at ["cells", "place"] spSeen := by
  obtain ⟨tk_POOL, hc_POOL⟩ := T.c_POOL
  obtain ⟨tk_MOST, hc_MOST_WORDS⟩ := T.c_MOST_WORDS
  have G_pool_seen := ok_pool_seen (P := P) (w := w) (base := base) T
  have G_lone_seen := ok_lone_seen (P := P) (w := w) (base := base) T
  have G_two_seen := ok_two_seen (P := P) (w := w) (base := base) T
  refine T.F_seen_at.ok sc_seen_at (fun vs H Q E h => ?_) (fun cdv A outer s H vs Q E hr h => ?_)
  · obtain ⟨a, cs, place, rfl, _⟩ := h
    rfl
  · obtain ⟨a, cs, place, rfl, ha, hl, q⟩ := h
    refine ⟨_, (@pss_cons _ _ _ _ _ (@ps_if _ _ _ _ _ _ _ _ (pt_not (pt_chain op_le op_lt pe_int (pv 1) (@pe_callB _ _ _ _ _ _ _ _ _ call_len_seq rfl T.m_len bt_len (@pa_cons _ _ _ _ _ (pv 0) pa_nil (by rfl)) (by decide) (by first | rfl | decide) (by rfl) (by rfl))))
        (@pss_one _ _ _ (ps_ret pe_non))
        pss_nil)
      (@pss_cons _ _ _ _ _ (@ps_set _ _ 2 _ _ _ _ sc_seen_at.nd rfl (Or.inl rfl) (@pe_ix _ _ _ _ _ _ _ ix_list (pv 0) (pv 1) (fun _ _ => rfl)) (by rfl) (by first | exact Or.inl rfl | exact Or.inr rfl | assumption))
      (@pss_cons _ _ _ _ _ (@ps_if _ _ _ _ _ _ _ _ (pt_chain op_lt op_le (pe_glob (v := .int 7100) rfl hc_POOL ⟨_, rfl⟩) (pv 2) (@pe_op _ _ _ _ _ _ _ _ op_add (pe_glob (v := .int 7100) rfl hc_POOL ⟨_, rfl⟩) (pe_glob (v := .int 100) rfl hc_MOST_WORDS ⟨_, rfl⟩)))
        (@pss_one _ _ _ (ps_ret (@pe_call _ _ _ _ _ _ _ _ _ _ _ _ _ _ _ _ G_pool_seen (hr.mono (by first | decide | omega)) rfl T.m_pool_seen T.F_pool_seen.kp T.b_pool_seen .nil pass0 (@pa_cons _ _ _ _ _ (pv 0) (@pa_cons _ _ _ _ _ (pv 1) pa_nil (by rfl)) (by rfl)) (by first | rfl | decide) (by rfl) (by rfl))))
        pss_nil)
      (@pss_cons _ _ _ _ _ (@ps_set _ _ 3 _ _ _ _ sc_seen_at.nd rfl (Or.inl rfl) (@pe_call _ _ _ _ _ _ _ _ _ _ _ _ _ _ _ _ G_lone_seen (hr.mono (by first | decide | omega)) rfl T.m_lone_seen T.F_lone_seen.kp T.b_lone_seen .nil pass0 (@pa_cons _ _ _ _ _ (pv 2) (@pa_cons _ _ _ _ _ (pv 1) pa_nil (by rfl)) (by rfl)) (by first | rfl | decide) (by rfl) (by rfl)) (by rfl) (by first | exact Or.inl rfl | exact Or.inr rfl | assumption))
      (@pss_cons _ _ _ _ _ (@ps_if _ _ _ _ _ _ _ _ (pt_cmp (pc_notN (pv 3)))
        (@pss_one _ _ _ (ps_ret (@pe_tup _ _ _ _ _ (@pa_cons _ _ _ _ _ (pv 3) (@pa_cons _ _ _ _ _ (@pe_op _ _ _ _ _ _ _ _ op_add (pv 1) pe_int) pa_nil (by rfl)) (by rfl)))))
        pss_nil)
      (@pss_cons _ _ _ _ _ (@ps_if _ _ _ _ _ _ _ _ (@pt_cmpR _ _ _ _ _ _ _ _ op_eq (@pe_op _ _ _ _ _ _ _ _ op_add (pv 1) pe_int) (@pe_callB _ _ _ _ _ _ _ _ _ call_len_seq rfl T.m_len bt_len (@pa_cons _ _ _ _ _ (pv 0) pa_nil (by rfl)) (by decide) (by first | rfl | decide) (by rfl) (by rfl)) (nomark _))
        (@pss_one _ _ _ (ps_ret pe_non))
        pss_nil)
      (@pss_cons _ _ _ _ _ (@ps_set _ _ 4 _ _ _ _ sc_seen_at.nd rfl (Or.inl rfl) (@pe_call _ _ _ _ _ _ _ _ _ _ _ _ _ _ _ _ G_two_seen (hr.mono (by first | decide | omega)) rfl T.m_two_seen T.F_two_seen.kp T.b_two_seen .nil pass0 (@pa_cons _ _ _ _ _ (pv 2) (@pa_cons _ _ _ _ _ (@pe_ix _ _ _ _ _ _ _ ix_list (pv 0) (@pe_op _ _ _ _ _ _ _ _ op_add (pv 1) pe_int) (fun _ _ => rfl)) (@pa_cons _ _ _ _ _ (pv 1) pa_nil (by rfl)) (by rfl)) (by rfl)) (by first | rfl | decide) (by rfl) (by rfl)) (by rfl) (by first | exact Or.inl rfl | exact Or.inr rfl | assumption))
      (@pss_one _ _ _ (ps_ret (pe_ifExp (pt_cmp (pc_isN (pv 4))) pe_non (@pe_tup _ _ _ _ _ (@pa_cons _ _ _ _ _ (pv 4) (@pa_cons _ _ _ _ _ (@pe_op _ _ _ _ _ _ _ _ op_add (pv 1) pe_int) pa_nil (by rfl)) (by rfl))))))))))))), ?_⟩
    have out : ¬ (0 ≤ place ∧ place < cs.length) → Q .non H := fun hn => q _ _ (by rw [seenS, if_neg hn]; exact ⟨rfl, Keep.refl _ _⟩)
    repeat walk_at "na"
    refine iteD (fun h0 => ?_) (fun h0 => ?_)
    · obtain ⟨p, rfl⟩ := Int.eq_ofNat_of_zero_le h0
      repeat walk_at "na"
      refine iteDN (fun h1 => ?_) (fun h1 => ?_)
      · repeat walk_at "na"
        rw [List.length_map] at h1
        exact out (fun z => h1 z.2)
      rw [List.length_map] at h1
      have hp : p < cs.length := by omega
      have hin : 0 ≤ (p : Int) ∧ (p : Int) < cs.length := ⟨h0, h1⟩
      have q' : ∀ v H', SeenAt H H' v (if 7100 < ci cs p ∧ ci cs p ≤ 7200 then poolS cs p else
          match loneS (ci cs p) p with
          | some xs => some (.flat xs ((p : Int) + 1))
          | none => if (p : Int) + 1 = cs.length then none else
            match twoS (ci cs p) (ci cs (p + 1)) p with
            | some xs => some (.flat xs ((p : Int) + 2))
            | none => none) → Q v H' := fun v H' hs => q v H' (by rw [seenS, if_pos hin]; exact hs)
      repeat walk_at "na"
      refine rd_ixL (SqL.of ha) (ci_at hp) ?_
      repeat walk_at "na"
      refine' iteY ?keyS (fun key h2 => ?brA) (fun key h2 => ?brB)
      case brB =>
        have n : ¬ (7100 < ci cs p ∧ ci cs p ≤ 7200) := fun z => h2 (by omega)
        repeat walk_at "na"
        revert n
        exact key.out
      case brA =>
        repeat walk_at "na"
        refine iteD (fun h3 => ?_) (fun h3 => ?_)
        · repeat walk_at "na"
          refine ⟨a, cs, p, rfl, ha, hp, hl, h2, by omega, fun v H' hs => q' v H' ?_⟩
          rw [if_pos ⟨h2, by omega⟩]
          exact hs
        · repeat walk_at "na"
          exact key.out (fun z => h3 (by omega))
      intro n v H' hs
      have q2 : ∀ v H', SeenAt H H' v (match loneS (ci cs p) p with
          | some xs => some (.flat xs ((p : Int) + 1))
          | none => if (p : Int) + 1 = cs.length then none else
            match twoS (ci cs p) (ci cs (p + 1)) p with
            | some xs => some (.flat xs ((p : Int) + 2))
            | none => none) → Q v H' := fun v H' hs => q' v H' (by rw [if_neg n]; exact hs)
      clear q q'
      generalize loneS (ci cs p) p = lo at hs q2
      cases lo with
      | some xs =>
        obtain ⟨T1, rfl, hT1, rfl⟩ := hs
        repeat walk_at "na"
        rename_i U hU
        exact q2 _ _ ⟨T1, U, rfl, upd_same, upd_old upd_same hU, Keep.new (Keep.new (Keep.refl _ _) hT1) hU⟩
      | none =>
        obtain ⟨rfl, e0⟩ := hs
        subst e0
        have q3 : ∀ v H'', SeenAt H' H'' v (if (p : Int) + 1 = cs.length then none else
            match twoS (ci cs p) (ci cs (p + 1)) p with
            | some xs => some (.flat xs ((p : Int) + 2))
            | none => none) → Q v H'' := q2
        repeat walk_at "na"
        refine iteD (fun e => ?_) (fun e => ?_)
        · rw [List.length_map] at e
          repeat walk_at "na"
          exact q3 _ _ (by rw [if_pos e]; exact ⟨rfl, Keep.refl _ _⟩)
        · rw [List.length_map] at e
          have q4 : ∀ v H'', SeenAt H' H'' v (match twoS (ci cs p) (ci cs (p + 1)) p with
            | some xs => some (.flat xs ((p : Int) + 2))
            | none => none) → Q v H'' := fun v H'' hs => q3 v H'' (by rw [if_neg e]; exact hs)
          have e1 : (p : Int) + 1 = ((p + 1 : Nat) : Int) := by omega
          have i1 : atI (cs.map V.int) ((p : Int) + 1) = some (.int (ci cs (p + 1))) := by rw [e1]; exact ci_at (by omega)
          repeat walk_at "na"
          refine rd_ixL (SqL.of ha) i1 ?_
          repeat walk_at "na"
          refine ⟨_, _, _, rfl, fun v H'' hs => ?_⟩
          generalize twoS (ci cs p) (ci cs (p + 1)) p = tw at hs q4
          cases tw with
          | some xs =>
            obtain ⟨T1, rfl, hT1, rfl⟩ := hs
            repeat walk_at "na"
            rename_i U hU
            exact q4 _ _ ⟨T1, U, rfl, upd_same, upd_old upd_same hU, Keep.new (Keep.new (Keep.refl _ _) hT1) hU⟩
          | none =>
            obtain ⟨rfl, e0⟩ := hs
            subst e0
            repeat walk_at "na"
            exact q4 _ _ ⟨rfl, Keep.refl _ _⟩
    · repeat walk_at "na"
      exact out (fun z => h0 z.1)

/-! ### what is seen, as things -/
inductive Th where
  | row (r : Rw) | great (r : Nat) (b k : Int) | go (q : Int) (l : Bool) | nil (r : Nat) (q : Int) (l : Bool) | over (q : Int) | pad | pool (ns : List Int)
def thV : Th → List V
  | .row r => rowV r
  | .great r b k => [.str "great", .int r, .int b, .int k]
  | .go q l => [.str "go", .int q, .bl l]
  | .nil r q l => [.str "nil", .int r, .int q, .bl l]
  | .over q => [.str "over", .int q]
  | .pad => [.str "pad"]
  | .pool _ => []
def ThOk : Th → Prop
  | .row (.set r _) => r < 5
  | .row (.sum r s) => r < 5 ∧ s < 5
  | .row (.less r s) => r < 5 ∧ s < 5
  | .row (.tell r) => r < 5
  | .row .stop => True
  | .row _ => False
  | .great r _ k => r < 5 ∧ 0 ≤ k
  | .nil r _ _ => r < 5
  | _ => True
def loneT (cell place : Int) : Option Th :=
  if cell = 0 then some (.row .stop) else
  if 1000 ≤ cell ∧ cell < 1500 then some (.row (.set ((cell - 1000) / 100).toNat (cell % 100))) else
  if 2000 ≤ cell ∧ cell < 3000 then (if (cell - 2000) / 10 < 5 ∧ (cell - 2000) % 10 < 5 then some (.row (.sum ((cell - 2000) / 10).toNat ((cell - 2000) % 10).toNat)) else none) else
  if 3000 ≤ cell ∧ cell < 4000 then (if (cell - 3000) / 10 < 5 ∧ (cell - 3000) % 10 < 5 then some (.row (.less ((cell - 3000) / 10).toNat ((cell - 3000) % 10).toNat)) else none) else
  if 4000 ≤ cell ∧ cell < 4005 then some (.row (.tell (cell - 4000).toNat)) else
  if 6001 ≤ cell ∧ cell ≤ 6999 then some (.go (place + cell - 6500) false) else
  if cell = 7002 then some .pad else
  if 8001 ≤ cell ∧ cell < 9000 then (if (cell - 8000) % 200 > 0 then some (.nil ((cell - 8000) / 200).toNat (place + (cell - 8000) % 200 - 99 - 1) false) else none) else none
def twoT (cell second place : Int) : Option Th :=
  if 5000 ≤ cell ∧ cell < 5500 then some (.great ((cell - 5000) / 100).toNat (place + second - 5000) (cell % 100)) else
  if cell = 7000 then some (.go second true) else
  if cell = 7001 then some (.over second) else
  if 9000 ≤ cell ∧ cell < 9005 then some (.nil (cell - 9000).toNat second true) else none
theorem loneS_T (c p : Int) : loneS c p = (loneT c p).map thV := by
  unfold loneS loneT pairS nilS
  repeat' split
  all_goals first | rfl | (simp only [Option.map, thV, rowV]; rw [Int.toNat_of_nonneg (by omega), Int.toNat_of_nonneg (by omega)]) | (simp only [Option.map, thV, rowV]; rw [Int.toNat_of_nonneg (by omega)])
theorem twoS_T (c d p : Int) : twoS c d p = (twoT c d p).map thV := by
  unfold twoS twoT
  repeat' split
  all_goals first | rfl | (simp only [Option.map, thV]; rw [Int.toNat_of_nonneg (by omega)])
theorem loneT_ok {c p : Int} {th : Th} (h : loneT c p = some th) : ThOk th ∧ (∀ ns, th ≠ .pool ns) := by
  unfold loneT at h
  repeat' split at h
  all_goals first | (cases h; exact ⟨by simp only [ThOk] <;> omega, fun _ z => by cases z⟩) | (cases h; exact ⟨trivial, fun _ z => by cases z⟩) | cases h
theorem twoT_ok {c d p : Int} {th : Th} (h : twoT c d p = some th) : ThOk th ∧ (∀ ns, th ≠ .pool ns) := by
  unfold twoT at h
  repeat' split at h
  all_goals first | (cases h; exact ⟨by simp only [ThOk] <;> omega, fun _ z => by cases z⟩) | (cases h; exact ⟨trivial, fun _ z => by cases z⟩) | cases h
def seenT (cs : List Int) (place : Int) : Option (Th × Int) :=
  if 0 ≤ place ∧ place < cs.length then
    (if 7100 < ci cs place.toNat ∧ ci cs place.toNat ≤ 7200 then
      (if (place.toNat : Int) + 1 + 2 * (ci cs place.toNat - 7100) > cs.length then none else some (.pool (words cs (place.toNat + 1) (ci cs place.toNat - 7100).toNat), (place.toNat : Int) + 1 + 2 * (ci cs place.toNat - 7100))) else
      match loneT (ci cs place.toNat) place with
      | some th => some (th, place + 1)
      | none => if place + 1 = cs.length then none else
        match twoT (ci cs place.toNat) (ci cs (place.toNat + 1)) place with
        | some th => some (th, place + 2)
        | none => none)
  else none
def snOf : Th × Int → Sn
  | (.pool ns, n) => .pool ns n
  | (th, n) => .flat (thV th) n
theorem snOf_flat {th : Th} (h : ∀ ns, th ≠ .pool ns) (n : Int) : snOf (th, n) = .flat (thV th) n := by
  cases th <;> first | rfl | exact absurd rfl (h _)
theorem seenS_T (cs : List Int) (p : Int) : seenS cs p = (seenT cs p).map snOf := by
  unfold seenS seenT
  split
  · split
    · unfold poolS
      split <;> rfl
    · rw [loneS_T]
      cases h1 : loneT (ci cs p.toNat) p with
      | some th => simp only [Option.map]; rw [snOf_flat (loneT_ok h1).2]
      | none =>
        simp only [Option.map]
        split
        · rfl
        · rw [twoS_T]
          cases h2 : twoT (ci cs p.toNat) (ci cs (p.toNat + 1)) p with
          | some th => simp only [Option.map]; rw [snOf_flat (twoT_ok h2).2]
          | none => rfl
  · rfl
theorem seenT_ok {cs : List Int} {p n : Int} {th : Th} (h : seenT cs p = some (th, n)) : ThOk th := by
  unfold seenT at h
  split at h
  · split at h
    · split at h
      · cases h
      · cases h; trivial
    · cases h1 : loneT (ci cs p.toNat) p with
      | some th' => rw [h1] at h; cases h; exact (loneT_ok h1).1
      | none =>
        rw [h1] at h
        simp only at h
        split at h
        · cases h
        · cases h2 : twoT (ci cs p.toNat) (ci cs (p.toNat + 1)) p with
          | some th' => rw [h2] at h; cases h; exact (twoT_ok h2).1
          | none => rw [h2] at h; cases h
  · cases h
theorem seenT_in {cs : List Int} {p : Int} {x : Th × Int} (h : seenT cs p = some x) : 0 ≤ p ∧ p < cs.length := by
  unfold seenT at h
  split at h
  · assumption
  · cases h
/-- v is what is seen -/
def ThIs (H : Hp) (v : V) : Option (Th × Int) → Prop
  | none => v = .non
  | some (.pool ns, n) => ∃ T U N, v = .ref U ∧ H U = some (.tup [.ref T, .int n]) ∧ H T = some (.tup [.str "pool", .ref N]) ∧ H N = some (.tup (ns.map V.int))
  | some (th, n) => ∃ T U, v = .ref U ∧ H U = some (.tup [.ref T, .int n]) ∧ H T = some (.tup (thV th))
theorem ThIs.of {H H' : Hp} {v : V} {cs : List Int} {p : Int} (h : SeenAt H H' v (seenS cs p)) : Keep [] H H' ∧ ThIs H' v (seenT cs p) := by
  rw [seenS_T] at h
  cases e : seenT cs p with
  | none => rw [e] at h; exact ⟨h.2, h.1⟩
  | some x =>
    obtain ⟨th, n⟩ := x
    rw [e] at h
    cases th with
    | pool ns => obtain ⟨T, U, N, a, b, c, d, k⟩ := h; exact ⟨k, T, U, N, a, b, c, d⟩
    | _ => obtain ⟨T, U, a, b, c, k⟩ := h; exact ⟨k, T, U, a, b, c⟩
def wordS (cs : List Int) (b k : Int) : Option Int := match seenT cs (b - 1) with
  | some (.pool ns, _) => if k < ns.length then some (ns.getD k.toNat 0) else none
  | _ => none
def spWord : Sp := fun vs H Q _ => ∃ (a : Addr) (cs : List Int) (b k : Int), vs = [.ref a, .int b, .int k] ∧ H a = some (.lst (cs.map V.int)) ∧ cs.length ≤ 10000 ∧ 0 ≤ k ∧
  ∀ H', Keep [] H H' → Q (match wordS cs b k with | none => .non | some n => .int n) H'
theorem ok_word_at (T : Txt K mg t) : FnOk P w K mg base CX0 4 t.f_word_at t.d_word_at ["cells", "begin", "at"] spWord := by
  have G_seen_at := ok_seen_at (P := P) (w := w) (base := base) T
  refine T.F_word_at.ok sc_word_at (fun vs H Q E h => ?_) (fun cdv A outer s H vs Q E hr h => ?_)
  · obtain ⟨a, cs, b, k, rfl, _⟩ := h
    rfl
  · obtain ⟨a, cs, b, k, rfl, ha, hz, hk, q⟩ := h
    refine ⟨_, (@pss_cons _ _ _ _ _ (@ps_set _ _ 3 _ _ _ _ sc_word_at.nd rfl (Or.inl rfl) (@pe_call _ _ _ _ _ _ _ _ _ _ _ _ _ _ _ _ G_seen_at (hr.mono (by first | decide | omega)) rfl T.m_seen_at T.F_seen_at.kp T.b_seen_at .nil pass0 (@pa_cons _ _ _ _ _ (pv 0) (@pa_cons _ _ _ _ _ (@pe_op _ _ _ _ _ _ _ _ op_sub (pv 1) pe_int) pa_nil (by rfl)) (by rfl)) (by first | rfl | decide) (by rfl) (by rfl)) (by rfl) (by first | exact Or.inl rfl | exact Or.inr rfl | assumption))
      (@pss_cons _ _ _ _ _ (@ps_if _ _ _ _ _ _ _ _ (PW.pt (pw_or (pt_cmp (pc_isN (pv 3))) (pw_or (@pt_cmpR _ _ _ _ _ _ _ _ op_ne (@pe_ix _ _ _ _ _ _ _ ix_tup (@pe_ix _ _ _ _ _ _ _ ix_tup (pv 3) pe_int (fun _ _ => rfl)) pe_int (fun _ _ => rfl)) pe_str (nomark _)) (pw_or1 (@pt_cmpR _ _ _ _ _ _ _ _ op_ge (pv 2) (@pe_callB _ _ _ _ _ _ _ _ _ call_len_seq rfl T.m_len bt_len (@pa_cons _ _ _ _ _ (@pe_ix _ _ _ _ _ _ _ ix_tup (@pe_ix _ _ _ _ _ _ _ ix_tup (pv 3) pe_int (fun _ _ => rfl)) pe_int (fun _ _ => rfl)) pa_nil (by rfl)) (by decide) (by first | rfl | decide) (by rfl) (by rfl)) (nomark _))))))
        (@pss_one _ _ _ (ps_ret pe_non))
        pss_nil)
      (@pss_one _ _ _ (ps_ret (@pe_ix _ _ _ _ _ _ _ ix_tup (@pe_ix _ _ _ _ _ _ _ ix_tup (@pe_ix _ _ _ _ _ _ _ ix_tup (pv 3) pe_int (fun _ _ => rfl)) pe_int (fun _ _ => rfl)) (pv 2) (fun _ _ => rfl)))))), ?_⟩
    repeat walk_at "ns"
    refine ⟨a, cs, b - 1, rfl, ha, hz, fun v H1 hv => ?_⟩
    obtain ⟨k1, hv⟩ := ThIs.of hv
    have q' := q H1 k1
    unfold wordS at q'
    cases e : seenT cs (b - 1) with
    | none =>
      rw [e] at hv q'
      have hv' : v = .non := hv
      subst hv'
      repeat walk_at "ns"
      exact q'
    | some x =>
      obtain ⟨th, n⟩ := x
      rw [e] at hv q'
      cases th with
      | pool ns =>
        obtain ⟨T', U, N, rfl, hU, hT, hN⟩ := hv
        repeat walk_at "ns"
        refine iteD (fun h1 => ?_) (fun h1 => ?_)
        · repeat walk_at "ns"
          simp only at q'
          rw [if_neg (by rw [List.length_map] at h1; omega)] at q'
          exact q'
        · repeat walk_at "ns"
          rw [List.length_map] at h1
          simp only at q'
          rw [if_pos (by omega)] at q'
          obtain ⟨j, rfl⟩ := Int.eq_ofNat_of_zero_le hk
          have hj : j < ns.length := by omega
          refine rd_ixT (SqT.of hN) (v := .int (ns.getD j 0)) (atI_nat ?_) ?_
          · rw [List.getElem?_map, List.getElem?_eq_getElem hj]
            simp [hj]
          · exact q'
      | row r =>
        obtain ⟨T', U, rfl, hU, hT⟩ := hv
        cases r <;> simp only [thV, rowV] at hT <;> (repeat walk_at "ns") <;> exact q'
      | _ =>
        obtain ⟨T', U, rfl, hU, hT⟩ := hv
        simp only [thV] at hT
        repeat walk_at "ns"
        exact q'
/-! ### overs -/
/-- among the places R every over leads ahead, or to where no over is, and to R -/
def OverIn (cs : List Int) (R : Int → Prop) : Prop := ∀ p q n, R p → seenT cs p = some (.over q, n) → (p < q ∨ ∀ q' n', seenT cs q ≠ some (.over q', n')) ∧ R q
def pastF (cs : List Int) : Nat → Int → Int
  | 0, p => p
  | n + 1, p => match seenT cs p with
    | some (.over q, _) => pastF cs n q
    | _ => p
theorem pastF_over {cs : List Int} {p q n : Int} (k : Nat) (h : seenT cs p = some (.over q, n)) : pastF cs (k + 1) p = pastF cs k q := by
  conv => lhs; unfold pastF
  rw [h]
theorem pastF_stay {cs : List Int} {p : Int} (k : Nat) (h : ∀ q n, seenT cs p ≠ some (.over q, n)) : pastF cs k p = p := by
  cases k with
  | zero => rfl
  | succ k =>
    unfold pastF
    split
    · rename_i q n e; exact absurd e (h q n)
    · rfl
def pastS (cs : List Int) (p : Int) : Int := pastF cs (cs.length + 2) p
theorem pastF_more {cs : List Int} {R : Int → Prop} (ho : OverIn cs R) : ∀ (k : Nat) (p : Int), R p → (cs.length - p + 1 < k ∨ p < 0) → pastF cs (k + 1) p = pastF cs k p := by
  intro k
  induction k with
  | zero =>
    intro p _ h
    refine pastF_stay _ fun q n e => ?_
    have := seenT_in e
    omega
  | succ k ih =>
    intro p hp h
    by_cases e : ∃ q n, seenT cs p = some (.over q, n)
    · obtain ⟨q, n, e⟩ := e
      rw [pastF_over _ e, pastF_over _ e]
      have := seenT_in e
      obtain ⟨h1 | h1, hq⟩ := ho _ _ _ hp e
      · exact ih q hq (.inl (by omega))
      · rw [pastF_stay _ h1, pastF_stay _ h1]
    · have e' : ∀ q n, seenT cs p ≠ some (.over q, n) := fun q n z => e ⟨q, n, z⟩
      rw [pastF_stay _ e', pastF_stay _ e']
theorem pastS_over {cs : List Int} {R : Int → Prop} (ho : OverIn cs R) {p q n : Int} (hp : R p) (h : seenT cs p = some (.over q, n)) : pastS cs p = pastS cs q := by
  show pastF cs (cs.length + 2) p = pastF cs (cs.length + 2) q
  have h2 := seenT_in h
  rw [pastF_over _ h]
  obtain ⟨h1 | h1, hq⟩ := ho _ _ _ hp h
  · exact (pastF_more ho (cs.length + 1) q hq (.inl (by push_cast; omega))).symm
  · rw [pastF_stay _ h1, pastF_stay _ h1]
open Classical in
noncomputable def overRk (cs : List Int) (p : Int) : Nat := if ∃ q n, seenT cs p = some (.over q, n) then (cs.length - p).toNat + 1 else 0
theorem overRk_down {cs : List Int} {R : Int → Prop} (ho : OverIn cs R) {p q n : Int} (hp : R p) (h : seenT cs p = some (.over q, n)) : overRk cs q < overRk cs p := by
  have h2 := seenT_in h
  have e1 : overRk cs p = (cs.length - p).toNat + 1 := by unfold overRk; rw [if_pos ⟨q, n, h⟩]
  rw [e1]
  unfold overRk
  rcases (ho _ _ _ hp h).1 with h1 | h1
  · split
    · omega
    · omega
  · rw [if_neg (fun ⟨q', n', z⟩ => h1 q' n' z)]; omega
def spPast : Sp := fun vs H Q _ => ∃ (a : Addr) (cs : List Int) (R : Int → Prop) (p : Int), vs = [.ref a, .int p] ∧ H a = some (.lst (cs.map V.int)) ∧ cs.length ≤ 10000 ∧ OverIn cs R ∧ R p ∧
  ∀ H', Keep [] H H' → (∀ q n, seenT cs (pastS cs p) ≠ some (.over q, n)) → R (pastS cs p) → Q (.int (pastS cs p)) H'
theorem ok_past_overs (T : Txt K mg t) : FnOk P w K mg base CX0 4 t.f_past_overs t.d_past_overs ["cells", "place"] spPast := by
  have G_seen_at := ok_seen_at (P := P) (w := w) (base := base) T
  refine T.F_past_overs.ok sc_past_overs (fun vs H Q E h => ?_) (fun cdv A outer s H vs Q E hr h => ?_)
  · obtain ⟨a, cs, R, p, rfl, _⟩ := h
    rfl
  · obtain ⟨a, cs, R, p, rfl, ha, hz, ho, hRp, q⟩ := h
    refine ⟨_, (@pss_cons _ _ _ _ _ (@ps_set _ _ 2 _ _ _ _ sc_past_overs.nd rfl (Or.inl rfl) (@pe_call _ _ _ _ _ _ _ _ _ _ _ _ _ _ _ _ G_seen_at (hr.mono (by first | decide | omega)) rfl T.m_seen_at T.F_seen_at.kp T.b_seen_at .nil pass0 (@pa_cons _ _ _ _ _ (pv 0) (@pa_cons _ _ _ _ _ (pv 1) pa_nil (by rfl)) (by rfl)) (by first | rfl | decide) (by rfl) (by rfl)) (by rfl) (by first | exact Or.inl rfl | exact Or.inr rfl | assumption))
      (@pss_cons _ _ _ _ _ (ps_while PassesOwn.never (PW.pt (pw_and (pt_cmp (pc_notN (pv 2))) (pw_and1 (@pt_cmpR _ _ _ _ _ _ _ _ op_eq (@pe_ix _ _ _ _ _ _ _ ix_tup (@pe_ix _ _ _ _ _ _ _ ix_tup (pv 2) pe_int (fun _ _ => rfl)) pe_int (fun _ _ => rfl)) pe_str (nomark _)))))
        (@pss_cons _ _ _ _ _ (@ps_set _ _ 1 _ _ _ _ sc_past_overs.nd rfl (Or.inl rfl) (@pe_ix _ _ _ _ _ _ _ ix_tup (@pe_ix _ _ _ _ _ _ _ ix_tup (pv 2) pe_int (fun _ _ => rfl)) pe_int (fun _ _ => rfl)) (by rfl) (by first | exact Or.inl rfl | exact Or.inr rfl | assumption))
      (@pss_one _ _ _ (@ps_set _ _ 2 _ _ _ _ sc_past_overs.nd rfl (Or.inl rfl) (@pe_call _ _ _ _ _ _ _ _ _ _ _ _ _ _ _ _ G_seen_at (hr.mono (by first | decide | omega)) rfl T.m_seen_at T.F_seen_at.kp T.b_seen_at .nil pass0 (@pa_cons _ _ _ _ _ (pv 0) (@pa_cons _ _ _ _ _ (pv 1) pa_nil (by rfl)) (by rfl)) (by first | rfl | decide) (by rfl) (by rfl)) (by rfl) (by first | exact Or.inl rfl | exact Or.inr rfl | assumption)))))
      (@pss_one _ _ _ (ps_ret (pv 1))))), ?_⟩
    repeat walk_at "ns"
    refine ⟨a, cs, p, rfl, ha, hz, fun v H1 hv => ?_⟩
    obtain ⟨k1, hv⟩ := ThIs.of hv
    repeat walk_at "ns"
    refine ⟨fun m σ Hc => ∃ (p' : Int) (v' : V), m = overRk cs p' ∧ σ = [some (.ref a), some (.int p'), some v'] ∧ Keep [] H Hc ∧ ThIs Hc v' (seenT cs p') ∧ pastS cs p = pastS cs p' ∧ R p', ⟨_, p, v, rfl, rfl, k1, hv, rfl, hRp⟩, ?_⟩
    rintro m σ Hc ⟨p', v', rfl, rfl, kc, hv', ep, hRp'⟩
    have done : (∀ q n, seenT cs p' ≠ some (.over q, n)) → Q (.int p') Hc := fun hn => by
      have e : pastS cs p = p' := by rw [ep]; exact pastF_stay _ hn
      have := q Hc kc (by rw [e]; exact hn) (by rw [e]; exact hRp')
      rw [e] at this
      exact this
    cases e : seenT cs p' with
    | none =>
      rw [e] at hv'
      have hv'' : v' = .non := hv'
      subst hv''
      repeat walk_at "ns"
      exact done (fun q n z => by rw [e] at z; cases z)
    | some x =>
      obtain ⟨th, n⟩ := x
      rw [e] at hv'
      cases th with
      | over q' =>
        obtain ⟨T', U, rfl, hU, hT⟩ := hv'
        simp only [thV] at hT
        have hin := seenT_in e
        repeat walk_at "ns"
        refine ⟨_, fun _ _ h => h, ?_⟩
        repeat walk_at "ns"
        refine ⟨a, cs, q', rfl, kc _ _ ha (by simp), hz, fun v2 H2 hv2 => ?_⟩
        obtain ⟨k2, hv2⟩ := ThIs.of hv2
        repeat walk_at "ns"
        exact ⟨overRk cs q', overRk_down ho hRp' e, q', v2, rfl, rfl, kc.trans k2, hv2, ep.trans (pastS_over ho hRp' e), (ho _ _ _ hRp' e).2⟩
      | pool ns =>
        obtain ⟨T', U, N, rfl, hU, hT, hN⟩ := hv'
        repeat walk_at "ns"
        exact done (fun q n z => by rw [e] at z; cases z)
      | row r =>
        obtain ⟨T', U, rfl, hU, hT⟩ := hv'
        cases r <;> simp only [thV, rowV] at hT <;> (repeat walk_at "ns") <;> exact done (fun q n z => by rw [e] at z; cases z)
      | _ =>
        obtain ⟨T', U, rfl, hU, hT⟩ := hv'
        simp only [thV] at hT
        repeat walk_at "ns"
        exact done (fun q n z => by rw [e] at z; cases z)

/-! ### a row at a place -/
def rowS (cs : List Int) (p : Int) : Option (Th × Int) := match seenT cs p with
  | none => none
  | some (.pad, _) => none
  | some (.pool _, _) => none
  | some (.great r b k, n) => (wordS cs b k).map fun z => (.row (.set r z), n)
  | some x => some x
def spRowAt : Sp := fun vs H Q _ => ∃ (a : Addr) (cs : List Int) (p : Int), vs = [.ref a, .int p] ∧ H a = some (.lst (cs.map V.int)) ∧ cs.length ≤ 10000 ∧
  ∀ v H', Keep [] H H' → ThIs H' v (rowS cs p) → Q v H'
theorem ok_row_at (T : Txt K mg t) : FnOk P w K mg base CX0 5 t.f_row_at t.d_row_at ["cells", "place"] spRowAt := by
  have G_seen_at := ok_seen_at (P := P) (w := w) (base := base) T
  have G_word_at := ok_word_at (P := P) (w := w) (base := base) T
  refine T.F_row_at.ok sc_row_at (fun vs H Q E h => ?_) (fun cdv A outer s H vs Q E hr h => ?_)
  · obtain ⟨a, cs, p, rfl, _⟩ := h
    rfl
  · obtain ⟨a, cs, p, rfl, ha, hz, q⟩ := h
    refine ⟨_, (@pss_cons _ _ _ _ _ (@ps_set _ _ 2 _ _ _ _ sc_row_at.nd rfl (Or.inl rfl) (@pe_call _ _ _ _ _ _ _ _ _ _ _ _ _ _ _ _ G_seen_at (hr.mono (by first | decide | omega)) rfl T.m_seen_at T.F_seen_at.kp T.b_seen_at .nil pass0 (@pa_cons _ _ _ _ _ (pv 0) (@pa_cons _ _ _ _ _ (pv 1) pa_nil (by rfl)) (by rfl)) (by first | rfl | decide) (by rfl) (by rfl)) (by rfl) (by first | exact Or.inl rfl | exact Or.inr rfl | assumption))
      (@pss_cons _ _ _ _ _ (@ps_if _ _ _ _ _ _ _ _ (PW.pt (pw_or (pt_cmp (pc_isN (pv 2))) (pw_or (@pt_cmpR _ _ _ _ _ _ _ _ op_eq (@pe_ix _ _ _ _ _ _ _ ix_tup (@pe_ix _ _ _ _ _ _ _ ix_tup (pv 2) pe_int (fun _ _ => rfl)) pe_int (fun _ _ => rfl)) pe_str (nomark _)) (pw_or1 (@pt_cmpR _ _ _ _ _ _ _ _ op_eq (@pe_ix _ _ _ _ _ _ _ ix_tup (@pe_ix _ _ _ _ _ _ _ ix_tup (pv 2) pe_int (fun _ _ => rfl)) pe_int (fun _ _ => rfl)) pe_str (nomark _))))))
        (@pss_one _ _ _ (ps_ret pe_non))
        pss_nil)
      (@pss_cons _ _ _ _ _ (ps_asg (pv 2) (pg_tup rfl (pgs_cons (pg_name (i := 3) sc_row_at.nd rfl (Or.inl rfl)) (pgs_cons (pg_name (i := 4) sc_row_at.nd rfl (Or.inl rfl)) pgs_nil))))
      (@pss_cons _ _ _ _ _ (@ps_if _ _ _ _ _ _ _ _ (@pt_cmpR _ _ _ _ _ _ _ _ op_ne (@pe_ix _ _ _ _ _ _ _ ix_tup (pv 3) pe_int (fun _ _ => rfl)) pe_str (nomark _))
        (@pss_one _ _ _ (ps_ret (pv 2)))
        pss_nil)
      (@pss_cons _ _ _ _ _ (@ps_set _ _ 5 _ _ _ _ sc_row_at.nd rfl (Or.inl rfl) (@pe_call _ _ _ _ _ _ _ _ _ _ _ _ _ _ _ _ G_word_at (hr.mono (by first | decide | omega)) rfl T.m_word_at T.F_word_at.kp T.b_word_at .nil pass0 (@pa_cons _ _ _ _ _ (pv 0) (@pa_cons _ _ _ _ _ (@pe_ix _ _ _ _ _ _ _ ix_tup (pv 3) pe_int (fun _ _ => rfl)) (@pa_cons _ _ _ _ _ (@pe_ix _ _ _ _ _ _ _ ix_tup (pv 3) pe_int (fun _ _ => rfl)) pa_nil (by rfl)) (by rfl)) (by rfl)) (by first | rfl | decide) (by rfl) (by rfl)) (by rfl) (by first | exact Or.inl rfl | exact Or.inr rfl | assumption))
      (@pss_one _ _ _ (ps_ret (pe_ifExp (pt_cmp (pc_isN (pv 5))) pe_non (@pe_tup _ _ _ _ _ (@pa_cons _ _ _ _ _ (@pe_tup _ _ _ _ _ (@pa_cons _ _ _ _ _ pe_str (@pa_cons _ _ _ _ _ (@pe_ix _ _ _ _ _ _ _ ix_tup (pv 3) pe_int (fun _ _ => rfl)) (@pa_cons _ _ _ _ _ (pv 5) pa_nil (by rfl)) (by rfl)) (by rfl))) (@pa_cons _ _ _ _ _ (pv 4) pa_nil (by rfl)) (by rfl))))))))))), ?_⟩
    repeat walk_at "ns"
    refine ⟨a, cs, p, rfl, ha, hz, fun v H1 hv => ?_⟩
    obtain ⟨k1, hv⟩ := ThIs.of hv
    have q' := fun v H' (k : Keep [] H1 H') => q v H' (k1.trans k)
    unfold rowS at q'
    cases e : seenT cs p with
    | none =>
      rw [e] at hv q'
      have hv' : v = .non := hv
      subst hv'
      repeat walk_at "ns"
      exact q' _ _ (Keep.refl _ _) rfl
    | some x =>
      obtain ⟨th, n⟩ := x
      have okT := seenT_ok e
      rw [e] at hv q'
      cases th with
      | pad =>
        obtain ⟨T', U, rfl, hU, hT⟩ := hv
        simp only [thV] at hT
        repeat walk_at "ns"
        exact q' _ _ (Keep.refl _ _) rfl
      | pool ns =>
        obtain ⟨T', U, N, rfl, hU, hT, hN⟩ := hv
        repeat walk_at "ns"
        exact q' _ _ (Keep.refl _ _) rfl
      | great r b k =>
        obtain ⟨T', U, rfl, hU, hT⟩ := hv
        simp only [thV] at hT
        repeat walk_at "ns"
        refine rd_gtup (SqT.of hU) rfl ?_
        repeat walk_at "ns"
        refine ⟨a, cs, b, k, rfl, k1 _ _ ha (by simp), hz, okT.2, fun H2 k2 => ?_⟩
        have hT2 := k2 _ _ hT (by simp)
        simp only at q'
        cases e2 : wordS cs b k with
        | none =>
          rw [e2] at q'
          repeat walk_at "ns"
          exact q' _ _ k2 rfl
        | some z =>
          rw [e2] at q'
          repeat walk_at "ns"
          refine ⟨small2 (by simp), fun z1 hz1 => ?_⟩
          repeat walk_at "ns"
          refine ⟨small2 (by simp), fun z2 hz2 => ?_⟩
          exact q' _ _ (Keep.new (Keep.new k2 hz1) hz2) ⟨z1, z2, rfl, upd_same, upd_old upd_same hz2⟩
      | row r =>
        obtain ⟨T', U, rfl, hU, hT⟩ := hv
        cases r <;> simp only [thV, rowV] at hT <;> (repeat walk_at "ns") <;> (refine rd_gtup (SqT.of hU) rfl ?_) <;> (repeat walk_at "ns") <;> exact q' _ _ (Keep.refl _ _) ⟨T', U, rfl, hU, hT⟩
      | _ =>
        obtain ⟨T', U, rfl, hU, hT⟩ := hv
        simp only [thV] at hT
        repeat walk_at "ns"
        refine rd_gtup (SqT.of hU) rfl ?_
        repeat walk_at "ns"
        exact q' _ _ (Keep.refl _ _) ⟨T', U, rfl, hU, hT⟩

/-! ### a row done -/
def reckT : Th → List Int → List Int
  | .row r, g => reck r g
  | _, g => g
def saysT (g : List Int) : Th → List Int
  | .row r => says g r
  | _ => []
def jumpsT (g : List Int) : Th → Bool
  | .go _ _ => true
  | .nil r _ _ => decide (reg g r = 0)
  | _ => false
def goalT : Th → Int
  | .go q _ => q
  | .nil _ q _ => q
  | _ => 0
theorem reckT_len (th : Th) (g : List Int) : (reckT th g).length = g.length := by cases th <;> first | rfl | exact reck_len _ _
/-- a thing that can be done -/
def Doing : Th → Prop
  | .row r => ThOk (.row r)
  | .go _ _ => True
  | .nil r _ _ => r < 5
  | _ => False
def spCarryT : Sp := fun vs H Q _ => ∃ (a h tl : Addr) (th : Th) (g T : List Int), vs = [.ref a, .ref h, .ref tl] ∧ H a = some (.tup (thV th)) ∧ Doing th ∧ H h = some (.lst (g.map V.int)) ∧ g.length = 5 ∧ H tl = some (.lst (T.map V.int)) ∧ T.length ≤ 100000 ∧ h ≠ tl ∧
  ∀ H', H' h = some (.lst ((reckT th g).map V.int)) → H' tl = some (.lst ((T ++ saysT g th).map V.int)) → (∀ b, b ≠ h → b ≠ tl → H' b = H b) → Q .non H'
theorem ok_carry_out (T : Txt K mg t) : FnOk P w K mg base CX0 1 t.f_carry_out t.d_carry_out ["row", "held", "told"] spCarryT := by
  obtain ⟨tk, hc_NUMBERS⟩ := T.c_NUMBERS
  refine T.F_carry_out.ok sc_carry_out (fun vs H Q E h => ?_) (fun cdv A outer s H vs Q E hr h => ?_)
  · obtain ⟨a, h, tl, th, g, T', rfl, _⟩ := h
    rfl
  · obtain ⟨a, h, tl, th, g, T', rfl, ha, ok, hh, hl, ht, hT, hne, q⟩ := h
    refine ⟨_, (@pss_cons _ _ _ _ _ (@ps_set _ _ 3 _ _ _ _ sc_carry_out.nd rfl (Or.inl rfl) (@pe_ix _ _ _ _ _ _ _ ix_tup (pv 0) pe_int (fun _ _ => rfl)) (by rfl) (by first | exact Or.inl rfl | exact Or.inr rfl | assumption))
      (@pss_one _ _ _ (@ps_if _ _ _ _ _ _ _ _ (@pt_cmpR _ _ _ _ _ _ _ _ op_eq (pv 3) pe_str (nomark _))
        (@pss_one _ _ _ (ps_asg (@pe_ix _ _ _ _ _ _ _ ix_tup (pv 0) pe_int (fun _ _ => rfl)) (pg_sub (pv 1) (@pe_ix _ _ _ _ _ _ _ ix_tup (pv 0) pe_int (fun _ _ => rfl)) set_list)))
        (@pss_one _ _ _ (@ps_if _ _ _ _ _ _ _ _ (@pt_cmpR _ _ _ _ _ _ _ _ op_eq (pv 3) pe_str (nomark _))
        (@pss_one _ _ _ (ps_asg (@pe_op _ _ _ _ _ _ _ _ op_mod (@pe_op _ _ _ _ _ _ _ _ op_add (@pe_ix _ _ _ _ _ _ _ ix_list (pv 1) (@pe_ix _ _ _ _ _ _ _ ix_tup (pv 0) pe_int (fun _ _ => rfl)) (fun _ _ => rfl)) (@pe_ix _ _ _ _ _ _ _ ix_list (pv 1) (@pe_ix _ _ _ _ _ _ _ ix_tup (pv 0) pe_int (fun _ _ => rfl)) (fun _ _ => rfl))) (pe_glob (v := .int 100000000) rfl hc_NUMBERS ⟨_, rfl⟩)) (pg_sub (pv 1) (@pe_ix _ _ _ _ _ _ _ ix_tup (pv 0) pe_int (fun _ _ => rfl)) set_list)))
        (@pss_one _ _ _ (@ps_if _ _ _ _ _ _ _ _ (@pt_cmpR _ _ _ _ _ _ _ _ op_eq (pv 3) pe_str (nomark _))
        (@pss_one _ _ _ (ps_asg (@pe_op _ _ _ _ _ _ _ _ op_mod (@pe_op _ _ _ _ _ _ _ _ op_sub (@pe_ix _ _ _ _ _ _ _ ix_list (pv 1) (@pe_ix _ _ _ _ _ _ _ ix_tup (pv 0) pe_int (fun _ _ => rfl)) (fun _ _ => rfl)) (@pe_ix _ _ _ _ _ _ _ ix_list (pv 1) (@pe_ix _ _ _ _ _ _ _ ix_tup (pv 0) pe_int (fun _ _ => rfl)) (fun _ _ => rfl))) (pe_glob (v := .int 100000000) rfl hc_NUMBERS ⟨_, rfl⟩)) (pg_sub (pv 1) (@pe_ix _ _ _ _ _ _ _ ix_tup (pv 0) pe_int (fun _ _ => rfl)) set_list)))
        (@pss_one _ _ _ (@ps_if _ _ _ _ _ _ _ _ (@pt_cmpR _ _ _ _ _ _ _ _ op_eq (pv 3) pe_str (nomark _))
        (@pss_one _ _ _ (ps_expr (pe_bm PySem.F.plainAttrs_list PySem.F.slot_list_append PySem.F.type_list_append mt_append (pv 2) (@pa_cons _ _ _ _ _ (@pe_ix _ _ _ _ _ _ _ ix_list (pv 1) (@pe_ix _ _ _ _ _ _ _ ix_tup (pv 0) pe_int (fun _ _ => rfl)) (fun _ _ => rfl)) pa_nil (by rfl)))))
        pss_nil))))))))), ?_⟩
    cases th with
    | row r =>
      cases r with
      | set r n =>
        simp only [thV, rowV] at ha
        repeat walk_at "ns"
        refine rd_setL hh (reg_ix (by rw [hl]; exact ok)) ?_
        rw [reg_set]
        repeat walk_at "ns"
        exact q _ upd_same (by rw [upd_ne (Ne.symm hne), ht]; simp [saysT, says]) fun b hb _ => upd_ne hb
      | sum r s =>
        simp only [thV, rowV] at ha
        repeat walk_at "ns"
        refine rd_ixL (SqL.of hh) (reg_at (by rw [hl]; exact ok.1)) ?_
        repeat walk_at "ns"
        refine rd_ixL (SqL.of hh) (reg_at (by rw [hl]; exact ok.2)) ?_
        repeat walk_at "ns"
        refine rd_setL hh (reg_ix (by rw [hl]; exact ok.1)) ?_
        rw [reg_set]
        repeat walk_at "ns"
        exact q _ upd_same (by rw [upd_ne (Ne.symm hne), ht]; simp [saysT, says]) fun b hb _ => upd_ne hb
      | less r s =>
        simp only [thV, rowV] at ha
        repeat walk_at "ns"
        refine rd_ixL (SqL.of hh) (reg_at (by rw [hl]; exact ok.1)) ?_
        repeat walk_at "ns"
        refine rd_ixL (SqL.of hh) (reg_at (by rw [hl]; exact ok.2)) ?_
        repeat walk_at "ns"
        refine rd_setL hh (reg_ix (by rw [hl]; exact ok.1)) ?_
        rw [reg_set]
        repeat walk_at "ns"
        exact q _ upd_same (by rw [upd_ne (Ne.symm hne), ht]; simp [saysT, says]) fun b hb _ => upd_ne hb
      | tell r =>
        simp only [thV, rowV] at ha
        repeat walk_at "ns"
        refine rd_ixL (SqL.of hh) (reg_at (by rw [hl]; exact ok)) ?_
        repeat walk_at "ns"
        refine rd_append ht (by rw [List.length_map]; exact Nat.lt_of_lt_of_le (by omega) (by decide : 100001 ≤ sizeLine)) ?_
        repeat walk_at "ns"
        exact q _ (by rw [upd_ne hne]; exact hh) (by rw [upd_same]; simp [saysT, says]) fun b _ hb => upd_ne hb
      | stop =>
        simp only [thV, rowV] at ha
        repeat walk_at "ns"
        exact q _ hh (by rw [ht]; simp [saysT, says]) fun _ _ _ => rfl
      | go t' => exact ok.elim
      | nil r t' => exact ok.elim
    | go q' l =>
      simp only [thV] at ha
      repeat walk_at "ns"
      exact q _ hh (by rw [ht]; simp [saysT]) fun _ _ _ => rfl
    | nil r q' l =>
      simp only [thV] at ha
      repeat walk_at "ns"
      exact q _ hh (by rw [ht]; simp [saysT]) fun _ _ _ => rfl
    | _ => exact ok.elim
def spJumpsT : Sp := fun vs H Q _ => ∃ (a h : Addr) (th : Th) (g : List Int), vs = [.ref a, .ref h] ∧ H a = some (.tup (thV th)) ∧ Doing th ∧ H h = some (.lst (g.map V.int)) ∧ g.length = 5 ∧ Q (.bl (jumpsT g th)) H
theorem ok_jumps_now (T : Txt K mg t) : FnOk P w K mg base CX0 1 t.f_jumps_now t.d_jumps_now ["row", "held"] spJumpsT := by
  refine T.F_jumps_now.ok sc_jumps_now (fun vs H Q E h => ?_) (fun cdv A outer s H vs Q E hr h => ?_)
  · obtain ⟨a, h, th, g, rfl, _⟩ := h
    rfl
  · obtain ⟨a, h, th, g, rfl, ha, ok, hh, hl, q⟩ := h
    refine ⟨_, (@pss_one _ _ _ (ps_ret (pe_or (@pe_cmpR _ _ _ _ _ _ _ _ op_eq (@pe_ix _ _ _ _ _ _ _ ix_tup (pv 0) pe_int (fun _ _ => rfl)) pe_str (nomark _)) (pe_one (pe_and (@pe_cmpR _ _ _ _ _ _ _ _ op_eq (@pe_ix _ _ _ _ _ _ _ ix_tup (pv 0) pe_int (fun _ _ => rfl)) pe_str (nomark _)) (pe_one (@pe_cmpR _ _ _ _ _ _ _ _ op_eq (@pe_ix _ _ _ _ _ _ _ ix_list (pv 1) (@pe_ix _ _ _ _ _ _ _ ix_tup (pv 0) pe_int (fun _ _ => rfl)) (fun _ _ => rfl)) pe_int (nomark _)))))))), ?_⟩
    cases th with
    | row r => cases r <;> simp only [thV, rowV] at ha <;> (repeat walk_at "ns") <;> first | exact q | exact ok.elim
    | go q' l =>
      simp only [thV] at ha
      repeat walk_at "ns"
      exact q
    | nil r q' l =>
      simp only [thV] at ha
      repeat walk_at "ns"
      refine rd_ixL (SqL.of hh) (reg_at (by rw [hl]; exact ok)) ?_
      repeat walk_at "ns"
      exact q
    | _ => exact ok.elim
/-! ### the run -/
def mEnd (cs : List Int) (p : Int) (bad : Bool) : Str := if p = cs.length then "ended" else if bad then "bad" else "going"
def mrun (cs : List Int) : Nat → List Int → Int → List Int × Str × List Int
  | 0, _, p => ([], mEnd cs p (rowS cs p).isNone, [])
  | n + 1, g, p => match rowS cs p with
    | none => ([], mEnd cs p true, [])
    | some (.row .stop, _) => ([], "stopped", [p])
    | some (th, nxt) =>
      let z := mrun cs n (reckT th g) (pastS cs (if jumpsT (reckT th g) th then goalT th else nxt))
      (saysT g th ++ z.1, z.2.1, p :: z.2.2)
theorem mrun_end {cs : List Int} {n : Nat} {g : List Int} {p : Int} (h : n = 0 ∨ rowS cs p = none) : mrun cs n g p = ([], mEnd cs p (rowS cs p).isNone, []) := by
  cases n with
  | zero => rfl
  | succ n =>
    have h' : rowS cs p = none := by rcases h with h | h; · omega
                                     · exact h
    unfold mrun
    rw [h']
    rfl
theorem mrun_stop {cs : List Int} {n : Nat} {g : List Int} {p nxt : Int} (h : rowS cs p = some (.row .stop, nxt)) : mrun cs (n + 1) g p = ([], Str.ofString "stopped", [p]) := by
  unfold mrun; rw [h]
theorem mrun_row {cs : List Int} {n : Nat} {g : List Int} {p nxt : Int} {th : Th} (h : rowS cs p = some (th, nxt)) (hs : th ≠ .row .stop) : mrun cs (n + 1) g p =
    (saysT g th ++ (mrun cs n (reckT th g) (pastS cs (if jumpsT (reckT th g) th then goalT th else nxt))).1, (mrun cs n (reckT th g) (pastS cs (if jumpsT (reckT th g) th then goalT th else nxt))).2.1,
      p :: (mrun cs n (reckT th g) (pastS cs (if jumpsT (reckT th g) th then goalT th else nxt))).2.2) := by
  conv => lhs; unfold mrun
  rw [h]
  cases th with
  | row r => cases r <;> first | rfl | exact absurd rfl hs
  | _ => rfl
theorem rowS_doing {cs : List Int} {p n : Int} {th : Th} (h : rowS cs p = some (th, n)) (ho : ∀ q n, seenT cs p ≠ some (.over q, n)) : Doing th := by
  unfold rowS at h
  cases e : seenT cs p with
  | none => rw [e] at h; cases h
  | some x =>
    obtain ⟨th', n'⟩ := x
    have ok := seenT_ok e
    rw [e] at h
    cases th' with
    | pad => cases h
    | pool ns => cases h
    | great r b k =>
      simp only at h
      cases e2 : wordS cs b k with
      | none => rw [e2] at h; cases h
      | some z => rw [e2] at h; cases h; exact ok.1
    | over q => exact absurd e (ho _ _)
    | row r => cases h; exact ok
    | go q l => cases h; trivial
    | nil r q l => cases h; exact ok

def RunAt (H H' : Hp) (p : Addr) (z : List Int × Str × List Int) : Prop := ∃ tl wl, H' p = some (.tup [.ref tl, .str z.2.1, .ref wl]) ∧ H' tl = some (.lst (z.1.map V.int)) ∧ H' wl = some (.lst (z.2.2.map V.int)) ∧
  H p = none ∧ H tl = none ∧ H wl = none ∧ tl ≠ wl
/-- the places R are closed under the steps -/
structure Steps (cs : List Int) (R : Int → Prop) : Prop where
  zero : R 0
  over : OverIn cs R
  row : ∀ p th n, R p → rowS cs p = some (th, n) → (∀ q n, seenT cs p ≠ some (.over q, n)) → th ≠ .row .stop → R n ∧ ∀ g, jumpsT g th = true → R (goalT th)
def spRunM : Sp := fun vs H Q _ => ∃ (a : Addr) (cs : List Int) (R : Int → Prop) (most : Int), vs = [.ref a, .int most] ∧ H a = some (.lst (cs.map V.int)) ∧ cs.length ≤ 10000 ∧ Steps cs R ∧ 0 ≤ most ∧ most ≤ 100000 ∧
  ∀ p H', Keep [] H H' → RunAt H H' p (mrun cs most.toNat [0, 0, 0, 0, 0] (pastS cs 0)) → Q (.ref p) H'
structure TurnsM (H Hc : Hp) (h tl wl : Addr) (cs : List Int) (M : Nat) (g : List Int) (p : Int) (T W : List Int) (fv : V) : Prop where
  kp : Keep [] H Hc
  hh : Hc h = some (.lst (g.map V.int))
  ht : Hc tl = some (.lst (T.map V.int))
  hw : Hc wl = some (.lst (W.map V.int))
  gl : g.length = 5
  lw : W.length ≤ M
  lt : T.length ≤ W.length
  fv : ThIs Hc fv (rowS cs p)
  no : ∀ q n, seenT cs p ≠ some (.over q, n)
  eq : mrun cs M [0, 0, 0, 0, 0] (pastS cs 0) = (T ++ (mrun cs (M - W.length) g p).1, (mrun cs (M - W.length) g p).2.1, W ++ (mrun cs (M - W.length) g p).2.2)
theorem saysT_len (g : List Int) (th : Th) : (saysT g th).length ≤ 1 := by
  cases th with
  | row r => cases r <;> simp [saysT, says]
  | _ => simp [saysT]
theorem ThIs.flat {H : Hp} {v : V} {th : Th} {n : Int} (h : ThIs H v (some (th, n))) (d : Doing th) : ∃ T U, v = .ref U ∧ H U = some (.tup [.ref T, .int n]) ∧ H T = some (.tup (thV th)) := by
  cases th <;> first | exact h | exact d.elim
theorem TurnsM.turn {H Hc H' : Hp} {h tl wl : Addr} {cs : List Int} {M : Nat} {g : List Int} {p nxt np : Int} {T W : List Int} {fv fv' : V} {th : Th} (t : TurnsM H Hc h tl wl cs M g p T W fv) (er : rowS cs p = some (th, nxt)) (hs : th ≠ .row .stop) (hM : W.length < M)
    (enp : np = pastS cs (if jumpsT (reckT th g) th then goalT th else nxt)) (kp : Keep [] H H') (hh : H' h = some (.lst ((reckT th g).map V.int))) (ht : H' tl = some (.lst ((T ++ saysT g th).map V.int))) (hw : H' wl = some (.lst ((W ++ [p]).map V.int)))
    (hfv : ThIs H' fv' (rowS cs np)) (no : ∀ q n, seenT cs np ≠ some (.over q, n)) :
    TurnsM H H' h tl wl cs M (reckT th g) np (T ++ saysT g th) (W ++ [p]) fv' := by
  refine ⟨kp, hh, ht, hw, by rw [reckT_len]; exact t.gl, by rw [List.length_append]; exact hM, ?_, hfv, no, ?_⟩
  · rw [List.length_append, List.length_append]
    have := t.lt
    have := saysT_len g th
    simp; omega
  · have e := t.eq
    have em : M - W.length = (M - (W ++ [p]).length) + 1 := by rw [List.length_append]; simp; omega
    rw [em, mrun_row er hs] at e
    rw [e, enp]
    simp only [List.append_assoc, List.singleton_append]
theorem rowS_in {cs : List Int} {p : Int} {x : Th × Int} (h : rowS cs p = some x) : 0 ≤ p ∧ p < cs.length := by
  cases e : seenT cs p with
  | none => unfold rowS at h; rw [e] at h; cases h
  | some y => exact seenT_in e
theorem ok_run (T : Txt K mg t) : FnOk P w K mg base CX0 6 t.f_run t.d_run ["cells", "most"] spRunM := by
  have G_carry_out := ok_carry_out (P := P) (w := w) (base := base) T
  have G_jumps_now := ok_jumps_now (P := P) (w := w) (base := base) T
  have G_past_overs := ok_past_overs (P := P) (w := w) (base := base) T
  have G_row_at := ok_row_at (P := P) (w := w) (base := base) T
  obtain ⟨tk, hc_REGISTERS⟩ := T.c_REGISTERS
  refine T.F_run.ok sc_run (fun vs H Q E h => ?_) (fun cdv A outer s H vs Q E hr h => ?_)
  · obtain ⟨a, cs, R, most, rfl, _⟩ := h
    rfl
  · obtain ⟨a, cs, R, most, rfl, ha, hz, hst8, m0, m1, q⟩ := h
    have ho := hst8.over
    refine ⟨_, (@pss_cons _ _ _ _ _ (@ps_set _ _ 2 _ _ _ _ sc_run.nd rfl (Or.inl rfl) (@pe_op _ _ _ _ _ _ _ _ op_rep (@pe_lst _ _ _ _ (@pa_cons _ _ _ _ _ pe_int pa_nil (by rfl))) (pe_glob (v := .int 5) rfl hc_REGISTERS ⟨_, rfl⟩)) (by rfl) (by first | exact Or.inl rfl | exact Or.inr rfl | assumption))
      (@pss_cons _ _ _ _ _ (@ps_set _ _ 3 _ _ _ _ sc_run.nd rfl (Or.inl rfl) (@pe_lst _ _ _ _ pa_nil) (by rfl) (by first | exact Or.inl rfl | exact Or.inr rfl | assumption))
      (@pss_cons _ _ _ _ _ (@ps_set _ _ 4 _ _ _ _ sc_run.nd rfl (Or.inl rfl) (@pe_lst _ _ _ _ pa_nil) (by rfl) (by first | exact Or.inl rfl | exact Or.inr rfl | assumption))
      (@pss_cons _ _ _ _ _ (@ps_set _ _ 5 _ _ _ _ sc_run.nd rfl (Or.inl rfl) (@pe_call _ _ _ _ _ _ _ _ _ _ _ _ _ _ _ _ G_past_overs (hr.mono (by first | decide | omega)) rfl T.m_past_overs T.F_past_overs.kp T.b_past_overs .nil pass0 (@pa_cons _ _ _ _ _ (pv 0) (@pa_cons _ _ _ _ _ pe_int pa_nil (by rfl)) (by rfl)) (by first | rfl | decide) (by rfl) (by rfl)) (by rfl) (by first | exact Or.inl rfl | exact Or.inr rfl | assumption))
      (@pss_cons _ _ _ _ _ (@ps_set _ _ 6 _ _ _ _ sc_run.nd rfl (Or.inl rfl) (@pe_call _ _ _ _ _ _ _ _ _ _ _ _ _ _ _ _ G_row_at (hr.mono (by first | decide | omega)) rfl T.m_row_at T.F_row_at.kp T.b_row_at .nil pass0 (@pa_cons _ _ _ _ _ (pv 0) (@pa_cons _ _ _ _ _ (pv 5) pa_nil (by rfl)) (by rfl)) (by first | rfl | decide) (by rfl) (by rfl)) (by rfl) (by first | exact Or.inl rfl | exact Or.inr rfl | assumption))
      (@pss_cons _ _ _ _ _ (ps_while PassesOwn.never (PW.pt (pw_and (pt_cmp (pc_notN (pv 6))) (pw_and1 (@pt_cmpR _ _ _ _ _ _ _ _ op_lt (@pe_callB _ _ _ _ _ _ _ _ _ call_len_seq rfl T.m_len bt_len (@pa_cons _ _ _ _ _ (pv 4) pa_nil (by rfl)) (by decide) (by first | rfl | decide) (by rfl) (by rfl)) (pv 1) (nomark _)))))
        (@pss_cons _ _ _ _ _ (ps_asg (pv 6) (pg_tup rfl (pgs_cons (pg_name (i := 7) sc_run.nd rfl (Or.inl rfl)) (pgs_cons (pg_name (i := 8) sc_run.nd rfl (Or.inl rfl)) pgs_nil))))
      (@pss_cons _ _ _ _ _ (ps_expr (pe_bm PySem.F.plainAttrs_list PySem.F.slot_list_append PySem.F.type_list_append mt_append (pv 4) (@pa_cons _ _ _ _ _ (pv 5) pa_nil (by rfl))))
      (@pss_cons _ _ _ _ _ (@ps_if _ _ _ _ _ _ _ _ (@pt_cmpR _ _ _ _ _ _ _ _ op_eq (@pe_ix _ _ _ _ _ _ _ ix_tup (pv 7) pe_int (fun _ _ => rfl)) pe_str (nomark _))
        (@pss_one _ _ _ (ps_ret (@pe_tup _ _ _ _ _ (@pa_cons _ _ _ _ _ (pv 3) (@pa_cons _ _ _ _ _ pe_str (@pa_cons _ _ _ _ _ (pv 4) pa_nil (by rfl)) (by rfl)) (by rfl)))))
        pss_nil)
      (@pss_cons _ _ _ _ _ (ps_expr (@pe_call _ _ _ _ _ _ _ _ _ _ _ _ _ _ _ _ G_carry_out (hr.mono (by first | decide | omega)) rfl T.m_carry_out T.F_carry_out.kp T.b_carry_out .nil pass0 (@pa_cons _ _ _ _ _ (pv 7) (@pa_cons _ _ _ _ _ (pv 2) (@pa_cons _ _ _ _ _ (pv 3) pa_nil (by rfl)) (by rfl)) (by rfl)) (by first | rfl | decide) (by rfl) (by rfl)))
      (@pss_cons _ _ _ _ _ (@ps_set _ _ 5 _ _ _ _ sc_run.nd rfl (Or.inl rfl) (@pe_call _ _ _ _ _ _ _ _ _ _ _ _ _ _ _ _ G_past_overs (hr.mono (by first | decide | omega)) rfl T.m_past_overs T.F_past_overs.kp T.b_past_overs .nil pass0 (@pa_cons _ _ _ _ _ (pv 0) (@pa_cons _ _ _ _ _ (pe_ifExp (pt_val (@pe_call _ _ _ _ _ _ _ _ _ _ _ _ _ _ _ _ G_jumps_now (hr.mono (by first | decide | omega)) rfl T.m_jumps_now T.F_jumps_now.kp T.b_jumps_now .nil pass0 (@pa_cons _ _ _ _ _ (pv 7) (@pa_cons _ _ _ _ _ (pv 2) pa_nil (by rfl)) (by rfl)) (by first | rfl | decide) (by rfl) (by rfl))) (@pe_ix _ _ _ _ _ _ _ ix_tup (pv 7) (pe_un un_neg pe_int) (fun _ _ => rfl)) (pv 8)) pa_nil (by rfl)) (by rfl)) (by first | rfl | decide) (by rfl) (by rfl)) (by rfl) (by first | exact Or.inl rfl | exact Or.inr rfl | assumption))
      (@pss_one _ _ _ (@ps_set _ _ 6 _ _ _ _ sc_run.nd rfl (Or.inl rfl) (@pe_call _ _ _ _ _ _ _ _ _ _ _ _ _ _ _ _ G_row_at (hr.mono (by first | decide | omega)) rfl T.m_row_at T.F_row_at.kp T.b_row_at .nil pass0 (@pa_cons _ _ _ _ _ (pv 0) (@pa_cons _ _ _ _ _ (pv 5) pa_nil (by rfl)) (by rfl)) (by first | rfl | decide) (by rfl) (by rfl)) (by rfl) (by first | exact Or.inl rfl | exact Or.inr rfl | assumption)))))))))
      (@pss_cons _ _ _ _ _ (@ps_if _ _ _ _ _ _ _ _ (@pt_cmpR _ _ _ _ _ _ _ _ op_eq (pv 5) (@pe_callB _ _ _ _ _ _ _ _ _ call_len_seq rfl T.m_len bt_len (@pa_cons _ _ _ _ _ (pv 0) pa_nil (by rfl)) (by decide) (by first | rfl | decide) (by rfl) (by rfl)) (nomark _))
        (@pss_one _ _ _ (ps_ret (@pe_tup _ _ _ _ _ (@pa_cons _ _ _ _ _ (pv 3) (@pa_cons _ _ _ _ _ pe_str (@pa_cons _ _ _ _ _ (pv 4) pa_nil (by rfl)) (by rfl)) (by rfl)))))
        pss_nil)
      (@pss_one _ _ _ (ps_ret (@pe_tup _ _ _ _ _ (@pa_cons _ _ _ _ _ (pv 3) (@pa_cons _ _ _ _ _ (pe_ifExp (pt_cmp (pc_isN (pv 6))) pe_str pe_str) (@pa_cons _ _ _ _ _ (pv 4) pa_nil (by rfl)) (by rfl)) (by rfl)))))))))))), ?_⟩
    repeat walk_at "ns"
    refine ⟨small2 (by simp), fun p0 hp0 => ?_⟩
    repeat walk_at "ns"
    refine rd_rep upd_same (by decide) (by decide) (by show 5 ≤ sizeLine; decide) fun h hh => ?_
    repeat walk_at "ns"
    refine ⟨small2 (by simp), fun tl htl => ?_⟩
    repeat walk_at "ns"
    refine ⟨small2 (by simp), fun wl hwl => ?_⟩
    repeat walk_at "ns"
    have nh : H h = none := (Keep.new (Keep.refl [] H) hp0).free hh (by simp)
    have k1 : Keep [] H (upd H p0 (.lst [V.int 0])) := Keep.new (Keep.refl [] H) hp0
    have k2 : Keep [] H (upd (upd H p0 (.lst [V.int 0])) h (.lst (List.replicate (Int.toNat 5) [V.int 0]).flatten)) := Keep.new k1 hh
    have nt : H tl = none := k2.free htl (by simp)
    have k3 := Keep.new (o := .lst []) k2 htl
    have nw : H wl = none := k3.free hwl (by simp)
    have k4 := Keep.new (o := .lst []) k3 hwl
    have e1 : h ≠ tl := ne_of_none upd_same htl
    have e2 : h ≠ wl := ne_of_none (show _ = some (HO.lst (List.replicate (Int.toNat 5) [V.int 0]).flatten) by rw [upd_ne e1]; exact upd_same) hwl
    have e3 : tl ≠ wl := ne_of_none upd_same hwl
    obtain ⟨H4, e4⟩ : ∃ Z, Z = upd (upd (upd (upd H p0 (.lst [V.int 0])) h (.lst (List.replicate (Int.toNat 5) [V.int 0]).flatten)) tl (.lst [])) wl (.lst []) := ⟨_, rfl⟩
    rw [← e4] at k4 ⊢
    have h4h : H4 h = some (.lst (([0, 0, 0, 0, 0] : List Int).map V.int)) := by rw [e4, upd_ne e2, upd_ne e1, upd_same]; rfl
    have h4t : H4 tl = some (.lst (([] : List Int).map V.int)) := by rw [e4, upd_ne e3, upd_same]; rfl
    have h4w : H4 wl = some (.lst (([] : List Int).map V.int)) := by rw [e4, upd_same]; rfl
    clear e4 k3 k2 k1 hh htl hwl hp0
    refine ⟨a, cs, R, 0, rfl, k4 _ _ ha (by simp), hz, ho, hst8.zero, fun H5 k5 hno hR0 => ?_⟩
    repeat walk_at "ns"
    refine ⟨a, cs, pastS cs 0, rfl, (k4.trans k5) _ _ ha (by simp), hz, fun v H6 k6 hv => ?_⟩
    have k46 := k5.trans k6
    repeat walk_at "ns"
    refine ⟨fun m σ Hc => ∃ g p Tl Wn fv v7 v8, m = most.toNat - Wn.length ∧ σ = [some (.ref a), some (.int most), some (.ref h), some (.ref tl), some (.ref wl), some (.int p), some fv, v7, v8] ∧ TurnsM H Hc h tl wl cs most.toNat g p Tl Wn fv ∧ R p,
      ⟨_, [0, 0, 0, 0, 0], pastS cs 0, [], [], v, none, none, rfl, rfl, ⟨k4.trans k46, k46 _ _ h4h (by simp), k46 _ _ h4t (by simp), k46 _ _ h4w (by simp), rfl, Nat.zero_le _, Nat.le_refl _, hv, hno, by simp⟩, hR0⟩, ?_⟩
    rintro m σ Hc ⟨g, p, Tl, Wn, fv, v7, v8, rfl, rfl, tr, hRp⟩
    have hac : Hc a = some (.lst (cs.map V.int)) := tr.kp _ _ ha (by simp)
    have fin : ∀ pp (e : Str), (most.toNat - Wn.length = 0 ∨ rowS cs p = none) → Hc pp = none → e = mEnd cs p (rowS cs p).isNone → Q (.ref pp) (upd Hc pp (.tup [.ref tl, .str e, .ref wl])) := fun pp e hd hp he => by
      refine q pp _ (Keep.new tr.kp hp) ⟨tl, wl, ?_, ?_, ?_, tr.kp.free hp (by simp), nt, nw, e3⟩
      · rw [upd_same, tr.eq, mrun_end hd, he]
      · rw [upd_ne (ne_of_none tr.ht hp), tr.ht, tr.eq, mrun_end hd]; simp
      · rw [upd_ne (ne_of_none tr.hw hp), tr.hw, tr.eq, mrun_end hd]; simp
    cases er : rowS cs p with
    | none =>
      have hfv := tr.fv
      rw [er] at hfv fin
      have hfv' : fv = .non := hfv
      subst hfv'
      have sl : SqL K Hc a (cs.map V.int) := SqL.of hac
      repeat walk_at "ns"
      refine iteD (fun he => ?_) (fun he => ?_)
      · repeat walk_at "ns"
        exact ⟨small2 (by simp), fun pp hp => fin pp _ (.inr rfl) hp (by rw [List.length_map] at he; rw [mEnd, if_pos he])⟩
      · repeat walk_at "ns"
        exact ⟨small2 (by simp), fun pp hp => fin pp _ (.inr rfl) hp (by rw [List.length_map] at he; rw [mEnd, if_neg he]; rfl)⟩
    | some x =>
      obtain ⟨th, nxt⟩ := x
      have din := rowS_in er
      have dg := rowS_doing er tr.no
      have hfv := tr.fv
      rw [er] at hfv fin
      obtain ⟨T', U, rfl, hU, hT⟩ := hfv.flat dg
      have sl : SqL K Hc a (cs.map V.int) := SqL.of hac
      have hw := tr.hw
      repeat walk_at "ns"
      rw [List.length_map]
      refine iteD (fun hlw => ?_) (fun hlw => ?_)
      rotate_left
      · have hd : most.toNat - Wn.length = 0 := by omega
        repeat walk_at "ns"
        refine iteD (fun he => ?_) (fun he => ?_)
        · rw [List.length_map] at he; omega
        · repeat walk_at "ns"
          exact ⟨small2 (by simp), fun pp hp => fin pp _ (.inl hd) hp (by rw [List.length_map] at he; rw [mEnd, if_neg he]; rfl)⟩
      have hM : Wn.length < most.toNat := by omega
      have lw := tr.lw
      have ltw := tr.lt
      refine ⟨_, fun _ _ h => h, ?_⟩
      repeat walk_at "ns"
      refine rd_gtup (SqT.of hU) rfl ?_
      repeat walk_at "ns"
      refine rd_append hw (by rw [List.length_map]; exact Nat.lt_of_lt_of_le (by omega) (by decide : 100001 ≤ sizeLine)) ?_
      have ewl : Wn.map V.int ++ [V.int p] = (Wn ++ [p]).map V.int := by simp
      rw [ewl]
      have neR : T' ≠ wl := ne_of hT hw (by intro z; cases z)
      have hT1 : (upd Hc wl (.lst ((Wn ++ [p]).map V.int))) T' = some (.tup (thV th)) := by rw [upd_ne neR]; exact hT
      have hh1 : (upd Hc wl (.lst ((Wn ++ [p]).map V.int))) h = some (.lst (g.map V.int)) := by rw [upd_ne e2]; exact tr.hh
      have ht1 : (upd Hc wl (.lst ((Wn ++ [p]).map V.int))) tl = some (.lst (Tl.map V.int)) := by rw [upd_ne e3]; exact tr.ht
      have kp1 : Keep [] H (upd Hc wl (.lst ((Wn ++ [p]).map V.int))) := Keep.put tr.kp (.inr nw)
      have hw1 : (upd Hc wl (.lst ((Wn ++ [p]).map V.int))) wl = some (.lst ((Wn ++ [p]).map V.int)) := upd_same
      generalize upd Hc wl (.lst ((Wn ++ [p]).map V.int)) = H1 at hT1 hh1 ht1 kp1 hw1 ⊢
      have neT1 : T' ≠ h := ne_of hT1 hh1 (by intro z; cases z)
      have neT2 : T' ≠ tl := ne_of hT1 ht1 (by intro z; cases z)
      have lm : most.toNat - (Wn ++ [p]).length < most.toNat - Wn.length := by rw [List.length_append]; simp; omega
      by_cases hst : th = .row .stop
      · subst hst
        simp only [thV, rowV] at hT1
        repeat walk_at "ns"
        refine ⟨small2 (by simp), fun pp hp => ?_⟩
        have em : most.toNat - Wn.length = (most.toNat - Wn.length - 1) + 1 := by omega
        refine q pp _ (Keep.new kp1 hp) ⟨tl, wl, ?_, ?_, ?_, kp1.free hp (by simp), nt, nw, e3⟩
        · rw [upd_same, tr.eq, em, mrun_stop er]
        · rw [upd_ne (ne_of_none ht1 hp), ht1, tr.eq, em, mrun_stop er]; simp
        · rw [upd_ne (ne_of_none hw1 hp), hw1, tr.eq, em, mrun_stop er]
      have carry : ∀ (Q' : VK), (∀ H3, H3 h = some (.lst ((reckT th g).map V.int)) → H3 tl = some (.lst ((Tl ++ saysT g th).map V.int)) → H3 wl = some (.lst ((Wn ++ [p]).map V.int)) → H3 T' = some (.tup (thV th)) → Keep [] H H3 → Q' .non H3) → ∀ E', spCarryT [.ref T', .ref h, .ref tl] H1 Q' E' := fun Q' hQ E' => by
        refine ⟨T', h, tl, th, g, Tl, rfl, hT1, dg, hh1, tr.gl, ht1, by omega, e1, fun H3 hh3 ht3 off => hQ H3 hh3 ht3 (by rw [off wl (Ne.symm e2) (Ne.symm e3)]; exact hw1) (by rw [off T' neT1 neT2]; exact hT1) fun b o hb _ => by rw [off b (ne_of_none hb nh) (ne_of_none hb nt)]; exact kp1 b o hb (by simp)⟩
      cases th with
      | go q' l =>
        simp only [thV] at hT1
        repeat walk_at "ns"
        refine carry _ (fun H3 hh3 ht3 hw3 hT3 kp3 => ?_) _
        repeat walk_at "ns"
        refine ⟨T', h, _, _, rfl, hT3, dg, hh3, by rw [reckT_len]; exact tr.gl, ?_⟩
        simp only [thV] at hT3
        repeat walk_at "ns"
        refine ⟨a, cs, R, _, rfl, kp3 _ _ ha (by simp), hz, ho, by first | exact (hst8.row _ _ _ hRp er tr.no hst).1 | exact (hst8.row _ _ _ hRp er tr.no hst).2 g (by first | rfl | assumption), fun H5 k5 hno hRn => ?_⟩
        repeat walk_at "ns"
        refine ⟨a, cs, _, rfl, (kp3.trans k5) _ _ ha (by simp), hz, fun v6 H6 k6 hv6 => ?_⟩
        have k56 := k5.trans k6
        repeat walk_at "ns"
        exact ⟨_, lm, _, _, _, _, _, _, _, rfl, rfl, tr.turn er hst hM (by rw [show jumpsT (reckT (.go q' l) g) (.go q' l) = true from rfl, if_pos rfl]; rfl) (kp3.trans k56) (k56 _ _ hh3 (by simp)) (k56 _ _ ht3 (by simp)) (k56 _ _ hw3 (by simp)) hv6 hno, hRn⟩
      | nil r q' l =>
        simp only [thV] at hT1
        repeat walk_at "ns"
        refine carry _ (fun H3 hh3 ht3 hw3 hT3 kp3 => ?_) _
        repeat walk_at "ns"
        refine ⟨T', h, _, _, rfl, hT3, dg, hh3, by rw [reckT_len]; exact tr.gl, ?_⟩
        simp only [thV] at hT3
        repeat walk_at "ns"
        refine iteD (fun hj => ?_) (fun hj => ?_)
        · have ej : jumpsT (reckT (.nil r q' l) g) (.nil r q' l) = true := decide_eq_true hj
          repeat walk_at "ns"
          refine ⟨a, cs, R, _, rfl, kp3 _ _ ha (by simp), hz, ho, by first | exact (hst8.row _ _ _ hRp er tr.no hst).1 | exact (hst8.row _ _ _ hRp er tr.no hst).2 g (by first | rfl | assumption), fun H5 k5 hno hRn => ?_⟩
          repeat walk_at "ns"
          refine ⟨a, cs, _, rfl, (kp3.trans k5) _ _ ha (by simp), hz, fun v6 H6 k6 hv6 => ?_⟩
          have k56 := k5.trans k6
          repeat walk_at "ns"
          exact ⟨_, lm, _, _, _, _, _, _, _, rfl, rfl, tr.turn er hst hM (by rw [ej, if_pos rfl]; rfl) (kp3.trans k56) (k56 _ _ hh3 (by simp)) (k56 _ _ ht3 (by simp)) (k56 _ _ hw3 (by simp)) hv6 hno, hRn⟩
        · have ej : jumpsT (reckT (.nil r q' l) g) (.nil r q' l) = false := decide_eq_false hj
          repeat walk_at "ns"
          refine ⟨a, cs, R, _, rfl, kp3 _ _ ha (by simp), hz, ho, by first | exact (hst8.row _ _ _ hRp er tr.no hst).1 | exact (hst8.row _ _ _ hRp er tr.no hst).2 g (by first | rfl | assumption), fun H5 k5 hno hRn => ?_⟩
          repeat walk_at "ns"
          refine ⟨a, cs, _, rfl, (kp3.trans k5) _ _ ha (by simp), hz, fun v6 H6 k6 hv6 => ?_⟩
          have k56 := k5.trans k6
          repeat walk_at "ns"
          exact ⟨_, lm, _, _, _, _, _, _, _, rfl, rfl, tr.turn er hst hM (by rw [ej, if_neg Bool.false_ne_true]) (kp3.trans k56) (k56 _ _ hh3 (by simp)) (k56 _ _ ht3 (by simp)) (k56 _ _ hw3 (by simp)) hv6 hno, hRn⟩
      | row r =>
        have ej : jumpsT (reckT (.row r) g) (.row r) = false := rfl
        cases r with
        | stop => exact absurd rfl hst
        | go t' => exact dg.elim
        | nil r t' => exact dg.elim
        | _ =>
          simp only [thV, rowV] at hT1
          repeat walk_at "ns"
          refine carry _ (fun H3 hh3 ht3 hw3 hT3 kp3 => ?_) _
          repeat walk_at "ns"
          refine ⟨T', h, _, _, rfl, hT3, dg, hh3, by rw [reckT_len]; exact tr.gl, ?_⟩
          repeat walk_at "ns"
          refine ⟨a, cs, R, _, rfl, kp3 _ _ ha (by simp), hz, ho, by first | exact (hst8.row _ _ _ hRp er tr.no hst).1 | exact (hst8.row _ _ _ hRp er tr.no hst).2 g (by first | rfl | assumption), fun H5 k5 hno hRn => ?_⟩
          repeat walk_at "ns"
          refine ⟨a, cs, _, rfl, (kp3.trans k5) _ _ ha (by simp), hz, fun v6 H6 k6 hv6 => ?_⟩
          have k56 := k5.trans k6
          repeat walk_at "ns"
          exact ⟨_, lm, _, _, _, _, _, _, _, rfl, rfl, tr.turn er hst hM (by rw [ej, if_neg Bool.false_ne_true]) (kp3.trans k56) (k56 _ _ hh3 (by simp)) (k56 _ _ ht3 (by simp)) (k56 _ _ hw3 (by simp)) hv6 hno, hRn⟩
      | _ => exact dg.elim

theorem in2 (c x y : Int) : inV (V.int c) [V.int x, V.int y] = (decide (c = x) || decide (c = y)) := by
  have e1 : (x == c) = decide (c = x) := by rw [show (x == c) = decide (x = c) from rfl]; exact decide_eq_decide.mpr ⟨Eq.symm, Eq.symm⟩
  have e2 : (y == c) = decide (c = y) := by rw [show (y == c) = decide (y = c) from rfl]; exact decide_eq_decide.mpr ⟨Eq.symm, Eq.symm⟩
  show ((x == c) || ((y == c) || false)) = _
  rw [Bool.or_false, e1, e2]
structure NoM (code : Int) (r : Int) : Prop where
  h1 : ¬ (1000 + 100 * r ≤ code ∧ code ≤ 1099 + 100 * r)
  h2 : ¬ (2000 + 10 * r ≤ code ∧ code < 2005 + 10 * r)
  h3 : ¬ (3000 + 10 * r ≤ code ∧ code < 3005 + 10 * r)
  h4 : code ≠ 4000 + r
  h5 : ¬ (8001 + 200 * r ≤ code ∧ code ≤ 8199 + 200 * r)
theorem lone_set {code place r : Int} (h0 : 0 ≤ r) (h1 : r < 5) (h : 1000 + 100 * r ≤ code ∧ code ≤ 1099 + 100 * r) : loneS code place = some [.str "set", .int r, .int (code - 1000 - 100 * r)] := by
  unfold loneS
  rw [if_neg (by omega), if_pos (by omega), show (code - 1000) / 100 = r by omega, show code % 100 = code - 1000 - 100 * r by omega]
theorem lone_sum {code place r : Int} (h0 : 0 ≤ r) (h1 : r < 5) (h : 2000 + 10 * r ≤ code ∧ code < 2005 + 10 * r) : loneS code place = some [.str "sum", .int r, .int (code - 2000 - 10 * r)] := by
  unfold loneS pairS
  rw [if_neg (by omega), if_neg (by omega), if_pos (by omega), if_pos (by omega), show (code - 2000) / 10 = r by omega, show (code - 2000) % 10 = code - 2000 - 10 * r by omega]
theorem lone_less {code place r : Int} (h0 : 0 ≤ r) (h1 : r < 5) (h : 3000 + 10 * r ≤ code ∧ code < 3005 + 10 * r) : loneS code place = some [.str "less", .int r, .int (code - 3000 - 10 * r)] := by
  unfold loneS pairS
  rw [if_neg (by omega), if_neg (by omega), if_neg (by omega), if_pos (by omega), if_pos (by omega), show (code - 3000) / 10 = r by omega, show (code - 3000) % 10 = code - 3000 - 10 * r by omega]
theorem lone_tell {code place r : Int} (h0 : 0 ≤ r) (h1 : r < 5) (h : code = 4000 + r) : loneS code place = some [.str "tell", .int r] := by
  unfold loneS
  rw [if_neg (by omega), if_neg (by omega), if_neg (by omega), if_neg (by omega), if_pos (by omega), show code - 4000 = r by omega]
theorem lone_nil {code place r : Int} (h0 : 0 ≤ r) (h1 : r < 5) (h : 8001 + 200 * r ≤ code ∧ code ≤ 8199 + 200 * r) : loneS code place = some [.str "nil", .int r, .int (place + code - 8100 - 200 * r), .bl false] := by
  unfold loneS nilS
  rw [if_neg (by omega), if_neg (by omega), if_neg (by omega), if_neg (by omega), if_neg (by omega), if_neg (by omega), if_neg (by omega), if_pos (by omega), if_pos (by omega), show (code - 8000) / 200 = r by omega,
    show place + (code - 8000) % 200 - 99 - 1 = place + code - 8100 - 200 * r by omega]
theorem lone_go {code place : Int} (h : 6001 ≤ code ∧ code ≤ 6999) : loneS code place = some [.str "go", .int (place + code - 6500), .bl false] := by
  unfold loneS
  rw [if_neg (by omega), if_neg (by omega), if_neg (by omega), if_neg (by omega), if_neg (by omega), if_pos h]
theorem lone_none {code place : Int} (n0 : code ≠ 0) (n7 : code ≠ 7002) (ng : ¬ (6001 ≤ code ∧ code ≤ 6999)) (m : ∀ r : Nat, r < 5 → NoM code r) : loneS code place = none := by
  have q1 : ¬ (1000 ≤ code ∧ code < 1500) := fun z => (m ((code - 1000) / 100).toNat (by clear n0 n7 ng m; omega)).h1 (by clear n0 n7 ng m; omega)
  have q4 : ¬ (4000 ≤ code ∧ code < 4005) := fun z => (m (code - 4000).toNat (by clear n0 n7 ng m q1; omega)).h4 (by clear n0 n7 ng m q1; omega)
  unfold loneS pairS nilS
  rw [if_neg n0, if_neg q1]
  by_cases s1 : 2000 ≤ code ∧ code < 3000
  · rw [if_pos s1, if_neg fun z => (m ((code - 2000) / 10).toNat (by clear n0 n7 ng m q1 q4; omega)).h2 (by clear n0 n7 ng m q1 q4; omega)]
  rw [if_neg s1]
  by_cases s2 : 3000 ≤ code ∧ code < 4000
  · rw [if_pos s2, if_neg fun z => (m ((code - 3000) / 10).toNat (by clear n0 n7 ng m q1 q4 s1; omega)).h3 (by clear n0 n7 ng m q1 q4 s1; omega)]
  rw [if_neg s2, if_neg q4, if_neg ng, if_neg n7]
  by_cases s3 : 8001 ≤ code ∧ code < 9000
  · rw [if_pos s3, if_neg fun z => (m ((code - 8000) / 200).toNat (by clear n0 n7 ng m q1 q4 s1 s2; omega)).h5 (by clear n0 n7 ng m q1 q4 s1 s2; omega)]
  rw [if_neg s3]

/-! ### the law's own look -/
def spSingle : Sp := fun vs H Q _ => ∃ (code place : Int), vs = [.int code, .int place] ∧ 0 ≤ code ∧ code < 10000 ∧ ∀ v H', Keep [] H H' → (match loneS code place with | none => v = .non | some xs => ∃ T, v = .ref T ∧ H' T = some (.tup xs)) → Q v H'
theorem ok_single (T : Txt K mg t) : FnOk P w K mg base CX0 1 t.f_single t.d_single ["_law_code", "_law_p"] spSingle := by
  refine T.F_single.ok sc_single (fun vs H Q E h => ?_) (fun cdv A outer s H vs Q E hr h => ?_)
  · obtain ⟨code, place, rfl, _⟩ := h
    rfl
  · obtain ⟨code, place, rfl, c0, c1, q⟩ := h
    refine ⟨_, (@pss_cons _ _ _ _ _ (@ps_if _ _ _ _ _ _ _ _ (@pt_cmpR _ _ _ _ _ _ _ _ op_in_seq (pv 0) (@pe_tup _ _ _ _ _ (@pa_cons _ _ _ _ _ pe_int (@pa_cons _ _ _ _ _ pe_int pa_nil (by rfl)) (by rfl))) (by with_unfolding_all rfl))
        (@pss_one _ _ _ (ps_ret (@pe_ix _ _ _ _ _ _ _ ix_list (@pe_lst _ _ _ _ (@pa_cons _ _ _ _ _ (@pe_tup _ _ _ _ _ (@pa_cons _ _ _ _ _ pe_str pa_nil (by rfl))) (@pa_cons _ _ _ _ _ (@pe_tup _ _ _ _ _ (@pa_cons _ _ _ _ _ pe_str pa_nil (by rfl))) pa_nil (by rfl)) (by rfl))) (@pe_callTy _ _ _ _ _ _ _ _ _ call_int1 rfl T.m_int bt_int (@pa_cons _ _ _ _ _ (@pe_cmpR _ _ _ _ _ _ _ _ op_eq (pv 0) pe_int (nomark _)) pa_nil (by rfl)) (by decide) (by first | rfl | decide) (by rfl) (by rfl)) (fun _ _ => rfl))))
        pss_nil)
      (@pss_cons _ _ _ _ _ (ps_for PassesOwn.never rfl (pi_range1 rfl T.m_range (@pa_cons _ _ _ _ _ pe_int pa_nil (by rfl))) (pg_name (i := 2) sc_single.nd rfl (Or.inl rfl))
        (@pss_cons _ _ _ _ _ (@ps_if _ _ _ _ _ _ _ _ (pt_chain op_le op_le (@pe_op _ _ _ _ _ _ _ _ op_add pe_int (@pe_op _ _ _ _ _ _ _ _ op_mul pe_int (pv 2))) (pv 0) (@pe_op _ _ _ _ _ _ _ _ op_add pe_int (@pe_op _ _ _ _ _ _ _ _ op_mul pe_int (pv 2))))
        (@pss_one _ _ _ (ps_ret (@pe_tup _ _ _ _ _ (@pa_cons _ _ _ _ _ pe_str (@pa_cons _ _ _ _ _ (pv 2) (@pa_cons _ _ _ _ _ (@pe_op _ _ _ _ _ _ _ _ op_sub (@pe_op _ _ _ _ _ _ _ _ op_sub (pv 0) pe_int) (@pe_op _ _ _ _ _ _ _ _ op_mul pe_int (pv 2))) pa_nil (by rfl)) (by rfl)) (by rfl)))))
        pss_nil)
      (@pss_cons _ _ _ _ _ (ps_for PassesOwn.never rfl (pi_tup (@pe_tup _ _ _ _ _ (@pa_cons _ _ _ _ _ (@pe_tup _ _ _ _ _ (@pa_cons _ _ _ _ _ pe_str (@pa_cons _ _ _ _ _ pe_int pa_nil (by rfl)) (by rfl))) (@pa_cons _ _ _ _ _ (@pe_tup _ _ _ _ _ (@pa_cons _ _ _ _ _ pe_str (@pa_cons _ _ _ _ _ pe_int pa_nil (by rfl)) (by rfl))) pa_nil (by rfl)) (by rfl)))) (pg_tup rfl (pgs_cons (pg_name (i := 3) sc_single.nd rfl (Or.inl rfl)) (pgs_cons (pg_name (i := 4) sc_single.nd rfl (Or.inl rfl)) pgs_nil)))
        (@pss_one _ _ _ (@ps_if _ _ _ _ _ _ _ _ (pt_chain op_le op_lt (@pe_op _ _ _ _ _ _ _ _ op_add (pv 4) (@pe_op _ _ _ _ _ _ _ _ op_mul pe_int (pv 2))) (pv 0) (@pe_op _ _ _ _ _ _ _ _ op_add (@pe_op _ _ _ _ _ _ _ _ op_add (pv 4) (@pe_op _ _ _ _ _ _ _ _ op_mul pe_int (pv 2))) pe_int))
        (@pss_one _ _ _ (ps_ret (@pe_tup _ _ _ _ _ (@pa_cons _ _ _ _ _ (pv 3) (@pa_cons _ _ _ _ _ (pv 2) (@pa_cons _ _ _ _ _ (@pe_op _ _ _ _ _ _ _ _ op_sub (@pe_op _ _ _ _ _ _ _ _ op_sub (pv 0) (pv 4)) (@pe_op _ _ _ _ _ _ _ _ op_mul pe_int (pv 2))) pa_nil (by rfl)) (by rfl)) (by rfl)))))
        pss_nil)))
      (@pss_cons _ _ _ _ _ (@ps_if _ _ _ _ _ _ _ _ (@pt_cmpR _ _ _ _ _ _ _ _ op_eq (pv 0) (@pe_op _ _ _ _ _ _ _ _ op_add pe_int (pv 2)) (nomark _))
        (@pss_one _ _ _ (ps_ret (@pe_tup _ _ _ _ _ (@pa_cons _ _ _ _ _ pe_str (@pa_cons _ _ _ _ _ (pv 2) pa_nil (by rfl)) (by rfl)))))
        pss_nil)
      (@pss_one _ _ _ (@ps_if _ _ _ _ _ _ _ _ (pt_chain op_le op_le (@pe_op _ _ _ _ _ _ _ _ op_add pe_int (@pe_op _ _ _ _ _ _ _ _ op_mul pe_int (pv 2))) (pv 0) (@pe_op _ _ _ _ _ _ _ _ op_add pe_int (@pe_op _ _ _ _ _ _ _ _ op_mul pe_int (pv 2))))
        (@pss_one _ _ _ (ps_ret (@pe_tup _ _ _ _ _ (@pa_cons _ _ _ _ _ pe_str (@pa_cons _ _ _ _ _ (pv 2) (@pa_cons _ _ _ _ _ (@pe_op _ _ _ _ _ _ _ _ op_sub (@pe_op _ _ _ _ _ _ _ _ op_sub (@pe_op _ _ _ _ _ _ _ _ op_add (pv 1) (pv 0)) pe_int) (@pe_op _ _ _ _ _ _ _ _ op_mul pe_int (pv 2))) (@pa_cons _ _ _ _ _ pe_bl pa_nil (by rfl)) (by rfl)) (by rfl)) (by rfl)))))
        pss_nil))))))
      (@pss_one _ _ _ (ps_ret (pe_ifExp (pt_chain op_le op_le pe_int (pv 0) pe_int) (@pe_tup _ _ _ _ _ (@pa_cons _ _ _ _ _ pe_str (@pa_cons _ _ _ _ _ (@pe_op _ _ _ _ _ _ _ _ op_sub (@pe_op _ _ _ _ _ _ _ _ op_add (pv 1) (pv 0)) pe_int) (@pa_cons _ _ _ _ _ pe_bl pa_nil (by rfl)) (by rfl)) (by rfl))) pe_non))))), ?_⟩
    repeat walk_at "na"
    rename_i T0 hT0
    refine ⟨_, _, rfl, .inr (SqT.of upd_same), rfl, rfl, ?_⟩
    rw [if_neg Bool.false_ne_true, in2]
    by_cases e0 : code = 0
    · subst e0
      have el : loneS 0 place = some [.str "stop"] := by unfold loneS; simp
      repeat walk_at "na"
      rename_i x1 hx1 x2 hx2 x3 hx3
      refine q _ _ ?_ ?_
      · exact Keep.new (Keep.new (Keep.new (Keep.new (Keep.refl _ _) hT0) hx1) hx2) hx3
      · rw [el]
        exact ⟨x1, rfl, upd_old (upd_old upd_same hx2) hx3⟩
    by_cases e7 : code = 7002
    · subst e7
      have el : loneS 7002 place = some [.str "pad"] := by unfold loneS; simp
      repeat walk_at "na"
      rename_i x1 hx1 x2 hx2 x3 hx3
      refine q _ _ ?_ ?_
      · exact Keep.new (Keep.new (Keep.new (Keep.new (Keep.refl _ _) hT0) hx1) hx2) hx3
      · rw [el]
        exact ⟨x2, rfl, upd_old upd_same hx3⟩
    rw [decide_eq_false e0, decide_eq_false e7, Bool.or_false]
    have k0 : Keep [] H (upd H T0 (.tup [V.int 0, V.int 7002])) := Keep.new (Keep.refl _ _) hT0
    generalize upd H T0 (.tup [V.int 0, V.int 7002]) = H0 at *
    repeat walk_at "na"
    refine ⟨by decide, by decide, for_range (lo := 0) (fun i σ Hc => ∃ v2 v3 v4, σ = [some (.int code), some (.int place), v2, v3, v4] ∧ Keep [] H Hc ∧ ∀ r : Nat, r < i → NoM code r) ⟨_, _, _, rfl, k0, fun r hr => absurd hr (by omega)⟩ ?_ ?_⟩
    · rintro i σ Hc hi ⟨v2, v3, v4, rfl, kc, nm⟩
      have hi' : i < 5 := hi
      repeat walk_at "na"
      refine' iteY ?key1 (fun key h1 => ?a1) (fun key h1 => ?b1)
      case b1 =>
        have n1 : ¬ (1000 + 100 * (i : Int) ≤ code ∧ code ≤ 1099 + 100 * (i : Int)) := fun z => h1 (by omega)
        repeat walk_at "ns"
        revert n1
        exact key.out
      case a1 =>
        repeat walk_at "ns"
        refine iteD (fun h2 => ?_) (fun h2 => ?_)
        · repeat walk_at "na"
          rename_i T1 hT1
          refine q _ _ (Keep.new kc hT1) ?_
          rw [lone_set (r := (i : Int)) (by omega) (by omega) ⟨by omega, by omega⟩]
          exact ⟨T1, rfl, by rw [upd_same, Int.zero_add]⟩
        · repeat walk_at "ns"
          exact key.out (fun z => h2 (by omega))
      intro n1
      repeat walk_at "na"
      rename_i T1 hT1 T2 hT2 T3 hT3
      obtain ⟨H3, e3⟩ : ∃ Z, Z = upd (upd (upd Hc T1 (HO.tup [V.str "sum", V.int 2000])) T2 (HO.tup [V.str "less", V.int 3000])) T3 (HO.tup [V.ref T1, V.ref T2]) := ⟨_, rfl⟩
      have k3 : Keep [] Hc H3 := by rw [e3]; exact Keep.new (Keep.new (Keep.new (Keep.refl _ _) hT1) hT2) hT3
      have f1 : H3 T1 = some (HO.tup [V.str "sum", V.int 2000]) := by rw [e3]; exact upd_old (upd_old upd_same hT2) hT3
      have f2 : H3 T2 = some (HO.tup [V.str "less", V.int 3000]) := by rw [e3]; exact upd_old upd_same hT3
      have f3 : H3 T3 = some (HO.tup [V.ref T1, V.ref T2]) := by rw [e3]; exact upd_same
      rw [← e3]
      clear e3 hT1 hT2 hT3
      refine ⟨⟨_, SqT.of f3⟩, for_tup (xs := [V.ref T1, V.ref T2]) (fun x σ He => ∃ v3 v4, σ = [some (.int code), some (.int place), some (.int (0 + i)), v3, v4] ∧ Keep [] H3 He ∧ (1 ≤ x → ¬ (2000 + 10 * (i : Int) ≤ code ∧ code < 2005 + 10 * (i : Int))) ∧ (2 ≤ x → ¬ (3000 + 10 * (i : Int) ≤ code ∧ code < 3005 + 10 * (i : Int)))) ⟨_, _, rfl, Keep.refl _ _, fun z => absurd z (by omega), fun z => absurd z (by omega)⟩ ?_ ?_ ?_⟩
      · rintro x σ He _ ⟨v3, v4, rfl, ke, _⟩
        exact SqT.of (ke _ _ f3 (by simp))
      · rintro x y σ He hy ⟨v3, v4, rfl, ke, m1, m2⟩
        have hx : x = 0 ∨ x = 1 := by
          have := (List.getElem?_eq_some_iff.mp hy).1
          simp at this
          omega
        rcases hx with rfl | rfl
        · have ey : y = V.ref T1 := by simpa using hy.symm
          subst ey
          have fe := ke _ _ f1 (by simp)
          refine rd_gtup (SqT.of fe) rfl ?_
          repeat walk_at "na"
          refine iteD (fun g1 => ?_) (fun g1 => ?_)
          · repeat walk_at "na"
            refine iteD (fun g2 => ?_) (fun g2 => ?_)
            · repeat walk_at "na"
              rename_i R hR
              refine q _ _ (Keep.new ((kc.trans k3).trans ke) hR) ?_
              rw [lone_sum (r := (i : Int)) (by omega) (by omega) ⟨by omega, by omega⟩]
              exact ⟨R, rfl, by rw [upd_same, Int.zero_add]⟩
            · repeat walk_at "na"
              first | exact ⟨ke, fun _ z => g2 (by omega), fun z => absurd z (by omega)⟩ | exact ⟨_, _, rfl, ke, fun _ z => g2 (by omega), fun z => absurd z (by omega)⟩
          · repeat walk_at "na"
            first | exact ⟨ke, fun _ z => g1 (by omega), fun z => absurd z (by omega)⟩ | exact ⟨_, _, rfl, ke, fun _ z => g1 (by omega), fun z => absurd z (by omega)⟩
        · have ey : y = V.ref T2 := by simpa using hy.symm
          subst ey
          have fe := ke _ _ f2 (by simp)
          refine rd_gtup (SqT.of fe) rfl ?_
          repeat walk_at "na"
          refine iteD (fun g1 => ?_) (fun g1 => ?_)
          · repeat walk_at "na"
            refine iteD (fun g2 => ?_) (fun g2 => ?_)
            · repeat walk_at "na"
              rename_i R hR
              refine q _ _ (Keep.new ((kc.trans k3).trans ke) hR) ?_
              rw [lone_less (r := (i : Int)) (by omega) (by omega) ⟨by omega, by omega⟩]
              exact ⟨R, rfl, by rw [upd_same, Int.zero_add]⟩
            · repeat walk_at "na"
              first | exact ⟨ke, fun _ => m1 (by omega), fun _ z => g2 (by omega)⟩ | exact ⟨_, _, rfl, ke, fun _ => m1 (by omega), fun _ z => g2 (by omega)⟩
          · repeat walk_at "na"
            first | exact ⟨ke, fun _ => m1 (by omega), fun _ z => g1 (by omega)⟩ | exact ⟨_, _, rfl, ke, fun _ => m1 (by omega), fun _ z => g1 (by omega)⟩
      · rintro σ He ⟨v3, v4, rfl, ke, m1, m2⟩
        have m1' := m1 (by simp)
        have m2' := m2 (by simp)
        have kHe : Keep [] H He := (kc.trans k3).trans ke
        repeat walk_at "na"
        refine iteD (fun g4 => ?_) (fun g4 => ?_)
        · repeat walk_at "na"
          rename_i R hR
          refine q _ _ (Keep.new kHe hR) ?_
          rw [lone_tell (r := (i : Int)) (by omega) (by omega) (by omega)]
          exact ⟨R, rfl, by rw [upd_same, Int.zero_add]⟩
        have fin : ¬ (8001 + 200 * (i : Int) ≤ code ∧ code ≤ 8199 + 200 * (i : Int)) → ∀ r : Nat, r < i + 1 → NoM code r := fun n5 r hr => by
          by_cases e : r = i
          · subst e
            exact ⟨n1, m1', m2', fun z => g4 (by omega), n5⟩
          · exact nm r (by omega)
        repeat walk_at "na"
        refine iteD (fun g5 => ?_) (fun g5 => ?_)
        · repeat walk_at "na"
          refine iteD (fun g6 => ?_) (fun g6 => ?_)
          · repeat walk_at "na"
            rename_i R hR
            refine q _ _ (Keep.new kHe hR) ?_
            rw [lone_nil (r := (i : Int)) (by omega) (by omega) ⟨by omega, by omega⟩]
            exact ⟨R, rfl, by rw [upd_same, Int.zero_add]⟩
          · repeat walk_at "na"
            exact ⟨_, _, _, rfl, kHe, fin (fun z => g6 (by omega))⟩
        · repeat walk_at "na"
          exact ⟨_, _, _, rfl, kHe, fin (fun z => g5 (by omega))⟩
    · rintro σ Hc ⟨v2, v3, v4, rfl, kc, nm⟩
      repeat walk_at "na"
      refine iteD (fun g1 => ?_) (fun g1 => ?_)
      · repeat walk_at "na"
        refine iteD (fun g2 => ?_) (fun g2 => ?_)
        · repeat walk_at "na"
          rename_i T1 hT1
          refine q _ _ (Keep.new kc hT1) ?_
          rw [lone_go ⟨g1, g2⟩]
          exact ⟨T1, rfl, upd_same⟩
        · repeat walk_at "na"
          refine q _ _ kc ?_
          rw [lone_none e0 e7 (fun z => g2 z.2) nm]
      · repeat walk_at "na"
        refine q _ _ kc ?_
        rw [lone_none e0 e7 (fun z => g1 z.1) nm]

structure NoD (code : Int) (r : Int) : Prop where
  h1 : code ≠ 9000 + r
  h2 : ¬ (5000 + 100 * r ≤ code ∧ code ≤ 5099 + 100 * r)
theorem two_nil {code second place r : Int} (h0 : 0 ≤ r) (h1 : r < 5) (h : code = 9000 + r) : twoS code second place = some [.str "nil", .int r, .int second, .bl true] := by
  unfold twoS
  rw [if_neg (by omega), if_neg (by omega), if_neg (by omega), if_pos (by omega), show code - 9000 = r by omega]
theorem two_great {code second place r : Int} (h0 : 0 ≤ r) (h1 : r < 5) (h : 5000 + 100 * r ≤ code ∧ code ≤ 5099 + 100 * r) : twoS code second place = some [.str "great", .int r, .int (place + second - 5000), .int (code - 5000 - 100 * r)] := by
  unfold twoS
  rw [if_pos (by omega), show (code - 5000) / 100 = r by omega, show code % 100 = code - 5000 - 100 * r by omega]
theorem two_none {code second place : Int} (n0 : code ≠ 7000) (n1 : code ≠ 7001) (m : ∀ r : Nat, r < 5 → NoD code r) : twoS code second place = none := by
  obtain ⟨a1, a2⟩ := m 0 (by decide)
  obtain ⟨b1, b2⟩ := m 1 (by decide)
  obtain ⟨c1, c2⟩ := m 2 (by decide)
  obtain ⟨d1, d2⟩ := m 3 (by decide)
  obtain ⟨e1, e2⟩ := m 4 (by decide)
  unfold twoS
  rw [if_neg (show ¬ (5000 ≤ code ∧ code < 5500) by omega), if_neg n0, if_neg n1, if_neg (show ¬ (9000 ≤ code ∧ code < 9005) by omega)]
def spDouble : Sp := fun vs H Q _ => ∃ (code second place : Int), vs = [.int code, .int second, .int place] ∧ 0 ≤ code ∧ code < 10000 ∧ ∀ v H', Keep [] H H' → (match twoS code second place with | none => v = .non | some xs => ∃ T, v = .ref T ∧ H' T = some (.tup xs)) → Q v H'
theorem ok_double (T : Txt K mg t) : FnOk P w K mg base CX0 1 t.f_double t.d_double ["_law_code", "_law_second", "_law_p"] spDouble := by
  refine T.F_double.ok sc_double (fun vs H Q E h => ?_) (fun cdv A outer s H vs Q E hr h => ?_)
  · obtain ⟨code, second, place, rfl, _⟩ := h
    rfl
  · obtain ⟨code, second, place, rfl, c0, c1, q⟩ := h
    refine ⟨_, (@pss_cons _ _ _ _ _ (@ps_if _ _ _ _ _ _ _ _ (@pt_cmpR _ _ _ _ _ _ _ _ op_in_seq (pv 0) (@pe_tup _ _ _ _ _ (@pa_cons _ _ _ _ _ pe_int (@pa_cons _ _ _ _ _ pe_int pa_nil (by rfl)) (by rfl))) (by with_unfolding_all rfl))
        (@pss_one _ _ _ (ps_ret (@pe_ix _ _ _ _ _ _ _ ix_list (@pe_lst _ _ _ _ (@pa_cons _ _ _ _ _ (@pe_tup _ _ _ _ _ (@pa_cons _ _ _ _ _ pe_str (@pa_cons _ _ _ _ _ (pv 1) (@pa_cons _ _ _ _ _ pe_bl pa_nil (by rfl)) (by rfl)) (by rfl))) (@pa_cons _ _ _ _ _ (@pe_tup _ _ _ _ _ (@pa_cons _ _ _ _ _ pe_str (@pa_cons _ _ _ _ _ (pv 1) pa_nil (by rfl)) (by rfl))) pa_nil (by rfl)) (by rfl))) (@pe_op _ _ _ _ _ _ _ _ op_sub (pv 0) pe_int) (fun _ _ => rfl))))
        pss_nil)
      (@pss_cons _ _ _ _ _ (ps_for PassesOwn.never rfl (pi_range1 rfl T.m_range (@pa_cons _ _ _ _ _ pe_int pa_nil (by rfl))) (pg_name (i := 3) sc_double.nd rfl (Or.inl rfl))
        (@pss_cons _ _ _ _ _ (@ps_if _ _ _ _ _ _ _ _ (@pt_cmpR _ _ _ _ _ _ _ _ op_eq (pv 0) (@pe_op _ _ _ _ _ _ _ _ op_add pe_int (pv 3)) (nomark _))
        (@pss_one _ _ _ (ps_ret (@pe_tup _ _ _ _ _ (@pa_cons _ _ _ _ _ pe_str (@pa_cons _ _ _ _ _ (pv 3) (@pa_cons _ _ _ _ _ (pv 1) (@pa_cons _ _ _ _ _ pe_bl pa_nil (by rfl)) (by rfl)) (by rfl)) (by rfl)))))
        pss_nil)
      (@pss_one _ _ _ (@ps_if _ _ _ _ _ _ _ _ (pt_chain op_le op_le (@pe_op _ _ _ _ _ _ _ _ op_add pe_int (@pe_op _ _ _ _ _ _ _ _ op_mul pe_int (pv 3))) (pv 0) (@pe_op _ _ _ _ _ _ _ _ op_add pe_int (@pe_op _ _ _ _ _ _ _ _ op_mul pe_int (pv 3))))
        (@pss_one _ _ _ (ps_ret (@pe_tup _ _ _ _ _ (@pa_cons _ _ _ _ _ pe_str (@pa_cons _ _ _ _ _ (pv 3) (@pa_cons _ _ _ _ _ (@pe_op _ _ _ _ _ _ _ _ op_sub (@pe_op _ _ _ _ _ _ _ _ op_add (pv 2) (pv 1)) pe_int) (@pa_cons _ _ _ _ _ (@pe_op _ _ _ _ _ _ _ _ op_sub (@pe_op _ _ _ _ _ _ _ _ op_sub (pv 0) pe_int) (@pe_op _ _ _ _ _ _ _ _ op_mul pe_int (pv 3))) pa_nil (by rfl)) (by rfl)) (by rfl)) (by rfl)))))
        pss_nil))))
      (@pss_one _ _ _ (ps_ret pe_non)))), ?_⟩
    repeat walk_at "na"
    rename_i T0 hT0
    refine ⟨_, _, rfl, .inr (SqT.of upd_same), rfl, rfl, ?_⟩
    rw [if_neg Bool.false_ne_true, in2]
    by_cases e0 : code = 7000
    · subst e0
      have el : twoS 7000 second place = some [.str "go", .int second, .bl true] := by unfold twoS; simp
      repeat walk_at "na"
      rename_i x1 hx1 x2 hx2 x3 hx3
      refine q _ _ ?_ ?_
      · exact Keep.new (Keep.new (Keep.new (Keep.new (Keep.refl _ _) hT0) hx1) hx2) hx3
      · rw [el]
        exact ⟨x1, rfl, upd_old (upd_old upd_same hx2) hx3⟩
    by_cases e7 : code = 7001
    · subst e7
      have el : twoS 7001 second place = some [.str "over", .int second] := by unfold twoS; simp
      repeat walk_at "na"
      rename_i x1 hx1 x2 hx2 x3 hx3
      refine q _ _ ?_ ?_
      · exact Keep.new (Keep.new (Keep.new (Keep.new (Keep.refl _ _) hT0) hx1) hx2) hx3
      · rw [el]
        exact ⟨x2, rfl, upd_old upd_same hx3⟩
    rw [decide_eq_false e0, decide_eq_false e7, Bool.or_false]
    have k0 : Keep [] H (upd H T0 (.tup [V.int 7000, V.int 7001])) := Keep.new (Keep.refl _ _) hT0
    generalize upd H T0 (.tup [V.int 7000, V.int 7001]) = H0 at *
    repeat walk_at "na"
    refine ⟨by decide, by decide, for_range (lo := 0) (fun i σ Hc => ∃ v3, σ = [some (.int code), some (.int second), some (.int place), v3] ∧ Keep [] H Hc ∧ ∀ r : Nat, r < i → NoD code r) ⟨_, rfl, k0, fun r hr => absurd hr (by omega)⟩ ?_ ?_⟩
    · rintro i σ Hc hi ⟨v3, rfl, kc, nm⟩
      have hi' : i < 5 := hi
      repeat walk_at "na"
      refine iteD (fun g4 => ?_) (fun g4 => ?_)
      · repeat walk_at "na"
        rename_i R hR
        refine q _ _ (Keep.new kc hR) ?_
        rw [two_nil (r := (i : Int)) (by omega) (by omega) (by omega)]
        exact ⟨R, rfl, by rw [upd_same, Int.zero_add]⟩
      have fin : ¬ (5000 + 100 * (i : Int) ≤ code ∧ code ≤ 5099 + 100 * (i : Int)) → ∀ r : Nat, r < i + 1 → NoD code r := fun n5 r hr => by
        by_cases e : r = i
        · subst e
          exact ⟨fun z => g4 (by omega), n5⟩
        · exact nm r (by omega)
      repeat walk_at "na"
      refine iteD (fun g5 => ?_) (fun g5 => ?_)
      · repeat walk_at "na"
        refine iteD (fun g6 => ?_) (fun g6 => ?_)
        · repeat walk_at "na"
          rename_i R hR
          refine q _ _ (Keep.new kc hR) ?_
          rw [two_great (r := (i : Int)) (by omega) (by omega) ⟨by omega, by omega⟩]
          exact ⟨R, rfl, by rw [upd_same, Int.zero_add]⟩
        · repeat walk_at "na"
          first | exact ⟨kc, fin (fun z => g6 (by omega))⟩ | exact ⟨_, rfl, kc, fin (fun z => g6 (by omega))⟩
      · repeat walk_at "na"
        first | exact ⟨kc, fin (fun z => g5 (by omega))⟩ | exact ⟨_, rfl, kc, fin (fun z => g5 (by omega))⟩
    · rintro σ Hc ⟨v3, rfl, kc, nm⟩
      repeat walk_at "na"
      refine q _ _ kc ?_
      rw [two_none e0 e7 nm]

theorem cut_mid {xs : List V} {a n : Nat} (h : a ≤ xs.length) : cutV xs (some (a : Int)) (some ((a + n : Nat) : Int)) = (xs.drop a).take n := by
  unfold cutV
  rw [HT.sIx_nat, HT.sIx_nat, Nat.min_eq_left h]
  by_cases e : a + n ≤ xs.length
  · rw [Nat.min_eq_left e, show a + n - a = n by omega]
  · rw [Nat.min_eq_right (by omega), List.take_of_length_le (by rw [List.length_drop]; exact Nat.le_refl _), List.take_of_length_le (by rw [List.length_drop]; omega)]
theorem ci_cut {cs : List Int} {a n k : Nat} (h : k < n) : ci ((cs.drop a).take n) k = ci cs (a + k) := by
  unfold ci
  rw [List.getD_eq_getElem?_getD, List.getD_eq_getElem?_getD, List.getElem?_take_of_lt h, List.getElem?_drop]
def spLSeen : Sp := fun vs H Q _ => ∃ (a : Addr) (cs : List Int) (place : Int), vs = [.ref a, .int place] ∧ H a = some (.lst (cs.map V.int)) ∧ cs.length ≤ 1000 ∧ (∀ c ∈ cs, 0 ≤ c ∧ c < 10000) ∧
  ∀ v H', SeenAt H H' v (seenS cs place) → Q v H'
theorem ok_lseen (T : Txt K mg t) : FnOk P w K mg base CX0 2 t.f_seen t.d_seen ["_law_cells", "_law_p"] spLSeen := by
  have G_single := ok_single (P := P) (w := w) (base := base) T
  have G_double := ok_double (P := P) (w := w) (base := base) T
  refine T.F_seen.ok sc_seen (fun vs H Q E h => ?_) (fun cdv A outer s H vs Q E hr h => ?_)
  · obtain ⟨a, cs, place, rfl, _⟩ := h
    rfl
  · obtain ⟨a, cs, place, rfl, ha, hl, hc, q⟩ := h
    refine ⟨_, (@pss_cons _ _ _ _ _ (@ps_if _ _ _ _ _ _ _ _ (PW.pt (pw_or (@pt_cmpR _ _ _ _ _ _ _ _ op_lt (pv 1) pe_int (nomark _)) (pw_or1 (@pt_cmpR _ _ _ _ _ _ _ _ op_ge (pv 1) (@pe_callB _ _ _ _ _ _ _ _ _ call_len_seq rfl T.m_len bt_len (@pa_cons _ _ _ _ _ (pv 0) pa_nil (by rfl)) (by decide) (by first | rfl | decide) (by rfl) (by rfl)) (nomark _)))))
        (@pss_one _ _ _ (ps_ret pe_non))
        pss_nil)
      (@pss_cons _ _ _ _ _ (@ps_set _ _ 2 _ _ _ _ sc_seen.nd rfl (Or.inl rfl) (@pe_ix _ _ _ _ _ _ _ ix_list (pv 0) (pv 1) (fun _ _ => rfl)) (by rfl) (by first | exact Or.inl rfl | exact Or.inr rfl | assumption))
      (@pss_cons _ _ _ _ _ (@ps_if _ _ _ _ _ _ _ _ (pt_chain op_le op_le pe_int (pv 2) pe_int)
        (@pss_cons _ _ _ _ _ (@ps_set _ _ 3 _ _ _ _ sc_seen.nd rfl (Or.inl rfl) (@pe_op _ _ _ _ _ _ _ _ op_sub (pv 2) pe_int) (by rfl) (by first | exact Or.inl rfl | exact Or.inr rfl | assumption))
      (@pss_cons _ _ _ _ _ (@ps_set _ _ 4 _ _ _ _ sc_seen.nd rfl (Or.inr rfl) (@pe_slice _ _ _ _ _ _ _ _ _ _ sl_list (pv 0) (po_some (@pe_op _ _ _ _ _ _ _ _ op_add (pv 1) pe_int)) (po_some (@pe_op _ _ _ _ _ _ _ _ op_add (@pe_op _ _ _ _ _ _ _ _ op_add (pv 1) pe_int) (@pe_op _ _ _ _ _ _ _ _ op_mul pe_int (pv 3))))) (by rfl) (by first | exact Or.inl rfl | exact Or.inr rfl | assumption))
      (@pss_cons _ _ _ _ _ (@ps_if _ _ _ _ _ _ _ _ (@pt_cmpR _ _ _ _ _ _ _ _ op_lt (@pe_callB _ _ _ _ _ _ _ _ _ call_len_seq rfl T.m_len bt_len (@pa_cons _ _ _ _ _ (pv 4) pa_nil (by rfl)) (by decide) (by first | rfl | decide) (by rfl) (by rfl)) (@pe_op _ _ _ _ _ _ _ _ op_mul pe_int (pv 3)) (nomark _))
        (@pss_one _ _ _ (ps_ret pe_non))
        pss_nil)
      (@pss_one _ _ _ (ps_ret (@pe_tup _ _ _ _ _ (@pa_cons _ _ _ _ _ (@pe_tup _ _ _ _ _ (@pa_cons _ _ _ _ _ pe_str (@pa_cons _ _ _ _ _ (@pe_callTy _ _ _ _ _ _ _ _ _ call_tuple_of rfl T.m_tuple bt_tuple (@pa_cons _ _ _ _ _ (pe_comp rfl sn_seen_0.sc (pi_range1 rfl T.m_range (@pa_cons _ _ _ _ _ (pv 3) pa_nil (by rfl))) (fun _ => (pg_name (i := 0) sn_seen_0.nd rfl (Or.inl rfl))) (fun _ _ => (act_plain (@pe_op _ _ _ _ _ _ _ _ op_add (@pe_op _ _ _ _ _ _ _ _ op_mul pe_int (@pe_ix _ _ _ _ _ _ _ ix_list (pv 1) (@pe_op _ _ _ _ _ _ _ _ op_mul pe_int (pv 0)) (fun _ _ => rfl))) (@pe_ix _ _ _ _ _ _ _ ix_list (pv 1) (@pe_op _ _ _ _ _ _ _ _ op_add (@pe_op _ _ _ _ _ _ _ _ op_mul pe_int (pv 0)) pe_int) (fun _ _ => rfl)))))) pa_nil (by rfl)) (by decide) (by first | rfl | decide) (by rfl) (by rfl)) pa_nil (by rfl)) (by rfl))) (@pa_cons _ _ _ _ _ (@pe_op _ _ _ _ _ _ _ _ op_add (@pe_op _ _ _ _ _ _ _ _ op_add (pv 1) pe_int) (@pe_op _ _ _ _ _ _ _ _ op_mul pe_int (pv 3))) pa_nil (by rfl)) (by rfl))))))))
        pss_nil)
      (@pss_cons _ _ _ _ _ (@ps_set _ _ 5 _ _ _ _ sc_seen.nd rfl (Or.inl rfl) (@pe_call _ _ _ _ _ _ _ _ _ _ _ _ _ _ _ _ G_single (hr.mono (by first | decide | omega)) rfl T.m_single T.F_single.kp T.b_single .nil pass0 (@pa_cons _ _ _ _ _ (pv 2) (@pa_cons _ _ _ _ _ (pv 1) pa_nil (by rfl)) (by rfl)) (by first | rfl | decide) (by rfl) (by rfl)) (by rfl) (by first | exact Or.inl rfl | exact Or.inr rfl | assumption))
      (@pss_cons _ _ _ _ _ (@ps_if _ _ _ _ _ _ _ _ (pt_cmp (pc_notN (pv 5)))
        (@pss_one _ _ _ (ps_ret (@pe_tup _ _ _ _ _ (@pa_cons _ _ _ _ _ (pv 5) (@pa_cons _ _ _ _ _ (@pe_op _ _ _ _ _ _ _ _ op_add (pv 1) pe_int) pa_nil (by rfl)) (by rfl)))))
        pss_nil)
      (@pss_cons _ _ _ _ _ (@ps_set _ _ 5 _ _ _ _ sc_seen.nd rfl (Or.inl rfl) (pe_ifExp (@pt_cmpR _ _ _ _ _ _ _ _ op_lt (@pe_op _ _ _ _ _ _ _ _ op_add (pv 1) pe_int) (@pe_callB _ _ _ _ _ _ _ _ _ call_len_seq rfl T.m_len bt_len (@pa_cons _ _ _ _ _ (pv 0) pa_nil (by rfl)) (by decide) (by first | rfl | decide) (by rfl) (by rfl)) (nomark _)) (@pe_call _ _ _ _ _ _ _ _ _ _ _ _ _ _ _ _ G_double (hr.mono (by first | decide | omega)) rfl T.m_double T.F_double.kp T.b_double .nil pass0 (@pa_cons _ _ _ _ _ (pv 2) (@pa_cons _ _ _ _ _ (@pe_ix _ _ _ _ _ _ _ ix_list (pv 0) (@pe_op _ _ _ _ _ _ _ _ op_add (pv 1) pe_int) (fun _ _ => rfl)) (@pa_cons _ _ _ _ _ (pv 1) pa_nil (by rfl)) (by rfl)) (by rfl)) (by first | rfl | decide) (by rfl) (by rfl)) pe_non) (by rfl) (by first | exact Or.inl rfl | exact Or.inr rfl | assumption))
      (@pss_one _ _ _ (ps_ret (pe_ifExp (pt_cmp (pc_isN (pv 5))) pe_non (@pe_tup _ _ _ _ _ (@pa_cons _ _ _ _ _ (pv 5) (@pa_cons _ _ _ _ _ (@pe_op _ _ _ _ _ _ _ _ op_add (pv 1) pe_int) pa_nil (by rfl)) (by rfl)))))))))))), ?_⟩
    have out : ¬ (0 ≤ place ∧ place < cs.length) → Q .non H := fun hn => q _ _ (by rw [seenS, if_neg hn]; exact ⟨rfl, Keep.refl _ _⟩)
    repeat walk_at "na"
    refine iteD (fun h0 => ?_) (fun h0 => ?_)
    · repeat walk_at "na"
      exact out (fun z => by omega)
    obtain ⟨p, rfl⟩ := Int.eq_ofNat_of_zero_le (show 0 ≤ place by omega)
    repeat walk_at "na"
    refine iteD (fun h1 => ?_) (fun h1 => ?_)
    · repeat walk_at "na"
      rw [List.length_map] at h1
      exact out (fun z => by omega)
    rw [List.length_map] at h1
    have hp : p < cs.length := by omega
    have hin : 0 ≤ (p : Int) ∧ (p : Int) < cs.length := ⟨by omega, by omega⟩
    have q' : ∀ v H', SeenAt H H' v (if 7100 < ci cs p ∧ ci cs p ≤ 7200 then poolS cs p else
        match loneS (ci cs p) p with
        | some xs => some (.flat xs ((p : Int) + 1))
        | none => if (p : Int) + 1 = cs.length then none else
          match twoS (ci cs p) (ci cs (p + 1)) p with
          | some xs => some (.flat xs ((p : Int) + 2))
          | none => none) → Q v H' := fun v H' hs => q v H' (by rw [seenS, if_pos hin]; exact hs)
    have cin : ∀ k, k < cs.length → 0 ≤ ci cs k ∧ ci cs k < 10000 := fun k hk => by
      have e : ci cs k = cs[k] := by simp [ci, hk]
      rw [e]
      exact hc _ (List.getElem_mem _)
    obtain ⟨c0, c1⟩ := cin p hp
    repeat walk_at "na"
    refine rd_ixL (SqL.of ha) (ci_at hp) ?_
    repeat walk_at "na"
    refine' iteY ?keyS (fun key h2 => ?brA) (fun key h2 => ?brB)
    case brB =>
      have n : ¬ (7100 < ci cs p ∧ ci cs p ≤ 7200) := fun z => h2 (by omega)
      repeat walk_at "na"
      revert n
      exact key.out
    case brA =>
      repeat walk_at "na"
      refine iteD (fun h3 => ?_) (fun h3 => ?_)
      · have hpool : 7100 < ci cs p ∧ ci cs p ≤ 7200 := ⟨by omega, by omega⟩
        obtain ⟨k, hk⟩ : ∃ k : Nat, (k : Int) = ci cs p - 7100 := ⟨(ci cs p - 7100).toNat, by omega⟩
        have ec : cutV (cs.map V.int) (some ((p : Int) + 1)) (some ((p : Int) + 1 + 2 * (ci cs p - 7100))) = ((cs.drop (p + 1)).take (2 * k)).map V.int := by
          rw [show (p : Int) + 1 + 2 * (ci cs p - 7100) = ((p + 1 + 2 * k : Nat) : Int) by omega, show (p : Int) + 1 = ((p + 1 : Nat) : Int) by omega, cut_mid (by simp; omega), ← List.map_drop, ← List.map_take]
        have nl : ((cs.drop (p + 1)).take (2 * k)).length = min (2 * k) (cs.length - (p + 1)) := by rw [List.length_take, List.length_drop]
        have cc : ∀ j, j < 2 * k → ci ((cs.drop (p + 1)).take (2 * k)) j = ci cs (p + 1 + j) := fun j hj => ci_cut hj
        repeat walk_at "na"
        refine ⟨a, _, rfl, SqL.of ha, fun N hN => ?_⟩
        rw [ec]
        generalize (cs.drop (p + 1)).take (2 * k) = NL at *
        have k1 : Keep [] H (upd H N (HO.lst (NL.map V.int))) := Keep.new (Keep.refl _ _) hN
        have fN : (upd H N (HO.lst (NL.map V.int))) N = some (HO.lst (NL.map V.int)) := upd_same
        generalize upd H N (HO.lst (NL.map V.int)) = H1 at *
        repeat walk_at "na"
        refine iteD (fun g => ?_) (fun g => ?_)
        · rw [List.length_map] at g
          repeat walk_at "na"
          exact q' _ _ (by rw [if_pos hpool, poolS, if_pos (by omega)]; exact ⟨rfl, k1⟩)
        · rw [List.length_map] at g
          have hkl : p + 1 + 2 * k ≤ cs.length := by omega
          repeat walk_at "na"
          refine ⟨by omega, by omega, fun c D hD => comp_range (lo := 0) (n := (ci cs p - 7100).toNat) (fun x σ He => ∃ v0, σ = [v0, some (.ref N)] ∧ Keep [] H1 He ∧ He D = some (.lst ((words cs (p + 1) x).map V.int))) ?_ ?_ ?_⟩
          · exact ⟨_, rfl, Keep.new (Keep.refl _ _) hD, upd_same⟩
          · rintro x σ He hx ⟨v0, rfl, ke, hDe⟩ R hR
            have hNe := ke _ _ fN (by simp)
            have i1 : atI (NL.map V.int) (2 * (0 + (x : Int))) = some (.int (ci cs (p + 1 + 2 * x))) := by rw [show 2 * (0 + (x : Int)) = ((2 * x : Nat) : Int) by omega, ← cc _ (by omega)]; exact ci_at (by omega)
            have i2 : atI (NL.map V.int) (2 * (0 + (x : Int)) + 1) = some (.int (ci cs (p + 1 + 2 * x + 1))) := by rw [show 2 * (0 + (x : Int)) + 1 = ((2 * x + 1 : Nat) : Int) by omega, show p + 1 + 2 * x + 1 = p + 1 + (2 * x + 1) by omega, ← cc _ (by omega)]; exact ci_at (by omega)
            repeat walk_at "na"
            refine rd_ixL (SqL.of hNe) i1 ?_
            repeat walk_at "na"
            refine rd_ixL (SqL.of hNe) i2 ?_
            repeat walk_at "na"
            refine ⟨_, hDe, Nat.lt_of_le_of_lt (show _ ≤ 1000 by rw [List.length_map, words_len]; omega) (by decide), hR _ _ ⟨_, rfl, Keep.put ke (.inr hD), ?_⟩⟩
            rw [upd_same, words_succ, List.map_append, Int.mul_comm]
            rfl
          · rintro σ He ⟨v0, rfl, ke, hDe⟩
            repeat walk_at "na"
            refine ⟨D, _, rfl, .inl ⟨SqL.of hDe, fun Nt hNt => ?_⟩⟩
            repeat walk_at "na"
            rename_i T1 hT1 U hU
            refine q' _ _ ?_
            rw [if_pos hpool, poolS, if_neg (by omega)]
            exact ⟨T1, U, Nt, rfl, upd_same, upd_old upd_same hU, upd_old (upd_old upd_same hT1) hU, Keep.new (Keep.new (Keep.new (k1.trans ke) hNt) hT1) hU⟩
      · repeat walk_at "na"
        exact key.out (fun z => h3 (by omega))
    intro n
    refine ⟨c0, c1, fun v H1 k1 hs => ?_⟩
    have q2 : ∀ v H', SeenAt H H' v (match loneS (ci cs p) p with
        | some xs => some (.flat xs ((p : Int) + 1))
        | none => if (p : Int) + 1 = cs.length then none else
          match twoS (ci cs p) (ci cs (p + 1)) p with
          | some xs => some (.flat xs ((p : Int) + 2))
          | none => none) → Q v H' := fun v H' hs => q' v H' (by rw [if_neg n]; exact hs)
    clear q q'
    have ha1 := k1 _ _ ha (by simp)
    generalize loneS (ci cs p) p = lo at hs q2
    cases lo with
    | some xs =>
      obtain ⟨T1, rfl, hT1⟩ := hs
      repeat walk_at "na"
      rename_i U hU
      exact q2 _ _ ⟨T1, U, rfl, upd_same, upd_old hT1 hU, Keep.new k1 hU⟩
    | none =>
      have hv : v = .non := hs
      subst hv
      have q3 : ∀ v H'', SeenAt H H'' v (if (p : Int) + 1 = cs.length then none else
          match twoS (ci cs p) (ci cs (p + 1)) p with
          | some xs => some (.flat xs ((p : Int) + 2))
          | none => none) → Q v H'' := q2
      repeat walk_at "na"
      refine iteD (fun e => ?_) (fun e => ?_)
      · rw [List.length_map] at e
        have q4 : ∀ v H'', SeenAt H H'' v (match twoS (ci cs p) (ci cs (p + 1)) p with
          | some xs => some (.flat xs ((p : Int) + 2))
          | none => none) → Q v H'' := fun v H'' hs => q3 v H'' (by rw [if_neg (by omega)]; exact hs)
        have i1 : atI (cs.map V.int) ((p : Int) + 1) = some (.int (ci cs (p + 1))) := by rw [show (p : Int) + 1 = ((p + 1 : Nat) : Int) by omega]; exact ci_at (by omega)
        repeat walk_at "na"
        refine rd_ixL (SqL.of ha1) i1 ?_
        repeat walk_at "na"
        refine ⟨_, _, _, rfl, c0, c1, fun v H2 k2 hs2 => ?_⟩
        generalize twoS (ci cs p) (ci cs (p + 1)) p = tw at hs2 q4
        cases tw with
        | some xs =>
          obtain ⟨T1, rfl, hT1⟩ := hs2
          repeat walk_at "na"
          rename_i U hU
          exact q4 _ _ ⟨T1, U, rfl, upd_same, upd_old hT1 hU, Keep.new (k1.trans k2) hU⟩
        | none =>
          have hv : v = .non := hs2
          subst hv
          repeat walk_at "na"
          exact q4 _ _ ⟨rfl, k1.trans k2⟩
      · rw [List.length_map] at e
        repeat walk_at "na"
        exact q3 _ _ (by rw [if_pos (by omega)]; exact ⟨rfl, k1⟩)

/-! ### the law's own machine -/
def spLWord : Sp := fun vs H Q _ => ∃ (a : Addr) (cs : List Int) (b k : Int), vs = [.ref a, .int b, .int k] ∧ H a = some (.lst (cs.map V.int)) ∧ cs.length ≤ 1000 ∧ (∀ c ∈ cs, 0 ≤ c ∧ c < 10000) ∧ 0 ≤ k ∧
  ∀ H', Keep [] H H' → Q (match wordS cs b k with | none => .non | some n => .int n) H'
theorem ok_word (T : Txt K mg t) : FnOk P w K mg base CX0 3 t.f_word t.d_word ["_law_cells", "_law_b", "_law_k"] spLWord := by
  have G_seen := ok_lseen (P := P) (w := w) (base := base) T
  refine T.F_word.ok sc_word (fun vs H Q E h => ?_) (fun cdv A outer s H vs Q E hr h => ?_)
  · obtain ⟨a, cs, b, k, rfl, _⟩ := h
    rfl
  · obtain ⟨a, cs, b, k, rfl, ha, hz, hc, hk, q⟩ := h
    refine ⟨_, (@pss_cons _ _ _ _ _ (@ps_set _ _ 3 _ _ _ _ sc_word.nd rfl (Or.inl rfl) (@pe_call _ _ _ _ _ _ _ _ _ _ _ _ _ _ _ _ G_seen (hr.mono (by first | decide | omega)) rfl T.m_seen T.F_seen.kp T.b_seen .nil pass0 (@pa_cons _ _ _ _ _ (pv 0) (@pa_cons _ _ _ _ _ (@pe_op _ _ _ _ _ _ _ _ op_sub (pv 1) pe_int) pa_nil (by rfl)) (by rfl)) (by first | rfl | decide) (by rfl) (by rfl)) (by rfl) (by first | exact Or.inl rfl | exact Or.inr rfl | assumption))
      (@pss_cons _ _ _ _ _ (@ps_if _ _ _ _ _ _ _ _ (PW.pt (pw_or (pt_cmp (pc_isN (pv 3))) (pw_or (@pt_cmpR _ _ _ _ _ _ _ _ op_ne (@pe_ix _ _ _ _ _ _ _ ix_tup (@pe_ix _ _ _ _ _ _ _ ix_tup (pv 3) pe_int (fun _ _ => rfl)) pe_int (fun _ _ => rfl)) pe_str (nomark _)) (pw_or1 (@pt_cmpR _ _ _ _ _ _ _ _ op_ge (pv 2) (@pe_callB _ _ _ _ _ _ _ _ _ call_len_seq rfl T.m_len bt_len (@pa_cons _ _ _ _ _ (@pe_ix _ _ _ _ _ _ _ ix_tup (@pe_ix _ _ _ _ _ _ _ ix_tup (pv 3) pe_int (fun _ _ => rfl)) pe_int (fun _ _ => rfl)) pa_nil (by rfl)) (by decide) (by first | rfl | decide) (by rfl) (by rfl)) (nomark _))))))
        (@pss_one _ _ _ (ps_ret pe_non))
        pss_nil)
      (@pss_one _ _ _ (ps_ret (@pe_ix _ _ _ _ _ _ _ ix_tup (@pe_ix _ _ _ _ _ _ _ ix_tup (@pe_ix _ _ _ _ _ _ _ ix_tup (pv 3) pe_int (fun _ _ => rfl)) pe_int (fun _ _ => rfl)) (pv 2) (fun _ _ => rfl)))))), ?_⟩
    repeat walk_at "ns"
    refine ⟨a, cs, b - 1, rfl, ha, hz, hc, fun v H1 hv => ?_⟩
    obtain ⟨k1, hv⟩ := ThIs.of hv
    have q' := q H1 k1
    unfold wordS at q'
    cases e : seenT cs (b - 1) with
    | none =>
      rw [e] at hv q'
      have hv' : v = .non := hv
      subst hv'
      repeat walk_at "ns"
      exact q'
    | some x =>
      obtain ⟨th, n⟩ := x
      rw [e] at hv q'
      cases th with
      | pool ns =>
        obtain ⟨T', U, N, rfl, hU, hT, hN⟩ := hv
        repeat walk_at "ns"
        refine iteD (fun h1 => ?_) (fun h1 => ?_)
        · repeat walk_at "ns"
          simp only at q'
          rw [if_neg (by rw [List.length_map] at h1; omega)] at q'
          exact q'
        · repeat walk_at "ns"
          rw [List.length_map] at h1
          simp only at q'
          rw [if_pos (by omega)] at q'
          obtain ⟨j, rfl⟩ := Int.eq_ofNat_of_zero_le hk
          have hj : j < ns.length := by omega
          refine rd_ixT (SqT.of hN) (v := .int (ns.getD j 0)) (atI_nat ?_) ?_
          · rw [List.getElem?_map, List.getElem?_eq_getElem hj]
            simp [hj]
          · exact q'
      | row r =>
        obtain ⟨T', U, rfl, hU, hT⟩ := hv
        cases r <;> simp only [thV, rowV] at hT <;> (repeat walk_at "ns") <;> exact q'
      | _ =>
        obtain ⟨T', U, rfl, hU, hT⟩ := hv
        simp only [thV] at hT
        repeat walk_at "ns"
        exact q'
/-- the registers as a dict -/
def RegD (H : Hp) (d : Addr) (g : List Int) (m : Nat) : Prop := ∃ kvs : List (Key × V), H d = some (.dK kvs) ∧ kvs.length ≤ m ∧ ∀ r : Nat, r < 5 → (valV kvs (.inl (r : Int))).getD (.int 0) = .int (reg g r)
theorem RegD.set {H : Hp} {d : Addr} {g : List Int} {m r : Nat} {kvs : List (Key × V)} {n : Int} (hr : r < 5) (hg : g.length = 5) (hl : kvs.length ≤ m) (hv : ∀ r : Nat, r < 5 → (valV kvs (.inl (r : Int))).getD (.int 0) = .int (reg g r)) :
    RegD (upd H d (.dK (putK kvs (.inl (r : Int)) (.int n)))) d (g.set r n) (m + 1) := by
  refine ⟨_, upd_same, Nat.le_trans (length_putK _ _ _) (by omega), fun s hs => ?_⟩
  by_cases e : s = r
  · subst e
    rw [valV_put, if_pos rfl]
    simp [reg, hg, hs]
  · rw [valV_put, if_neg (fun z => e (by have := Sum.inl.inj z; omega)), hv s hs]
    simp only [reg, List.getD_eq_getElem?_getD]
    rw [List.getElem?_set_ne (fun z => e z.symm)]
def spMach : Sp := fun vs H Q _ => ∃ (a : Addr) (cs : List Int) (R : Int → Prop) (most : Int), vs = [.ref a, .int most] ∧ H a = some (.lst (cs.map V.int)) ∧ cs.length ≤ 1000 ∧ (∀ c ∈ cs, 0 ≤ c ∧ c < 10000) ∧ Steps cs R ∧ 0 ≤ most ∧ most ≤ 10000 ∧
  ∀ p H', Keep [] H H' → RunAt H H' p (mrun cs most.toNat [0, 0, 0, 0, 0] (pastS cs 0)) → Q (.ref p) H'
structure TurnsL (H Hc : Hp) (d tl wl : Addr) (cs : List Int) (M : Nat) (g : List Int) (p : Int) (T W : List Int) : Prop where
  kp : Keep [] H Hc
  hd : RegD Hc d g W.length
  ht : Hc tl = some (.lst (T.map V.int))
  hw : Hc wl = some (.lst (W.map V.int))
  gl : g.length = 5
  lw : W.length ≤ M
  lt : T.length ≤ W.length
  eq : mrun cs M [0, 0, 0, 0, 0] (pastS cs 0) = (T ++ (mrun cs (M - W.length) g (pastS cs p)).1, (mrun cs (M - W.length) g (pastS cs p)).2.1, W ++ (mrun cs (M - W.length) g (pastS cs p)).2.2)
theorem TurnsL.turn {H Hc H' : Hp} {d tl wl : Addr} {cs : List Int} {M : Nat} {g : List Int} {p nxt np : Int} {T W : List Int} {th : Th} (t : TurnsL H Hc d tl wl cs M g p T W) (er : rowS cs p = some (th, nxt)) (hno : ∀ q n, seenT cs p ≠ some (.over q, n)) (hs : th ≠ .row .stop) (hM : W.length < M)
    (enp : np = if jumpsT (reckT th g) th then goalT th else nxt) (kp : Keep [] H H') (hd : RegD H' d (reckT th g) (W ++ [p]).length) (ht : H' tl = some (.lst ((T ++ saysT g th).map V.int))) (hw : H' wl = some (.lst ((W ++ [p]).map V.int))) :
    TurnsL H H' d tl wl cs M (reckT th g) np (T ++ saysT g th) (W ++ [p]) := by
  refine ⟨kp, hd, ht, hw, by rw [reckT_len]; exact t.gl, by rw [List.length_append]; exact hM, ?_, ?_⟩
  · rw [List.length_append, List.length_append]
    have := t.lt
    have := saysT_len g th
    simp; omega
  · have e := t.eq
    have em : M - W.length = (M - (W ++ [p]).length) + 1 := by rw [List.length_append]; simp; omega
    rw [show pastS cs p = p from pastF_stay _ hno, em, mrun_row er hs] at e
    rw [e, enp]
    simp only [List.append_assoc, List.singleton_append]
theorem rd_appendG {H : Hp} {Q : VK} {y : V} {l : Addr} {xs : List V} (h : H l = some (.lst xs)) (z : xs.length < sizeLine) (q : ∀ H', H' = upd H l (.lst (xs ++ [y])) → Q .non H') : rAppend (.ref l) [y] H Q := rd_append h z (q _ rfl)
theorem overRk_le (cs : List Int) (p : Int) : overRk cs p ≤ cs.length + 1 := by
  unfold overRk
  split
  · rename_i h
    obtain ⟨q, n, h⟩ := h
    have := seenT_in h
    omega
  · omega
theorem ok_machine (T : Txt K mg t) : FnOk P w K mg base CX0 4 t.f_machine t.d_machine ["_law_cells", "_law_most"] spMach := by
  have G_seen := ok_lseen (P := P) (w := w) (base := base) T
  have G_word := ok_word (P := P) (w := w) (base := base) T
  refine T.F_machine.ok sc_machine (fun vs H Q E h => ?_) (fun cdv A outer s H vs Q E hr h => ?_)
  · obtain ⟨a, cs, R, most, rfl, _⟩ := h
    rfl
  · obtain ⟨a, cs, R, most, rfl, ha, hz, hc, hst8, m0, m1, q⟩ := h
    have ho := hst8.over
    have hu := hr.units
    have hu1 := Nat.lt_of_le_of_lt (Nat.add_le_add_left (show 1 ≤ 64 by decide) _) hu
    refine ⟨_, (@pss_cons _ _ _ _ _ (ps_asg (@pe_tup _ _ _ _ _ (@pa_cons _ _ _ _ _ pe_dnewK (@pa_cons _ _ _ _ _ (@pe_lst _ _ _ _ pa_nil) (@pa_cons _ _ _ _ _ (@pe_lst _ _ _ _ pa_nil) (@pa_cons _ _ _ _ _ pe_int pa_nil (by rfl)) (by rfl)) (by rfl)) (by rfl))) (pg_tup rfl (pgs_cons (pg_name (i := 2) sc_machine.nd rfl (Or.inl rfl)) (pgs_cons (pg_name (i := 3) sc_machine.nd rfl (Or.inl rfl)) (pgs_cons (pg_name (i := 4) sc_machine.nd rfl (Or.inl rfl)) (pgs_cons (pg_name (i := 5) sc_machine.nd rfl (Or.inl rfl)) pgs_nil))))))
      (@pss_cons _ _ _ _ _ (ps_while PassesOwn.never (@pt_cmpR _ _ _ _ _ _ _ _ op_ne (pv 5) (@pe_callB _ _ _ _ _ _ _ _ _ call_len_seq rfl T.m_len bt_len (@pa_cons _ _ _ _ _ (pv 0) pa_nil (by rfl)) (by decide) (by first | rfl | decide) (by rfl) (by rfl)) (nomark _))
        (@pss_cons _ _ _ _ _ (@ps_set _ _ 6 _ _ _ _ sc_machine.nd rfl (Or.inl rfl) (@pe_call _ _ _ _ _ _ _ _ _ _ _ _ _ _ _ _ G_seen (hr.mono (by first | decide | omega)) rfl T.m_seen T.F_seen.kp T.b_seen .nil pass0 (@pa_cons _ _ _ _ _ (pv 0) (@pa_cons _ _ _ _ _ (pv 5) pa_nil (by rfl)) (by rfl)) (by first | rfl | decide) (by rfl) (by rfl)) (by rfl) (by first | exact Or.inl rfl | exact Or.inr rfl | assumption))
      (@pss_cons _ _ _ _ _ (ps_asg (pe_ifExp (pt_cmp (pc_notN (pv 6))) (pv 6) (@pe_tup _ _ _ _ _ (@pa_cons _ _ _ _ _ (@pe_tup _ _ _ _ _ (@pa_cons _ _ _ _ _ pe_str pa_nil (by rfl))) (@pa_cons _ _ _ _ _ pe_int pa_nil (by rfl)) (by rfl)))) (pg_tup rfl (pgs_cons (pg_name (i := 7) sc_machine.nd rfl (Or.inl rfl)) (pgs_cons (pg_name (i := 8) sc_machine.nd rfl (Or.inl rfl)) pgs_nil))))
      (@pss_cons _ _ _ _ _ (@ps_if _ _ _ _ _ _ _ _ (@pt_cmpR _ _ _ _ _ _ _ _ op_eq (@pe_ix _ _ _ _ _ _ _ ix_tup (pv 7) pe_int (fun _ _ => rfl)) pe_str (nomark _))
        (@pss_cons _ _ _ _ _ (@ps_set _ _ 5 _ _ _ _ sc_machine.nd rfl (Or.inl rfl) (@pe_ix _ _ _ _ _ _ _ ix_tup (pv 7) pe_int (fun _ _ => rfl)) (by rfl) (by first | exact Or.inl rfl | exact Or.inr rfl | assumption))
      (@pss_one _ _ _ ps_continue))
        pss_nil)
      (@pss_cons _ _ _ _ _ (@ps_set _ _ 9 _ _ _ _ sc_machine.nd rfl (Or.inl rfl) (pe_ifExp (@pt_cmpR _ _ _ _ _ _ _ _ op_eq (@pe_ix _ _ _ _ _ _ _ ix_tup (pv 7) pe_int (fun _ _ => rfl)) pe_str (nomark _)) (@pe_call _ _ _ _ _ _ _ _ _ _ _ _ _ _ _ _ G_word (hr.mono (by first | decide | omega)) rfl T.m_word T.F_word.kp T.b_word .nil pass0 (@pa_cons _ _ _ _ _ (pv 0) (@pa_cons _ _ _ _ _ (@pe_ix _ _ _ _ _ _ _ ix_tup (pv 7) pe_int (fun _ _ => rfl)) (@pa_cons _ _ _ _ _ (@pe_ix _ _ _ _ _ _ _ ix_tup (pv 7) pe_int (fun _ _ => rfl)) pa_nil (by rfl)) (by rfl)) (by rfl)) (by first | rfl | decide) (by rfl) (by rfl)) pe_int) (by rfl) (by first | exact Or.inl rfl | exact Or.inr rfl | assumption))
      (@pss_cons _ _ _ _ _ (@ps_if _ _ _ _ _ _ _ _ (PW.pt (pw_or (@pt_cmpR _ _ _ _ _ _ _ _ op_in_seq (@pe_ix _ _ _ _ _ _ _ ix_tup (pv 7) pe_int (fun _ _ => rfl)) (@pe_tup _ _ _ _ _ (@pa_cons _ _ _ _ _ pe_str (@pa_cons _ _ _ _ _ pe_str pa_nil (by rfl)) (by rfl))) (by with_unfolding_all rfl)) (pw_or1 (pt_cmp (pc_isN (pv 9))))))
        (@pss_one _ _ _ (ps_ret (@pe_tup _ _ _ _ _ (@pa_cons _ _ _ _ _ (pv 3) (@pa_cons _ _ _ _ _ pe_str (@pa_cons _ _ _ _ _ (pv 4) pa_nil (by rfl)) (by rfl)) (by rfl)))))
        pss_nil)
      (@pss_cons _ _ _ _ _ (@ps_if _ _ _ _ _ _ _ _ (@pt_cmpR _ _ _ _ _ _ _ _ op_ge (@pe_callB _ _ _ _ _ _ _ _ _ call_len_seq rfl T.m_len bt_len (@pa_cons _ _ _ _ _ (pv 4) pa_nil (by rfl)) (by decide) (by first | rfl | decide) (by rfl) (by rfl)) (pv 1) (nomark _))
        (@pss_one _ _ _ (ps_ret (@pe_tup _ _ _ _ _ (@pa_cons _ _ _ _ _ (pv 3) (@pa_cons _ _ _ _ _ pe_str (@pa_cons _ _ _ _ _ (pv 4) pa_nil (by rfl)) (by rfl)) (by rfl)))))
        pss_nil)
      (@pss_cons _ _ _ _ _ (ps_expr (pe_bm PySem.F.plainAttrs_list PySem.F.slot_list_append PySem.F.type_list_append mt_append (pv 4) (@pa_cons _ _ _ _ _ (pv 5) pa_nil (by rfl))))
      (@pss_cons _ _ _ _ _ (@ps_set _ _ 5 _ _ _ _ sc_machine.nd rfl (Or.inl rfl) (pv 8) (by rfl) (by first | exact Or.inl rfl | exact Or.inr rfl | assumption))
      (@pss_cons _ _ _ _ _ (@ps_if _ _ _ _ _ _ _ _ (@pt_cmpR _ _ _ _ _ _ _ _ op_eq (@pe_ix _ _ _ _ _ _ _ ix_tup (pv 7) pe_int (fun _ _ => rfl)) pe_str (nomark _))
        (@pss_one _ _ _ (ps_ret (@pe_tup _ _ _ _ _ (@pa_cons _ _ _ _ _ (pv 3) (@pa_cons _ _ _ _ _ pe_str (@pa_cons _ _ _ _ _ (pv 4) pa_nil (by rfl)) (by rfl)) (by rfl)))))
        pss_nil)
      (@pss_one _ _ _ (@ps_if _ _ _ _ _ _ _ _ (@pt_cmpR _ _ _ _ _ _ _ _ op_in_seq (@pe_ix _ _ _ _ _ _ _ ix_tup (pv 7) pe_int (fun _ _ => rfl)) (@pe_tup _ _ _ _ _ (@pa_cons _ _ _ _ _ pe_str (@pa_cons _ _ _ _ _ pe_str pa_nil (by rfl)) (by rfl))) (by with_unfolding_all rfl))
        (@pss_one _ _ _ (@ps_if _ _ _ _ _ _ _ _ (PW.pt (pw_or (@pt_cmpR _ _ _ _ _ _ _ _ op_eq (@pe_ix _ _ _ _ _ _ _ ix_tup (pv 7) pe_int (fun _ _ => rfl)) pe_str (nomark _)) (pw_or1 (@pt_cmpR _ _ _ _ _ _ _ _ op_eq (pe_dget2 hu1 (pv 2) (@pe_ix _ _ _ _ _ _ _ ix_tup (pv 7) pe_int (fun _ _ => rfl)) pe_int ⟨rfl, rfl, rfl, rfl⟩) pe_int (nomark _)))))
        (@pss_one _ _ _ (@ps_set _ _ 5 _ _ _ _ sc_machine.nd rfl (Or.inl rfl) (@pe_ix _ _ _ _ _ _ _ ix_tup (pv 7) (pe_un un_neg pe_int) (fun _ _ => rfl)) (by rfl) (by first | exact Or.inl rfl | exact Or.inr rfl | assumption)))
        pss_nil))
        (@pss_one _ _ _ (@ps_if _ _ _ _ _ _ _ _ (@pt_cmpR _ _ _ _ _ _ _ _ op_eq (@pe_ix _ _ _ _ _ _ _ ix_tup (pv 7) pe_int (fun _ _ => rfl)) pe_str (nomark _))
        (@pss_one _ _ _ (ps_expr (pe_bm PySem.F.plainAttrs_list PySem.F.slot_list_append PySem.F.type_list_append mt_append (pv 3) (@pa_cons _ _ _ _ _ (pe_dget2 hu1 (pv 2) (@pe_ix _ _ _ _ _ _ _ ix_tup (pv 7) pe_int (fun _ _ => rfl)) pe_int ⟨rfl, rfl, rfl, rfl⟩) pa_nil (by rfl)))))
        (@pss_one _ _ _ (@ps_if _ _ _ _ _ _ _ _ (@pt_cmpR _ _ _ _ _ _ _ _ op_in_seq (@pe_ix _ _ _ _ _ _ _ ix_tup (pv 7) pe_int (fun _ _ => rfl)) (@pe_tup _ _ _ _ _ (@pa_cons _ _ _ _ _ pe_str (@pa_cons _ _ _ _ _ pe_str pa_nil (by rfl)) (by rfl))) (by with_unfolding_all rfl))
        (@pss_one _ _ _ (ps_dput hu1 (pv 2) (@pe_ix _ _ _ _ _ _ _ ix_tup (pv 7) pe_int (fun _ _ => rfl)) (pe_ifExp (@pt_cmpR _ _ _ _ _ _ _ _ op_eq (@pe_ix _ _ _ _ _ _ _ ix_tup (pv 7) pe_int (fun _ _ => rfl)) pe_str (nomark _)) (pv 9) (@pe_ix _ _ _ _ _ _ _ ix_tup (pv 7) pe_int (fun _ _ => rfl))) rfl))
        (@pss_cons _ _ _ _ _ (@ps_set _ _ 10 _ _ _ _ sc_machine.nd rfl (Or.inl rfl) (pe_dget2 hu1 (pv 2) (@pe_ix _ _ _ _ _ _ _ ix_tup (pv 7) pe_int (fun _ _ => rfl)) pe_int ⟨rfl, rfl, rfl, rfl⟩) (by rfl) (by first | exact Or.inl rfl | exact Or.inr rfl | assumption))
      (@pss_cons _ _ _ _ _ (@ps_set _ _ 11 _ _ _ _ sc_machine.nd rfl (Or.inl rfl) (pe_dget2 hu1 (pv 2) (@pe_ix _ _ _ _ _ _ _ ix_tup (pv 7) pe_int (fun _ _ => rfl)) pe_int ⟨rfl, rfl, rfl, rfl⟩) (by rfl) (by first | exact Or.inl rfl | exact Or.inr rfl | assumption))
      (@pss_one _ _ _ (ps_dput hu1 (pv 2) (@pe_ix _ _ _ _ _ _ _ ix_tup (pv 7) pe_int (fun _ _ => rfl)) (@pe_op _ _ _ _ _ _ _ _ op_mod (pe_ifExp (@pt_cmpR _ _ _ _ _ _ _ _ op_eq (@pe_ix _ _ _ _ _ _ _ ix_tup (pv 7) pe_int (fun _ _ => rfl)) pe_str (nomark _)) (@pe_op _ _ _ _ _ _ _ _ op_add (pv 11) (pv 10)) (@pe_op _ _ _ _ _ _ _ _ op_sub (pv 11) (pv 10))) (@pe_op _ _ _ _ _ _ _ _ op_pow pe_int pe_int)) rfl))))))))))))))))))))
      (@pss_one _ _ _ (ps_ret (@pe_tup _ _ _ _ _ (@pa_cons _ _ _ _ _ (pv 3) (@pa_cons _ _ _ _ _ pe_str (@pa_cons _ _ _ _ _ (pv 4) pa_nil (by rfl)) (by rfl)) (by rfl))))))), ?_⟩
    repeat walk_at "ns"
    refine rd_dnew fun d hd => ?_
    repeat walk_at "ns"
    refine ⟨small2 (by simp), fun tl htl => ?_⟩
    repeat walk_at "ns"
    refine ⟨small2 (by simp), fun wl hwl => ?_⟩
    repeat walk_at "ns"
    refine ⟨small2 (by simp), fun tp htp => ?_⟩
    have k1 : Keep [] H (upd H d (.dK [])) := Keep.new (Keep.refl [] H) hd
    have ndH : H d = none := hd
    have nt : H tl = none := k1.free htl (by simp)
    have k2 := Keep.new (o := .lst []) k1 htl
    have nw : H wl = none := k2.free hwl (by simp)
    have k3 := Keep.new (o := .lst []) k2 hwl
    have k4 := Keep.new (o := .tup [V.ref d, V.ref tl, V.ref wl, V.int 0]) k3 htp
    have e1 : d ≠ tl := ne_of_none upd_same htl
    have e2 : d ≠ wl := ne_of_none (upd_old (o := .dK []) upd_same htl) hwl
    have e3 : tl ≠ wl := ne_of_none upd_same hwl
    obtain ⟨H4, e4⟩ : ∃ Z, Z = upd (upd (upd (upd H d (.dK [])) tl (.lst [])) wl (.lst [])) tp (.tup [V.ref d, V.ref tl, V.ref wl, V.int 0]) := ⟨_, rfl⟩
    rw [← e4] at k4 ⊢
    have h4d : H4 d = some (.dK []) := by rw [e4]; exact upd_old (upd_old (upd_old upd_same htl) hwl) htp
    have h4t : H4 tl = some (.lst (([] : List Int).map V.int)) := by rw [e4]; exact upd_old (upd_old upd_same hwl) htp
    have h4w : H4 wl = some (.lst (([] : List Int).map V.int)) := by rw [e4]; exact upd_old upd_same htp
    have h4p : H4 tp = some (.tup [V.ref d, V.ref tl, V.ref wl, V.int 0]) := by rw [e4]; exact upd_same
    clear e4 k1 k2 k3 htl hwl htp
    refine rd_gtup (SqT.of h4p) rfl ?_
    repeat walk_at "ns"
    have rg0 : RegD H4 d [0, 0, 0, 0, 0] ([] : List Int).length := ⟨[], h4d, Nat.le_refl _, fun r hr => by
      match r, hr with
      | 0, _ => rfl
      | 1, _ => rfl
      | 2, _ => rfl
      | 3, _ => rfl
      | 4, _ => rfl⟩
    refine ⟨fun m σ Hc => ∃ g p Tl Wn v6 v7 v8 v9 v10 v11, m = (most.toNat - Wn.length) * (cs.length + 3) + overRk cs p ∧ σ = [some (.ref a), some (.int most), some (.ref d), some (.ref tl), some (.ref wl), some (.int p), v6, v7, v8, v9, v10, v11] ∧ TurnsL H Hc d tl wl cs most.toNat g p Tl Wn ∧ R p,
      ⟨_, [0, 0, 0, 0, 0], 0, [], [], none, none, none, none, none, none, rfl, rfl, ⟨k4, rg0, h4t, h4w, rfl, Nat.zero_le _, Nat.le_refl _, by simp⟩, hst8.zero⟩, ?_⟩
    rintro m σ Hc ⟨g, p, Tl, Wn, v6, v7, v8, v9, v10, v11, rfl, rfl, tr, hRp⟩
    have hac : Hc a = some (.lst (cs.map V.int)) := tr.kp _ _ ha (by simp)
    have sa : SqL K Hc a (cs.map V.int) := SqL.of hac
    repeat walk_at "ns"
    rw [List.length_map]
    have fin : ∀ pp (Hx : Hp) (e : Str), Keep [] Hc Hx → Hx pp = none → mrun cs (most.toNat - Wn.length) g (pastS cs p) = ([], e, []) → Q (.ref pp) (upd Hx pp (.tup [.ref tl, .str e, .ref wl])) := fun pp Hx e kx hp he => by
      have ht := kx _ _ tr.ht (by simp)
      have hw := kx _ _ tr.hw (by simp)
      have kpx := tr.kp.trans kx
      refine q pp _ (Keep.new kpx hp) ⟨tl, wl, ?_, ?_, ?_, kpx.free hp (by simp), nt, nw, e3⟩
      · rw [upd_same, tr.eq, he]
      · rw [upd_ne (ne_of_none ht hp), ht, tr.eq, he]; simp
      · rw [upd_ne (ne_of_none hw hp), hw, tr.eq, he]; simp
    refine iteDN (fun hne => ?_) (fun he => ?_)
    rotate_left
    · repeat walk_at "ns"
      refine ⟨small2 (by simp), fun pp hp => fin pp Hc _ (Keep.refl _ _) hp ?_⟩
      have hs : seenT cs p = none := by unfold seenT; rw [if_neg (by omega)]
      have hr : rowS cs p = none := by unfold rowS; rw [hs]
      rw [show pastS cs p = p from pastF_stay _ (fun q n z => by rw [hs] at z; cases z), mrun_end (.inr hr), hr]
      show ([], mEnd cs p true, []) = _
      rw [mEnd, if_pos he]
    have bad : ∀ pp (Hx : Hp), Keep [] Hc Hx → Hx pp = none → rowS cs p = none → (∀ q n, seenT cs p ≠ some (.over q, n)) → Q (.ref pp) (upd Hx pp (.tup [.ref tl, .str "bad", .ref wl])) := fun pp Hx kx hp hr hno => by
      refine fin pp Hx _ kx hp ?_
      rw [show pastS cs p = p from pastF_stay _ hno, mrun_end (.inr hr), hr]
      show ([], mEnd cs p true, []) = _
      rw [mEnd, if_neg hne]; rfl
    have going : ∀ {x : Th × Int}, rowS cs p = some x → (∀ q n, seenT cs p ≠ some (.over q, n)) → most.toNat - Wn.length = 0 → mrun cs (most.toNat - Wn.length) g (pastS cs p) = ([], Str.ofString "going", []) := fun {x} er hno h0 => by
      rw [show pastS cs p = p from pastF_stay _ hno, h0, mrun_end (.inl rfl), er]
      show ([], mEnd cs p false, []) = _
      rw [mEnd, if_neg hne]; rfl
    have less : ∀ (p np : Int), Wn.length < most.toNat → (most.toNat - (Wn ++ [p]).length) * (cs.length + 3) + overRk cs np < (most.toNat - Wn.length) * (cs.length + 3) + overRk cs p := fun p np hM => by
      have h1 := overRk_le cs np
      have h2 : most.toNat - Wn.length = (most.toNat - (Wn ++ [p]).length) + 1 := by rw [List.length_append]; simp; omega
      rw [h2, Nat.add_mul]
      omega
    refine ⟨_, fun _ _ h => h, ?_⟩
    repeat walk_at "ns"
    refine ⟨a, cs, p, rfl, hac, hz, hc, fun v H1 hv => ?_⟩
    obtain ⟨k1, hv⟩ := ThIs.of hv
    cases e : seenT cs p with
    | none =>
      rw [e] at hv
      have hv' : v = .non := hv
      subst hv'
      repeat walk_at "ns"
      refine ⟨small2 (by simp), fun z1 hz1 => ?_⟩
      repeat walk_at "ns"
      refine ⟨small2 (by simp), fun z2 hz2 => ?_⟩
      have g1 : (upd (upd H1 z1 (.tup [V.str "pad"])) z2 (.tup [V.ref z1, V.int 0])) z1 = some (.tup [V.str "pad"]) := upd_old upd_same hz2
      have g2 : (upd (upd H1 z1 (.tup [V.str "pad"])) z2 (.tup [V.ref z1, V.int 0])) z2 = some (.tup [V.ref z1, V.int 0]) := upd_same
      have k2 : Keep [] Hc (upd (upd H1 z1 (.tup [V.str "pad"])) z2 (.tup [V.ref z1, V.int 0])) := Keep.new (Keep.new k1 hz1) hz2
      generalize upd (upd H1 z1 (.tup [V.str "pad"])) z2 (.tup [V.ref z1, V.int 0]) = H2 at *
      refine rd_gtup (SqT.of g2) rfl ?_
      repeat walk_at "ns"
      refine ⟨small2 (by simp), fun z3 hz3 => ?_⟩
      refine ⟨_, _, rfl, .inr (SqT.of upd_same), by decide +kernel, by decide +kernel, ?_⟩
      repeat walk_at "ns"
      refine ⟨small2 (by simp), fun pp hp => bad pp _ (Keep.new k2 hz3) hp (by unfold rowS; rw [e]) (fun q n z => by rw [e] at z; cases z)⟩
    | some x =>
      obtain ⟨th, nxt⟩ := x
      have okT := seenT_ok e
      have hin := seenT_in e
      rw [e] at hv
      cases th with
      | over q' =>
        obtain ⟨T', U, rfl, hU, hT⟩ := hv
        simp only [thV] at hT
        repeat walk_at "ns"
        refine rd_gtup (SqT.of hU) rfl ?_
        repeat walk_at "ns"
        have lm : (most.toNat - Wn.length) * (cs.length + 3) + overRk cs q' < (most.toNat - Wn.length) * (cs.length + 3) + overRk cs p := Nat.add_lt_add_left (overRk_down ho hRp e) _
        obtain ⟨kvs, r1, r2, r3⟩ := tr.hd
        exact ⟨_, lm, g, q', Tl, Wn, _, _, _, _, _, _, rfl, rfl, ⟨tr.kp.trans k1, ⟨kvs, k1 _ _ r1 (by simp), r2, r3⟩, k1 _ _ tr.ht (by simp), k1 _ _ tr.hw (by simp), tr.gl, tr.lw, tr.lt, by rw [← pastS_over ho hRp e]; exact tr.eq⟩, (ho _ _ _ hRp e).2⟩
      | pad =>
        obtain ⟨T', U, rfl, hU, hT⟩ := hv
        simp only [thV] at hT
        repeat walk_at "ns"
        refine rd_gtup (SqT.of hU) rfl ?_
        repeat walk_at "ns"
        refine ⟨small2 (by simp), fun z3 hz3 => ?_⟩
        refine ⟨_, _, rfl, .inr (SqT.of upd_same), by decide +kernel, by decide +kernel, ?_⟩
        repeat walk_at "ns"
        refine ⟨small2 (by simp), fun pp hp => bad pp _ (Keep.new k1 hz3) hp (by unfold rowS; rw [e]) (fun q n z => by rw [e] at z; cases z)⟩
      | pool ns =>
        obtain ⟨T', U, N, rfl, hU, hT, hN⟩ := hv
        repeat walk_at "ns"
        refine rd_gtup (SqT.of hU) rfl ?_
        repeat walk_at "ns"
        refine ⟨small2 (by simp), fun z3 hz3 => ?_⟩
        refine ⟨_, _, rfl, .inr (SqT.of upd_same), by decide +kernel, by decide +kernel, ?_⟩
        repeat walk_at "ns"
        refine ⟨small2 (by simp), fun pp hp => bad pp _ (Keep.new k1 hz3) hp (by unfold rowS; rw [e]) (fun q n z => by rw [e] at z; cases z)⟩
      | great r b k =>
        obtain ⟨T', U, rfl, hU, hT⟩ := hv
        simp only [thV] at hT
        repeat walk_at "ns"
        refine rd_gtup (SqT.of hU) rfl ?_
        repeat walk_at "ns"
        refine ⟨a, cs, b, k, rfl, k1 _ _ hac (by simp), hz, hc, okT.2, fun H2 k2 => ?_⟩
        have hT2 := k2 _ _ hT (by simp)
        cases ew : wordS cs b k with
        | none =>
          dsimp only
          repeat walk_at "ns"
          refine ⟨small2 (by simp), fun z3 hz3 => ?_⟩
          refine ⟨_, _, rfl, .inr (SqT.of upd_same), by decide +kernel, by decide +kernel, ?_⟩
          repeat walk_at "ns"
          exact ⟨small2 (by simp), fun pp hp => bad pp _ (Keep.new (k1.trans k2) hz3) hp (by unfold rowS; rw [e]; simp only; rw [ew]; rfl) (fun q n z => by rw [e] at z; cases z)⟩
        | some zn =>
          dsimp only
          repeat walk_at "ns"
          refine ⟨small2 (by simp), fun z3 hz3 => ?_⟩
          refine ⟨_, _, rfl, .inr (SqT.of upd_same), by decide +kernel, by decide +kernel, ?_⟩
          have kA : Keep [] Hc (upd H2 z3 (.tup [V.str "pad", V.str "pool"])) := Keep.new (k1.trans k2) hz3
          have kA1 : Keep [] H1 (upd H2 z3 (.tup [V.str "pad", V.str "pool"])) := Keep.new k2 hz3
          generalize upd H2 z3 (.tup [V.str "pad", V.str "pool"]) = Ha at *
          have hTa := kA1 _ _ hT (by simp)
          have hwa := kA _ _ tr.hw (by simp)
          have hta := kA _ _ tr.ht (by simp)
          have swa : SqL K Ha wl (Wn.map V.int) := SqL.of hwa
          have er : rowS cs p = some (Th.row (.set r zn), nxt) := by unfold rowS; rw [e]; simp only; rw [ew]; rfl
          have hno : ∀ q n, seenT cs p ≠ some (.over q, n) := fun q n z => by rw [e] at z; cases z
          repeat walk_at "ns"
          rw [List.length_map]
          refine iteD (fun hge => ?_) (fun hlt => ?_)
          · repeat walk_at "ns"
            exact ⟨small2 (by simp), fun pp hp => fin pp Ha _ kA hp (going er hno (by omega))⟩
          have hM : Wn.length < most.toNat := by omega
          have lw := tr.lw
          have ltw := tr.lt
          repeat walk_at "ns"
          refine rd_appendG hwa (by rw [List.length_map]; exact Nat.lt_of_lt_of_le (by omega) (by decide : 100001 ≤ sizeLine)) fun Hb eb => ?_
          rw [show Wn.map V.int ++ [V.int p] = (Wn ++ [p]).map V.int by simp] at eb
          have hwb : Hb wl = some (.lst ((Wn ++ [p]).map V.int)) := by rw [eb]; exact upd_same
          have htb : Hb tl = some (.lst (Tl.map V.int)) := by rw [eb, upd_ne e3]; exact hta
          have hTb : Hb T' = some (.tup (thV (Th.great r b k))) := by rw [eb, upd_ne (ne_of hTa hwa (by intro z; cases z))]; exact hTa
          have kB : Keep [] H Hb := by rw [eb]; exact Keep.put (tr.kp.trans kA) (.inr nw)
          obtain ⟨kvs, r1, r2, r3⟩ := tr.hd
          have hdb : Hb d = some (.dK kvs) := by rw [eb, upd_ne e2]; exact kA _ _ r1 (by simp)
          have rgb : RegD Hb d g (Wn ++ [p]).length := ⟨kvs, hdb, by rw [List.length_append]; simp; omega, r3⟩
          have lm : ∀ np, (most.toNat - (Wn ++ [p]).length) * (cs.length + 3) + overRk cs np < (most.toNat - Wn.length) * (cs.length + 3) + overRk cs p := fun np => less p np hM
          clear eb kA kA1 hTa hwa hta swa hz3
          simp only [thV, rowV] at hTb
          repeat walk_at "ns"
          refine ⟨small2 (by simp), fun z4 hz4 => ?_⟩
          refine ⟨_, _, rfl, .inr (SqT.of upd_same), by decide +kernel, by decide +kernel, ?_⟩
          have kz4 : Keep [] Hb (upd Hb z4 (.tup [V.str "go", V.str "nil"])) := Keep.new (Keep.refl _ _) hz4
          generalize upd Hb z4 (.tup [V.str "go", V.str "nil"]) = Hz4 at *
          have hTz4 := kz4 _ _ hTb (by simp)
          have hdz4 := kz4 _ _ hdb (by simp)
          have htz4 := kz4 _ _ htb (by simp)
          have hwz4 := kz4 _ _ hwb (by simp)
          repeat walk_at "ns"
          refine ⟨small2 (by simp), fun z5 hz5 => ?_⟩
          refine ⟨_, _, rfl, .inr (SqT.of upd_same), by decide +kernel, by decide +kernel, ?_⟩
          have kz5 : Keep [] Hz4 (upd Hz4 z5 (.tup [V.str "set", V.str "great"])) := Keep.new (Keep.refl _ _) hz5
          generalize upd Hz4 z5 (.tup [V.str "set", V.str "great"]) = Hz5 at *
          have hTz5 := kz5 _ _ hTz4 (by simp)
          have hdz5 := kz5 _ _ hdz4 (by simp)
          have htz5 := kz5 _ _ htz4 (by simp)
          have hwz5 := kz5 _ _ hwz4 (by simp)
          repeat walk_at "ns"
          refine ⟨_, _, rfl, DPut.k (k := Sum.inl (r : Int)) hdz5 (Nat.lt_of_le_of_lt (show _ ≤ 10000 by omega) (by decide)), ?_⟩
          have kz := kz4.trans kz5
          exact ⟨_, lm _, _, nxt, _, _, _, _, _, _, _, _, rfl, rfl, tr.turn er hno (by intro z; cases z) hM rfl (fun b o hb hn => by rw [upd_ne (ne_of_none hb ndH)]; exact (kB.trans kz) b o hb hn) (by have := RegD.set (H := Hz5) (d := d) (n := zn) (show r < 5 by exact okT.1) tr.gl (show kvs.length ≤ Wn.length by omega) r3; rw [List.length_append]; exact this) (by rw [upd_ne (Ne.symm e1)]; simpa [saysT, says] using htz5) (by rw [upd_ne (Ne.symm e2)]; exact hwz5), by first | exact (hst8.row _ _ _ hRp er hno (by intro z; cases z)).1 | exact (hst8.row _ _ _ hRp er hno (by intro z; cases z)).2 g (by first | rfl | exact decide_eq_true hj)⟩
      | go q' l =>
        obtain ⟨T', U, rfl, hU, hT⟩ := hv
        simp only [thV, rowV] at hT
        repeat walk_at "ns"
        refine rd_gtup (SqT.of hU) rfl ?_
        repeat walk_at "ns"
        refine ⟨small2 (by simp), fun z3 hz3 => ?_⟩
        refine ⟨_, _, rfl, .inr (SqT.of upd_same), by decide +kernel, by decide +kernel, ?_⟩
        have kA : Keep [] Hc (upd H1 z3 (.tup [V.str "pad", V.str "pool"])) := Keep.new k1 hz3
        have kA1 : Keep [] H1 (upd H1 z3 (.tup [V.str "pad", V.str "pool"])) := Keep.new (Keep.refl _ _) hz3
        generalize upd H1 z3 (.tup [V.str "pad", V.str "pool"]) = Ha at *
        have hTa := kA1 _ _ hT (by simp)
        have hwa := kA _ _ tr.hw (by simp)
        have hta := kA _ _ tr.ht (by simp)
        have swa : SqL K Ha wl (Wn.map V.int) := SqL.of hwa
        have er : rowS cs p = some (Th.go q' l, nxt) := by unfold rowS; rw [e]
        have hno : ∀ q n, seenT cs p ≠ some (.over q, n) := fun q n z => by rw [e] at z; cases z
        repeat walk_at "ns"
        rw [List.length_map]
        refine iteD (fun hge => ?_) (fun hlt => ?_)
        · repeat walk_at "ns"
          exact ⟨small2 (by simp), fun pp hp => fin pp Ha _ kA hp (going er hno (by omega))⟩
        have hM : Wn.length < most.toNat := by omega
        have lw := tr.lw
        have ltw := tr.lt
        repeat walk_at "ns"
        refine rd_appendG hwa (by rw [List.length_map]; exact Nat.lt_of_lt_of_le (by omega) (by decide : 100001 ≤ sizeLine)) fun Hb eb => ?_
        rw [show Wn.map V.int ++ [V.int p] = (Wn ++ [p]).map V.int by simp] at eb
        have hwb : Hb wl = some (.lst ((Wn ++ [p]).map V.int)) := by rw [eb]; exact upd_same
        have htb : Hb tl = some (.lst (Tl.map V.int)) := by rw [eb, upd_ne e3]; exact hta
        have hTb : Hb T' = some (.tup (thV (Th.go q' l))) := by rw [eb, upd_ne (ne_of hTa hwa (by intro z; cases z))]; exact hTa
        have kB : Keep [] H Hb := by rw [eb]; exact Keep.put (tr.kp.trans kA) (.inr nw)
        obtain ⟨kvs, r1, r2, r3⟩ := tr.hd
        have hdb : Hb d = some (.dK kvs) := by rw [eb, upd_ne e2]; exact kA _ _ r1 (by simp)
        have rgb : RegD Hb d g (Wn ++ [p]).length := ⟨kvs, hdb, by rw [List.length_append]; simp; omega, r3⟩
        have lm : ∀ np, (most.toNat - (Wn ++ [p]).length) * (cs.length + 3) + overRk cs np < (most.toNat - Wn.length) * (cs.length + 3) + overRk cs p := fun np => less p np hM
        clear eb kA kA1 hTa hwa hta swa hz3
        simp only [thV, rowV] at hTb
        repeat walk_at "ns"
        refine ⟨small2 (by simp), fun z4 hz4 => ?_⟩
        refine ⟨_, _, rfl, .inr (SqT.of upd_same), by decide +kernel, by decide +kernel, ?_⟩
        have kz4 : Keep [] Hb (upd Hb z4 (.tup [V.str "go", V.str "nil"])) := Keep.new (Keep.refl _ _) hz4
        generalize upd Hb z4 (.tup [V.str "go", V.str "nil"]) = Hz4 at *
        have hTz4 := kz4 _ _ hTb (by simp)
        have hdz4 := kz4 _ _ hdb (by simp)
        have htz4 := kz4 _ _ htb (by simp)
        have hwz4 := kz4 _ _ hwb (by simp)
        repeat walk_at "ns"
        exact ⟨_, lm _, _, q', _, _, _, _, _, _, _, _, rfl, rfl, tr.turn er hno (by intro z; cases z) hM rfl (kB.trans kz4) ⟨kvs, hdz4, by rw [List.length_append]; simp; omega, r3⟩ (by simpa [saysT, says] using htz4) hwz4, by first | exact (hst8.row _ _ _ hRp er hno (by intro z; cases z)).1 | exact (hst8.row _ _ _ hRp er hno (by intro z; cases z)).2 g (by first | rfl | exact decide_eq_true hj)⟩
      | nil r q' l =>
        obtain ⟨T', U, rfl, hU, hT⟩ := hv
        simp only [thV, rowV] at hT
        repeat walk_at "ns"
        refine rd_gtup (SqT.of hU) rfl ?_
        repeat walk_at "ns"
        refine ⟨small2 (by simp), fun z3 hz3 => ?_⟩
        refine ⟨_, _, rfl, .inr (SqT.of upd_same), by decide +kernel, by decide +kernel, ?_⟩
        have kA : Keep [] Hc (upd H1 z3 (.tup [V.str "pad", V.str "pool"])) := Keep.new k1 hz3
        have kA1 : Keep [] H1 (upd H1 z3 (.tup [V.str "pad", V.str "pool"])) := Keep.new (Keep.refl _ _) hz3
        generalize upd H1 z3 (.tup [V.str "pad", V.str "pool"]) = Ha at *
        have hTa := kA1 _ _ hT (by simp)
        have hwa := kA _ _ tr.hw (by simp)
        have hta := kA _ _ tr.ht (by simp)
        have swa : SqL K Ha wl (Wn.map V.int) := SqL.of hwa
        have er : rowS cs p = some (Th.nil r q' l, nxt) := by unfold rowS; rw [e]
        have hno : ∀ q n, seenT cs p ≠ some (.over q, n) := fun q n z => by rw [e] at z; cases z
        repeat walk_at "ns"
        rw [List.length_map]
        refine iteD (fun hge => ?_) (fun hlt => ?_)
        · repeat walk_at "ns"
          exact ⟨small2 (by simp), fun pp hp => fin pp Ha _ kA hp (going er hno (by omega))⟩
        have hM : Wn.length < most.toNat := by omega
        have lw := tr.lw
        have ltw := tr.lt
        repeat walk_at "ns"
        refine rd_appendG hwa (by rw [List.length_map]; exact Nat.lt_of_lt_of_le (by omega) (by decide : 100001 ≤ sizeLine)) fun Hb eb => ?_
        rw [show Wn.map V.int ++ [V.int p] = (Wn ++ [p]).map V.int by simp] at eb
        have hwb : Hb wl = some (.lst ((Wn ++ [p]).map V.int)) := by rw [eb]; exact upd_same
        have htb : Hb tl = some (.lst (Tl.map V.int)) := by rw [eb, upd_ne e3]; exact hta
        have hTb : Hb T' = some (.tup (thV (Th.nil r q' l))) := by rw [eb, upd_ne (ne_of hTa hwa (by intro z; cases z))]; exact hTa
        have kB : Keep [] H Hb := by rw [eb]; exact Keep.put (tr.kp.trans kA) (.inr nw)
        obtain ⟨kvs, r1, r2, r3⟩ := tr.hd
        have hdb : Hb d = some (.dK kvs) := by rw [eb, upd_ne e2]; exact kA _ _ r1 (by simp)
        have rgb : RegD Hb d g (Wn ++ [p]).length := ⟨kvs, hdb, by rw [List.length_append]; simp; omega, r3⟩
        have lm : ∀ np, (most.toNat - (Wn ++ [p]).length) * (cs.length + 3) + overRk cs np < (most.toNat - Wn.length) * (cs.length + 3) + overRk cs p := fun np => less p np hM
        clear eb kA kA1 hTa hwa hta swa hz3
        simp only [thV, rowV] at hTb
        repeat walk_at "ns"
        refine ⟨small2 (by simp), fun z4 hz4 => ?_⟩
        refine ⟨_, _, rfl, .inr (SqT.of upd_same), by decide +kernel, by decide +kernel, ?_⟩
        have kz4 : Keep [] Hb (upd Hb z4 (.tup [V.str "go", V.str "nil"])) := Keep.new (Keep.refl _ _) hz4
        generalize upd Hb z4 (.tup [V.str "go", V.str "nil"]) = Hz4 at *
        have hTz4 := kz4 _ _ hTb (by simp)
        have hdz4 := kz4 _ _ hdb (by simp)
        have htz4 := kz4 _ _ htb (by simp)
        have hwz4 := kz4 _ _ hwb (by simp)
        repeat walk_at "ns"
        refine ⟨isDk hdz4, ?_⟩
        repeat walk_at "ns"
        refine ⟨_, DGet.k (k := Sum.inl (r : Int)) hdz4, ?_⟩
        rw [r3 r (by exact okT)]
        repeat walk_at "ns"
        refine iteD (fun hj => ?_) (fun hj => ?_)
        · repeat walk_at "ns"
          exact ⟨_, lm _, _, q', _, _, _, _, _, _, _, _, rfl, rfl, tr.turn er hno (by intro z; cases z) hM (by rw [show jumpsT (reckT (.nil r q' l) g) (.nil r q' l) = true from decide_eq_true hj, if_pos rfl]; rfl) (kB.trans kz4) ⟨kvs, hdz4, by rw [List.length_append]; simp; omega, r3⟩ (by simpa [saysT, says] using htz4) hwz4, by first | exact (hst8.row _ _ _ hRp er hno (by intro z; cases z)).1 | exact (hst8.row _ _ _ hRp er hno (by intro z; cases z)).2 g (by first | rfl | exact decide_eq_true hj)⟩
        · repeat walk_at "ns"
          exact ⟨_, lm _, _, nxt, _, _, _, _, _, _, _, _, rfl, rfl, tr.turn er hno (by intro z; cases z) hM (by rw [show jumpsT (reckT (.nil r q' l) g) (.nil r q' l) = false from decide_eq_false hj, if_neg Bool.false_ne_true]) (kB.trans kz4) ⟨kvs, hdz4, by rw [List.length_append]; simp; omega, r3⟩ (by simpa [saysT, says] using htz4) hwz4, by first | exact (hst8.row _ _ _ hRp er hno (by intro z; cases z)).1 | exact (hst8.row _ _ _ hRp er hno (by intro z; cases z)).2 g (by first | rfl | exact decide_eq_true hj)⟩
      | row r =>
        cases r with
        | go t' => exact okT.elim
        | nil r t' => exact okT.elim
        | stop =>
          obtain ⟨T', U, rfl, hU, hT⟩ := hv
          simp only [thV, rowV] at hT
          repeat walk_at "ns"
          refine rd_gtup (SqT.of hU) rfl ?_
          repeat walk_at "ns"
          refine ⟨small2 (by simp), fun z3 hz3 => ?_⟩
          refine ⟨_, _, rfl, .inr (SqT.of upd_same), by decide +kernel, by decide +kernel, ?_⟩
          have kA : Keep [] Hc (upd H1 z3 (.tup [V.str "pad", V.str "pool"])) := Keep.new k1 hz3
          have kA1 : Keep [] H1 (upd H1 z3 (.tup [V.str "pad", V.str "pool"])) := Keep.new (Keep.refl _ _) hz3
          generalize upd H1 z3 (.tup [V.str "pad", V.str "pool"]) = Ha at *
          have hTa := kA1 _ _ hT (by simp)
          have hwa := kA _ _ tr.hw (by simp)
          have hta := kA _ _ tr.ht (by simp)
          have swa : SqL K Ha wl (Wn.map V.int) := SqL.of hwa
          have er : rowS cs p = some (Th.row .stop, nxt) := by unfold rowS; rw [e]
          have hno : ∀ q n, seenT cs p ≠ some (.over q, n) := fun q n z => by rw [e] at z; cases z
          repeat walk_at "ns"
          rw [List.length_map]
          refine iteD (fun hge => ?_) (fun hlt => ?_)
          · repeat walk_at "ns"
            exact ⟨small2 (by simp), fun pp hp => fin pp Ha _ kA hp (going er hno (by omega))⟩
          have hM : Wn.length < most.toNat := by omega
          have lw := tr.lw
          have ltw := tr.lt
          repeat walk_at "ns"
          refine rd_appendG hwa (by rw [List.length_map]; exact Nat.lt_of_lt_of_le (by omega) (by decide : 100001 ≤ sizeLine)) fun Hb eb => ?_
          rw [show Wn.map V.int ++ [V.int p] = (Wn ++ [p]).map V.int by simp] at eb
          have hwb : Hb wl = some (.lst ((Wn ++ [p]).map V.int)) := by rw [eb]; exact upd_same
          have htb : Hb tl = some (.lst (Tl.map V.int)) := by rw [eb, upd_ne e3]; exact hta
          have hTb : Hb T' = some (.tup (thV (Th.row .stop))) := by rw [eb, upd_ne (ne_of hTa hwa (by intro z; cases z))]; exact hTa
          have kB : Keep [] H Hb := by rw [eb]; exact Keep.put (tr.kp.trans kA) (.inr nw)
          obtain ⟨kvs, r1, r2, r3⟩ := tr.hd
          have hdb : Hb d = some (.dK kvs) := by rw [eb, upd_ne e2]; exact kA _ _ r1 (by simp)
          have rgb : RegD Hb d g (Wn ++ [p]).length := ⟨kvs, hdb, by rw [List.length_append]; simp; omega, r3⟩
          have lm : ∀ np, (most.toNat - (Wn ++ [p]).length) * (cs.length + 3) + overRk cs np < (most.toNat - Wn.length) * (cs.length + 3) + overRk cs p := fun np => less p np hM
          clear eb kA kA1 hTa hwa hta swa hz3
          simp only [thV, rowV] at hTb
          repeat walk_at "ns"
          refine ⟨small2 (by simp), fun pp hp => ?_⟩
          have em : most.toNat - Wn.length = (most.toNat - Wn.length - 1) + 1 := by omega
          have epp : pastS cs p = p := pastF_stay _ hno
          refine q pp _ (Keep.new kB hp) ⟨tl, wl, ?_, ?_, ?_, kB.free hp (by simp), nt, nw, e3⟩
          · rw [upd_same, tr.eq, em, epp, mrun_stop er]
          · rw [upd_ne (ne_of_none htb hp), htb, tr.eq, em, epp, mrun_stop er]; simp
          · rw [upd_ne (ne_of_none hwb hp), hwb, tr.eq, em, epp, mrun_stop er]
        | tell r =>
          obtain ⟨T', U, rfl, hU, hT⟩ := hv
          simp only [thV, rowV] at hT
          repeat walk_at "ns"
          refine rd_gtup (SqT.of hU) rfl ?_
          repeat walk_at "ns"
          refine ⟨small2 (by simp), fun z3 hz3 => ?_⟩
          refine ⟨_, _, rfl, .inr (SqT.of upd_same), by decide +kernel, by decide +kernel, ?_⟩
          have kA : Keep [] Hc (upd H1 z3 (.tup [V.str "pad", V.str "pool"])) := Keep.new k1 hz3
          have kA1 : Keep [] H1 (upd H1 z3 (.tup [V.str "pad", V.str "pool"])) := Keep.new (Keep.refl _ _) hz3
          generalize upd H1 z3 (.tup [V.str "pad", V.str "pool"]) = Ha at *
          have hTa := kA1 _ _ hT (by simp)
          have hwa := kA _ _ tr.hw (by simp)
          have hta := kA _ _ tr.ht (by simp)
          have swa : SqL K Ha wl (Wn.map V.int) := SqL.of hwa
          have er : rowS cs p = some (Th.row (.tell r), nxt) := by unfold rowS; rw [e]
          have hno : ∀ q n, seenT cs p ≠ some (.over q, n) := fun q n z => by rw [e] at z; cases z
          repeat walk_at "ns"
          rw [List.length_map]
          refine iteD (fun hge => ?_) (fun hlt => ?_)
          · repeat walk_at "ns"
            exact ⟨small2 (by simp), fun pp hp => fin pp Ha _ kA hp (going er hno (by omega))⟩
          have hM : Wn.length < most.toNat := by omega
          have lw := tr.lw
          have ltw := tr.lt
          repeat walk_at "ns"
          refine rd_appendG hwa (by rw [List.length_map]; exact Nat.lt_of_lt_of_le (by omega) (by decide : 100001 ≤ sizeLine)) fun Hb eb => ?_
          rw [show Wn.map V.int ++ [V.int p] = (Wn ++ [p]).map V.int by simp] at eb
          have hwb : Hb wl = some (.lst ((Wn ++ [p]).map V.int)) := by rw [eb]; exact upd_same
          have htb : Hb tl = some (.lst (Tl.map V.int)) := by rw [eb, upd_ne e3]; exact hta
          have hTb : Hb T' = some (.tup (thV (Th.row (.tell r)))) := by rw [eb, upd_ne (ne_of hTa hwa (by intro z; cases z))]; exact hTa
          have kB : Keep [] H Hb := by rw [eb]; exact Keep.put (tr.kp.trans kA) (.inr nw)
          obtain ⟨kvs, r1, r2, r3⟩ := tr.hd
          have hdb : Hb d = some (.dK kvs) := by rw [eb, upd_ne e2]; exact kA _ _ r1 (by simp)
          have rgb : RegD Hb d g (Wn ++ [p]).length := ⟨kvs, hdb, by rw [List.length_append]; simp; omega, r3⟩
          have lm : ∀ np, (most.toNat - (Wn ++ [p]).length) * (cs.length + 3) + overRk cs np < (most.toNat - Wn.length) * (cs.length + 3) + overRk cs p := fun np => less p np hM
          clear eb kA kA1 hTa hwa hta swa hz3
          simp only [thV, rowV] at hTb
          repeat walk_at "ns"
          refine ⟨small2 (by simp), fun z4 hz4 => ?_⟩
          refine ⟨_, _, rfl, .inr (SqT.of upd_same), by decide +kernel, by decide +kernel, ?_⟩
          have kz4 : Keep [] Hb (upd Hb z4 (.tup [V.str "go", V.str "nil"])) := Keep.new (Keep.refl _ _) hz4
          generalize upd Hb z4 (.tup [V.str "go", V.str "nil"]) = Hz4 at *
          have hTz4 := kz4 _ _ hTb (by simp)
          have hdz4 := kz4 _ _ hdb (by simp)
          have htz4 := kz4 _ _ htb (by simp)
          have hwz4 := kz4 _ _ hwb (by simp)
          repeat walk_at "ns"
          refine ⟨isDk hdz4, ?_⟩
          repeat walk_at "ns"
          refine ⟨_, DGet.k (k := Sum.inl (r : Int)) hdz4, ?_⟩
          rw [r3 r (by exact okT)]
          repeat walk_at "ns"
          refine rd_appendG htz4 (by rw [List.length_map]; exact Nat.lt_of_lt_of_le (by omega) (by decide : 100001 ≤ sizeLine)) fun He ee => ?_
          repeat walk_at "ns"
          exact ⟨_, lm _, _, nxt, _, _, _, _, _, _, _, _, rfl, rfl, tr.turn er hno (by intro z; cases z) hM rfl (by rw [ee]; exact Keep.put (kB.trans kz4) (.inr nt)) ⟨kvs, by rw [ee, upd_ne e1]; exact hdz4, by rw [List.length_append]; simp; omega, r3⟩ (by rw [ee, upd_same]; simp [saysT, says]) (by rw [ee, upd_ne (Ne.symm e3)]; exact hwz4), by first | exact (hst8.row _ _ _ hRp er hno (by intro z; cases z)).1 | exact (hst8.row _ _ _ hRp er hno (by intro z; cases z)).2 g (by first | rfl | exact decide_eq_true hj)⟩
        | set r n' =>
          obtain ⟨T', U, rfl, hU, hT⟩ := hv
          simp only [thV, rowV] at hT
          repeat walk_at "ns"
          refine rd_gtup (SqT.of hU) rfl ?_
          repeat walk_at "ns"
          refine ⟨small2 (by simp), fun z3 hz3 => ?_⟩
          refine ⟨_, _, rfl, .inr (SqT.of upd_same), by decide +kernel, by decide +kernel, ?_⟩
          have kA : Keep [] Hc (upd H1 z3 (.tup [V.str "pad", V.str "pool"])) := Keep.new k1 hz3
          have kA1 : Keep [] H1 (upd H1 z3 (.tup [V.str "pad", V.str "pool"])) := Keep.new (Keep.refl _ _) hz3
          generalize upd H1 z3 (.tup [V.str "pad", V.str "pool"]) = Ha at *
          have hTa := kA1 _ _ hT (by simp)
          have hwa := kA _ _ tr.hw (by simp)
          have hta := kA _ _ tr.ht (by simp)
          have swa : SqL K Ha wl (Wn.map V.int) := SqL.of hwa
          have er : rowS cs p = some (Th.row (.set r n'), nxt) := by unfold rowS; rw [e]
          have hno : ∀ q n, seenT cs p ≠ some (.over q, n) := fun q n z => by rw [e] at z; cases z
          repeat walk_at "ns"
          rw [List.length_map]
          refine iteD (fun hge => ?_) (fun hlt => ?_)
          · repeat walk_at "ns"
            exact ⟨small2 (by simp), fun pp hp => fin pp Ha _ kA hp (going er hno (by omega))⟩
          have hM : Wn.length < most.toNat := by omega
          have lw := tr.lw
          have ltw := tr.lt
          repeat walk_at "ns"
          refine rd_appendG hwa (by rw [List.length_map]; exact Nat.lt_of_lt_of_le (by omega) (by decide : 100001 ≤ sizeLine)) fun Hb eb => ?_
          rw [show Wn.map V.int ++ [V.int p] = (Wn ++ [p]).map V.int by simp] at eb
          have hwb : Hb wl = some (.lst ((Wn ++ [p]).map V.int)) := by rw [eb]; exact upd_same
          have htb : Hb tl = some (.lst (Tl.map V.int)) := by rw [eb, upd_ne e3]; exact hta
          have hTb : Hb T' = some (.tup (thV (Th.row (.set r n')))) := by rw [eb, upd_ne (ne_of hTa hwa (by intro z; cases z))]; exact hTa
          have kB : Keep [] H Hb := by rw [eb]; exact Keep.put (tr.kp.trans kA) (.inr nw)
          obtain ⟨kvs, r1, r2, r3⟩ := tr.hd
          have hdb : Hb d = some (.dK kvs) := by rw [eb, upd_ne e2]; exact kA _ _ r1 (by simp)
          have rgb : RegD Hb d g (Wn ++ [p]).length := ⟨kvs, hdb, by rw [List.length_append]; simp; omega, r3⟩
          have lm : ∀ np, (most.toNat - (Wn ++ [p]).length) * (cs.length + 3) + overRk cs np < (most.toNat - Wn.length) * (cs.length + 3) + overRk cs p := fun np => less p np hM
          clear eb kA kA1 hTa hwa hta swa hz3
          simp only [thV, rowV] at hTb
          repeat walk_at "ns"
          refine ⟨small2 (by simp), fun z4 hz4 => ?_⟩
          refine ⟨_, _, rfl, .inr (SqT.of upd_same), by decide +kernel, by decide +kernel, ?_⟩
          have kz4 : Keep [] Hb (upd Hb z4 (.tup [V.str "go", V.str "nil"])) := Keep.new (Keep.refl _ _) hz4
          generalize upd Hb z4 (.tup [V.str "go", V.str "nil"]) = Hz4 at *
          have hTz4 := kz4 _ _ hTb (by simp)
          have hdz4 := kz4 _ _ hdb (by simp)
          have htz4 := kz4 _ _ htb (by simp)
          have hwz4 := kz4 _ _ hwb (by simp)
          repeat walk_at "ns"
          refine ⟨small2 (by simp), fun z5 hz5 => ?_⟩
          refine ⟨_, _, rfl, .inr (SqT.of upd_same), by decide +kernel, by decide +kernel, ?_⟩
          have kz5 : Keep [] Hz4 (upd Hz4 z5 (.tup [V.str "set", V.str "great"])) := Keep.new (Keep.refl _ _) hz5
          generalize upd Hz4 z5 (.tup [V.str "set", V.str "great"]) = Hz5 at *
          have hTz5 := kz5 _ _ hTz4 (by simp)
          have hdz5 := kz5 _ _ hdz4 (by simp)
          have htz5 := kz5 _ _ htz4 (by simp)
          have hwz5 := kz5 _ _ hwz4 (by simp)
          repeat walk_at "ns"
          refine ⟨_, _, rfl, DPut.k (k := Sum.inl (r : Int)) hdz5 (Nat.lt_of_le_of_lt (show _ ≤ 10000 by omega) (by decide)), ?_⟩
          have kz := kz4.trans kz5
          exact ⟨_, lm _, _, nxt, _, _, _, _, _, _, _, _, rfl, rfl, tr.turn er hno (by intro z; cases z) hM rfl (fun b o hb hn => by rw [upd_ne (ne_of_none hb ndH)]; exact (kB.trans kz) b o hb hn) (by have := RegD.set (H := Hz5) (d := d) (n := n') (show r < 5 by exact okT) tr.gl (show kvs.length ≤ Wn.length by omega) r3; rw [List.length_append]; exact this) (by rw [upd_ne (Ne.symm e1)]; simpa [saysT, says] using htz5) (by rw [upd_ne (Ne.symm e2)]; exact hwz5), by first | exact (hst8.row _ _ _ hRp er hno (by intro z; cases z)).1 | exact (hst8.row _ _ _ hRp er hno (by intro z; cases z)).2 g (by first | rfl | exact decide_eq_true hj)⟩
        | sum r s' =>
          obtain ⟨T', U, rfl, hU, hT⟩ := hv
          simp only [thV, rowV] at hT
          repeat walk_at "ns"
          refine rd_gtup (SqT.of hU) rfl ?_
          repeat walk_at "ns"
          refine ⟨small2 (by simp), fun z3 hz3 => ?_⟩
          refine ⟨_, _, rfl, .inr (SqT.of upd_same), by decide +kernel, by decide +kernel, ?_⟩
          have kA : Keep [] Hc (upd H1 z3 (.tup [V.str "pad", V.str "pool"])) := Keep.new k1 hz3
          have kA1 : Keep [] H1 (upd H1 z3 (.tup [V.str "pad", V.str "pool"])) := Keep.new (Keep.refl _ _) hz3
          generalize upd H1 z3 (.tup [V.str "pad", V.str "pool"]) = Ha at *
          have hTa := kA1 _ _ hT (by simp)
          have hwa := kA _ _ tr.hw (by simp)
          have hta := kA _ _ tr.ht (by simp)
          have swa : SqL K Ha wl (Wn.map V.int) := SqL.of hwa
          have er : rowS cs p = some (Th.row (.sum r s'), nxt) := by unfold rowS; rw [e]
          have hno : ∀ q n, seenT cs p ≠ some (.over q, n) := fun q n z => by rw [e] at z; cases z
          repeat walk_at "ns"
          rw [List.length_map]
          refine iteD (fun hge => ?_) (fun hlt => ?_)
          · repeat walk_at "ns"
            exact ⟨small2 (by simp), fun pp hp => fin pp Ha _ kA hp (going er hno (by omega))⟩
          have hM : Wn.length < most.toNat := by omega
          have lw := tr.lw
          have ltw := tr.lt
          repeat walk_at "ns"
          refine rd_appendG hwa (by rw [List.length_map]; exact Nat.lt_of_lt_of_le (by omega) (by decide : 100001 ≤ sizeLine)) fun Hb eb => ?_
          rw [show Wn.map V.int ++ [V.int p] = (Wn ++ [p]).map V.int by simp] at eb
          have hwb : Hb wl = some (.lst ((Wn ++ [p]).map V.int)) := by rw [eb]; exact upd_same
          have htb : Hb tl = some (.lst (Tl.map V.int)) := by rw [eb, upd_ne e3]; exact hta
          have hTb : Hb T' = some (.tup (thV (Th.row (.sum r s')))) := by rw [eb, upd_ne (ne_of hTa hwa (by intro z; cases z))]; exact hTa
          have kB : Keep [] H Hb := by rw [eb]; exact Keep.put (tr.kp.trans kA) (.inr nw)
          obtain ⟨kvs, r1, r2, r3⟩ := tr.hd
          have hdb : Hb d = some (.dK kvs) := by rw [eb, upd_ne e2]; exact kA _ _ r1 (by simp)
          have rgb : RegD Hb d g (Wn ++ [p]).length := ⟨kvs, hdb, by rw [List.length_append]; simp; omega, r3⟩
          have lm : ∀ np, (most.toNat - (Wn ++ [p]).length) * (cs.length + 3) + overRk cs np < (most.toNat - Wn.length) * (cs.length + 3) + overRk cs p := fun np => less p np hM
          clear eb kA kA1 hTa hwa hta swa hz3
          simp only [thV, rowV] at hTb
          repeat walk_at "ns"
          refine ⟨small2 (by simp), fun z4 hz4 => ?_⟩
          refine ⟨_, _, rfl, .inr (SqT.of upd_same), by decide +kernel, by decide +kernel, ?_⟩
          have kz4 : Keep [] Hb (upd Hb z4 (.tup [V.str "go", V.str "nil"])) := Keep.new (Keep.refl _ _) hz4
          generalize upd Hb z4 (.tup [V.str "go", V.str "nil"]) = Hz4 at *
          have hTz4 := kz4 _ _ hTb (by simp)
          have hdz4 := kz4 _ _ hdb (by simp)
          have htz4 := kz4 _ _ htb (by simp)
          have hwz4 := kz4 _ _ hwb (by simp)
          repeat walk_at "ns"
          refine ⟨small2 (by simp), fun z5 hz5 => ?_⟩
          refine ⟨_, _, rfl, .inr (SqT.of upd_same), by decide +kernel, by decide +kernel, ?_⟩
          have kz5 : Keep [] Hz4 (upd Hz4 z5 (.tup [V.str "set", V.str "great"])) := Keep.new (Keep.refl _ _) hz5
          generalize upd Hz4 z5 (.tup [V.str "set", V.str "great"]) = Hz5 at *
          have hTz5 := kz5 _ _ hTz4 (by simp)
          have hdz5 := kz5 _ _ hdz4 (by simp)
          have htz5 := kz5 _ _ htz4 (by simp)
          have hwz5 := kz5 _ _ hwz4 (by simp)
          repeat walk_at "ns"
          refine ⟨isDk hdz5, ?_⟩
          repeat walk_at "ns"
          refine ⟨_, DGet.k (k := Sum.inl (s' : Int)) hdz5, ?_⟩
          rw [r3 s' (by exact okT.2)]
          repeat walk_at "ns"
          refine ⟨isDk hdz5, ?_⟩
          repeat walk_at "ns"
          refine ⟨_, DGet.k (k := Sum.inl (r : Int)) hdz5, ?_⟩
          rw [r3 r (by exact okT.1)]
          repeat walk_at "ns"
          rw [show ((10 : Int) ^ Int.toNat 8) = 100000000 from by decide]
          repeat walk_at "ns"
          refine ⟨_, _, rfl, DPut.k (k := Sum.inl (r : Int)) hdz5 (Nat.lt_of_le_of_lt (show _ ≤ 10000 by omega) (by decide)), ?_⟩
          have kz := kz4.trans kz5
          exact ⟨_, lm _, _, nxt, _, _, _, _, _, _, _, _, rfl, rfl, tr.turn er hno (by intro z; cases z) hM rfl (fun b o hb hn => by rw [upd_ne (ne_of_none hb ndH)]; exact (kB.trans kz) b o hb hn) (by have := RegD.set (H := Hz5) (d := d) (n := (reg g r + reg g s') % 100000000) (show r < 5 by exact okT.1) tr.gl (show kvs.length ≤ Wn.length by omega) r3; rw [List.length_append]; exact this) (by rw [upd_ne (Ne.symm e1)]; simpa [saysT, says] using htz5) (by rw [upd_ne (Ne.symm e2)]; exact hwz5), by first | exact (hst8.row _ _ _ hRp er hno (by intro z; cases z)).1 | exact (hst8.row _ _ _ hRp er hno (by intro z; cases z)).2 g (by first | rfl | exact decide_eq_true hj)⟩
        | less r s' =>
          obtain ⟨T', U, rfl, hU, hT⟩ := hv
          simp only [thV, rowV] at hT
          repeat walk_at "ns"
          refine rd_gtup (SqT.of hU) rfl ?_
          repeat walk_at "ns"
          refine ⟨small2 (by simp), fun z3 hz3 => ?_⟩
          refine ⟨_, _, rfl, .inr (SqT.of upd_same), by decide +kernel, by decide +kernel, ?_⟩
          have kA : Keep [] Hc (upd H1 z3 (.tup [V.str "pad", V.str "pool"])) := Keep.new k1 hz3
          have kA1 : Keep [] H1 (upd H1 z3 (.tup [V.str "pad", V.str "pool"])) := Keep.new (Keep.refl _ _) hz3
          generalize upd H1 z3 (.tup [V.str "pad", V.str "pool"]) = Ha at *
          have hTa := kA1 _ _ hT (by simp)
          have hwa := kA _ _ tr.hw (by simp)
          have hta := kA _ _ tr.ht (by simp)
          have swa : SqL K Ha wl (Wn.map V.int) := SqL.of hwa
          have er : rowS cs p = some (Th.row (.less r s'), nxt) := by unfold rowS; rw [e]
          have hno : ∀ q n, seenT cs p ≠ some (.over q, n) := fun q n z => by rw [e] at z; cases z
          repeat walk_at "ns"
          rw [List.length_map]
          refine iteD (fun hge => ?_) (fun hlt => ?_)
          · repeat walk_at "ns"
            exact ⟨small2 (by simp), fun pp hp => fin pp Ha _ kA hp (going er hno (by omega))⟩
          have hM : Wn.length < most.toNat := by omega
          have lw := tr.lw
          have ltw := tr.lt
          repeat walk_at "ns"
          refine rd_appendG hwa (by rw [List.length_map]; exact Nat.lt_of_lt_of_le (by omega) (by decide : 100001 ≤ sizeLine)) fun Hb eb => ?_
          rw [show Wn.map V.int ++ [V.int p] = (Wn ++ [p]).map V.int by simp] at eb
          have hwb : Hb wl = some (.lst ((Wn ++ [p]).map V.int)) := by rw [eb]; exact upd_same
          have htb : Hb tl = some (.lst (Tl.map V.int)) := by rw [eb, upd_ne e3]; exact hta
          have hTb : Hb T' = some (.tup (thV (Th.row (.less r s')))) := by rw [eb, upd_ne (ne_of hTa hwa (by intro z; cases z))]; exact hTa
          have kB : Keep [] H Hb := by rw [eb]; exact Keep.put (tr.kp.trans kA) (.inr nw)
          obtain ⟨kvs, r1, r2, r3⟩ := tr.hd
          have hdb : Hb d = some (.dK kvs) := by rw [eb, upd_ne e2]; exact kA _ _ r1 (by simp)
          have rgb : RegD Hb d g (Wn ++ [p]).length := ⟨kvs, hdb, by rw [List.length_append]; simp; omega, r3⟩
          have lm : ∀ np, (most.toNat - (Wn ++ [p]).length) * (cs.length + 3) + overRk cs np < (most.toNat - Wn.length) * (cs.length + 3) + overRk cs p := fun np => less p np hM
          clear eb kA kA1 hTa hwa hta swa hz3
          simp only [thV, rowV] at hTb
          repeat walk_at "ns"
          refine ⟨small2 (by simp), fun z4 hz4 => ?_⟩
          refine ⟨_, _, rfl, .inr (SqT.of upd_same), by decide +kernel, by decide +kernel, ?_⟩
          have kz4 : Keep [] Hb (upd Hb z4 (.tup [V.str "go", V.str "nil"])) := Keep.new (Keep.refl _ _) hz4
          generalize upd Hb z4 (.tup [V.str "go", V.str "nil"]) = Hz4 at *
          have hTz4 := kz4 _ _ hTb (by simp)
          have hdz4 := kz4 _ _ hdb (by simp)
          have htz4 := kz4 _ _ htb (by simp)
          have hwz4 := kz4 _ _ hwb (by simp)
          repeat walk_at "ns"
          refine ⟨small2 (by simp), fun z5 hz5 => ?_⟩
          refine ⟨_, _, rfl, .inr (SqT.of upd_same), by decide +kernel, by decide +kernel, ?_⟩
          have kz5 : Keep [] Hz4 (upd Hz4 z5 (.tup [V.str "set", V.str "great"])) := Keep.new (Keep.refl _ _) hz5
          generalize upd Hz4 z5 (.tup [V.str "set", V.str "great"]) = Hz5 at *
          have hTz5 := kz5 _ _ hTz4 (by simp)
          have hdz5 := kz5 _ _ hdz4 (by simp)
          have htz5 := kz5 _ _ htz4 (by simp)
          have hwz5 := kz5 _ _ hwz4 (by simp)
          repeat walk_at "ns"
          refine ⟨isDk hdz5, ?_⟩
          repeat walk_at "ns"
          refine ⟨_, DGet.k (k := Sum.inl (s' : Int)) hdz5, ?_⟩
          rw [r3 s' (by exact okT.2)]
          repeat walk_at "ns"
          refine ⟨isDk hdz5, ?_⟩
          repeat walk_at "ns"
          refine ⟨_, DGet.k (k := Sum.inl (r : Int)) hdz5, ?_⟩
          rw [r3 r (by exact okT.1)]
          repeat walk_at "ns"
          rw [show ((10 : Int) ^ Int.toNat 8) = 100000000 from by decide]
          repeat walk_at "ns"
          refine ⟨_, _, rfl, DPut.k (k := Sum.inl (r : Int)) hdz5 (Nat.lt_of_le_of_lt (show _ ≤ 10000 by omega) (by decide)), ?_⟩
          have kz := kz4.trans kz5
          exact ⟨_, lm _, _, nxt, _, _, _, _, _, _, _, _, rfl, rfl, tr.turn er hno (by intro z; cases z) hM rfl (fun b o hb hn => by rw [upd_ne (ne_of_none hb ndH)]; exact (kB.trans kz) b o hb hn) (by have := RegD.set (H := Hz5) (d := d) (n := (reg g r - reg g s') % 100000000) (show r < 5 by exact okT.1) tr.gl (show kvs.length ≤ Wn.length by omega) r3; rw [List.length_append]; exact this) (by rw [upd_ne (Ne.symm e1)]; simpa [saysT, says] using htz5) (by rw [upd_ne (Ne.symm e2)]; exact hwz5), by first | exact (hst8.row _ _ _ hRp er hno (by intro z; cases z)).1 | exact (hst8.row _ _ _ hRp er hno (by intro z; cases z)).2 g (by first | rfl | exact decide_eq_true hj)⟩

/-! ### typed cells: units one behind another -/
inductive Un where
  | cell (c : Int) | jump (b q l : Int) | long (c q : Int) | great (r : Int) | pool (ns : List Int)
def unSize : Un → Nat
  | .cell _ => 1
  | .jump _ _ _ => 1
  | .long _ _ => 2
  | .great _ => 2
  | .pool ns => 3 + 2 * ns.length
def UnOk (many : Nat) : Un → Prop
  | .cell c => c = 0 ∨ (1000 ≤ c ∧ c < 1500) ∨ (∃ r s : Int, 0 ≤ r ∧ r < 5 ∧ 0 ≤ s ∧ s < 5 ∧ (c = 2000 + 10 * r + s ∨ c = 3000 + 10 * r + s)) ∨ (4000 ≤ c ∧ c < 4005)
  | .jump b q _ => 0 ≤ q ∧ q < many ∧ (b = 6500 ∨ ∃ r : Int, 0 ≤ r ∧ r < 5 ∧ b = 8100 + 200 * r)
  | .long c q => 0 ≤ q ∧ q < many ∧ (c = 7000 ∨ (9000 ≤ c ∧ c < 9005))
  | .great r => 0 ≤ r ∧ r < 5
  | .pool ns => 1 ≤ ns.length ∧ ns.length ≤ 3 ∧ ∀ n ∈ ns, 100 ≤ n ∧ n ≤ 99999999
def plc (us : List Un) (i : Nat) : Nat := ((us.take i).map unSize).sum
theorem plc_zero (us : List Un) : plc us 0 = 0 := rfl
theorem plc_succ {us : List Un} {i : Nat} {u : Un} (h : us[i]? = some u) : plc us (i + 1) = plc us i + unSize u := by
  unfold plc
  rw [List.take_succ, h]
  simp
theorem unSize_small {many : Nat} {u : Un} (h : UnOk many u) : 1 ≤ unSize u ∧ unSize u ≤ 9 := by
  cases u <;> simp only [unSize] <;> try omega
  simp only [UnOk] at h
  omega
theorem plc_small {many : Nat} {us : List Un} (h : ∀ u ∈ us, UnOk many u) : ∀ i, plc us i ≤ 9 * i ∧ plc us i ≤ 9 * us.length := by
  have a : ∀ i, i ≤ us.length → plc us i ≤ 9 * i := by
    intro i
    induction i with
    | zero => intro _; simp [plc_zero]
    | succ i ih =>
      intro hi
      have e : us[i]? = some us[i] := List.getElem?_eq_getElem (by omega)
      have := unSize_small (h _ (List.mem_of_getElem? e))
      have := ih (by omega)
      rw [plc_succ e]; omega
  intro i
  by_cases hi : i ≤ us.length
  · have := a i hi; omega
  · have e : plc us i = plc us us.length := by
      unfold plc
      rw [List.take_of_length_le (by omega), List.take_of_length_le (by omega)]
    have := a us.length (by omega)
    omega
def halves (ns : List Int) : List Int := ns.flatMap fun n => [n / 10000, n % 10000]
theorem halves_len (ns : List Int) : (halves ns).length = 2 * ns.length := by
  induction ns with
  | nil => rfl
  | cons n ns ih => simp only [halves, List.flatMap_cons, List.length_append] at ih ⊢; rw [ih]; simp; omega
theorem halves_mem {ns : List Int} (h : ∀ n ∈ ns, 100 ≤ n ∧ n ≤ 99999999) : ∀ c ∈ halves ns, 0 ≤ c ∧ c < 10000 := by
  intro c hc
  simp only [halves, List.mem_flatMap, List.mem_cons, List.not_mem_nil, or_false] at hc
  obtain ⟨n, hn, rfl | rfl⟩ := hc
  · have := h n hn; omega
  · have := h n hn; omega
def UnCells (us : List Un) (i : Nat) : Un → List Int → Prop
  | .cell c, cs => cs = [c]
  | .jump b q _, cs => ∃ d : Int, cs = [b + d] ∧ (d = 1 ∨ (d = (plc us q.toNat : Int) - plc us i ∧ -100 < d ∧ d < 100))
  | .long c q, cs => cs = [c, (plc us q.toNat : Int)]
  | .great r, cs => cs = [1000, 4000] ∨ ∃ k b : Int, 0 ≤ k ∧ k < 3 ∧ 0 ≤ b ∧ b < 1000 ∧ cs = [5000 + 100 * r + k, 5000 + b - plc us i]
  | .pool ns, cs => cs = [7001, (plc us (i + 1) : Int), 7100 + ns.length] ++ halves ns
theorem UnCells.len {us : List Un} {i : Nat} {u : Un} {cs : List Int} (h : UnCells us i u cs) : cs.length = unSize u := by
  cases u with
  | cell c => simp only [UnCells] at h; rw [h]; rfl
  | jump b q l => obtain ⟨d, rfl, _⟩ := h; rfl
  | long c q => simp only [UnCells] at h; rw [h]; rfl
  | great r =>
    rcases h with rfl | ⟨k, b, _, _, _, _, rfl⟩ <;> rfl
  | pool ns => simp only [UnCells] at h; rw [h, List.length_append, halves_len]; simp [unSize]
theorem UnCells.mem {many : Nat} {us : List Un} {i : Nat} {u : Un} {cs : List Int} (h : UnCells us i u cs) (ok : UnOk many u) (hs : ∀ j, plc us j ≤ 900) : ∀ c ∈ cs, 0 ≤ c ∧ c < 10000 := by
  intro x hx
  cases u with
  | cell c =>
    simp only [UnCells] at h
    subst h
    simp only [List.mem_singleton] at hx
    subst hx
    simp only [UnOk] at ok
    rcases ok with h | h | ⟨r, s, h⟩ | h <;> omega
  | jump b q l =>
    obtain ⟨d, rfl, hd⟩ := h
    simp only [List.mem_singleton] at hx
    subst hx
    obtain ⟨_, _, h | ⟨r, h⟩⟩ := ok <;> omega
  | long c q =>
    simp only [UnCells] at h
    subst h
    have := hs q.toNat
    obtain ⟨_, _, ok⟩ := ok
    simp only [List.mem_cons, List.not_mem_nil, or_false] at hx
    rcases hx with rfl | rfl <;> omega
  | great r =>
    obtain ⟨o1, o2⟩ := ok
    have := hs i
    rcases h with rfl | ⟨k, b, _, _, _, _, rfl⟩ <;> simp only [List.mem_cons, List.not_mem_nil, or_false] at hx <;> rcases hx with rfl | rfl <;> omega
  | pool ns =>
    obtain ⟨o1, o2, o3⟩ := ok
    simp only [UnCells] at h
    subst h
    have := hs (i + 1)
    rcases List.mem_append.mp hx with hx | hx
    · simp only [List.mem_cons, List.not_mem_nil, or_false] at hx
      rcases hx with rfl | rfl | rfl <;> omega
    · exact halves_mem o3 x hx
inductive Laid (us : List Un) : Nat → List Int → Prop
  | nil : Laid us 0 []
  | step {i : Nat} {cs bs : List Int} {u : Un} : Laid us i cs → us[i]? = some u → UnCells us i u bs → Laid us (i + 1) (cs ++ bs)
theorem Laid.len {us : List Un} {n : Nat} {cs : List Int} (h : Laid us n cs) : cs.length = plc us n := by
  induction h with
  | nil => rfl
  | step h e b ih => rw [List.length_append, ih, plc_succ e, b.len]
theorem Laid.mem {many : Nat} {us : List Un} {n : Nat} {cs : List Int} (h : Laid us n cs) (ok : ∀ u ∈ us, UnOk many u) (hs : ∀ j, plc us j ≤ 900) : ∀ c ∈ cs, 0 ≤ c ∧ c < 10000 := by
  induction h with
  | nil => intro c hc; cases hc
  | step h e b ih =>
    intro c hc
    rcases List.mem_append.mp hc with hc | hc
    · exact ih c hc
    · exact b.mem (ok _ (List.mem_of_getElem? e)) hs c hc
theorem Laid.at {us : List Un} {n : Nat} {cs : List Int} (h : Laid us n cs) {i : Nat} (hi : i < n) : ∃ u bs, us[i]? = some u ∧ UnCells us i u bs ∧ (∀ (k : Nat) (x : Int), bs[k]? = some x → cs[plc us i + k]? = some x) ∧ plc us i + bs.length ≤ cs.length := by
  induction h with
  | nil => omega
  | @step j cs bs u h e b ih =>
    have hl := h.len
    by_cases hj : i < j
    · obtain ⟨u', bs', e', b', g, l⟩ := ih hj
      refine ⟨u', bs', e', b', fun k x hk => ?_, by rw [List.length_append]; omega⟩
      have : k < bs'.length := (List.getElem?_eq_some_iff.mp hk).1
      rw [List.getElem?_append_left (by omega)]
      exact g k x hk
    · have : i = j := by omega
      subst this
      refine ⟨u, bs, e, b, fun k x hk => ?_, by rw [List.length_append]; omega⟩
      rw [List.getElem?_append_right (by omega), show plc us i + k - cs.length = k by omega]
      exact hk
theorem ci_get {cs : List Int} {k : Nat} {x : Int} (h : cs[k]? = some x) : ci cs k = x := by
  unfold ci
  rw [List.getD_eq_getElem?_getD, h]; rfl
theorem seenT_one {cs : List Int} {s : Nat} {c : Int} {th : Th} (hs : s < cs.length) (hc : ci cs s = c) (h7 : ¬ (7100 < c ∧ c ≤ 7200)) (hl : loneT c s = some th) : seenT cs s = some (th, (s : Int) + 1) := by
  unfold seenT
  rw [if_pos (by omega)]
  simp only [Int.toNat_natCast]
  rw [hc, if_neg h7, hl]
theorem seenT_two {cs : List Int} {s : Nat} {c d : Int} {th : Th} (hs : s + 1 < cs.length) (hc : ci cs s = c) (hd : ci cs (s + 1) = d) (h7 : ¬ (7100 < c ∧ c ≤ 7200)) (hl : loneT c s = none) (ht : twoT c d s = some th) : seenT cs s = some (th, (s : Int) + 2) := by
  unfold seenT
  rw [if_pos (by omega)]
  simp only [Int.toNat_natCast]
  rw [hc, hd, if_neg h7, hl]
  simp only
  rw [if_neg (by omega), ht]
theorem seenT_off {cs : List Int} {s : Int} (h : s < 0 ∨ (cs.length : Int) ≤ s) : seenT cs s = none := by
  unfold seenT
  rw [if_neg (by omega)]
theorem seenT_over {cs : List Int} {p q n : Int} (h : seenT cs p = some (.over q, n)) : ∃ k : Nat, p = k ∧ cs[k]? = some 7001 ∧ k + 1 < cs.length ∧ ci cs (k + 1) = q := by
  have hin := seenT_in h
  obtain ⟨k, rfl⟩ := Int.eq_ofNat_of_zero_le hin.1
  have hk : k < cs.length := by omega
  have hg : cs[k]? = some (ci cs k) := by rw [List.getElem?_eq_getElem hk]; simp [ci, hk]
  unfold seenT at h
  rw [if_pos hin] at h
  simp only [Int.toNat_natCast] at h
  split at h
  · split at h
    · cases h
    · cases h
  · cases h1 : loneT (ci cs k) k with
    | some th =>
      rw [h1] at h
      cases h
      unfold loneT at h1
      repeat' split at h1
      all_goals cases h1
    | none =>
      rw [h1] at h
      simp only at h
      split at h
      · cases h
      · rename_i hne
        cases h2 : twoT (ci cs k) (ci cs (k + 1)) k with
        | none => rw [h2] at h; cases h
        | some th =>
          rw [h2] at h
          cases h
          unfold twoT at h2
          repeat' split at h2
          all_goals first | (cases h2; done) | skip
          all_goals first | cases h2 | skip
          exact ⟨k, rfl, by rw [hg]; congr 1, by omega, rfl⟩
/-- the places that are come to -/
def Come (us : List Un) (cs : List Int) (n : Nat) (p : Int) : Prop := (∃ i : Nat, i ≤ n ∧ p = plc us i) ∨ ∃ i : Nat, i < n ∧ p = (plc us i : Int) + 1 ∧ plc us (i + 1) = plc us i + 2 ∧ cs[plc us i + 1]? = some 4000
theorem lone_cell {many : Nat} {c : Int} (p : Int) (h : UnOk many (.cell c)) : ∃ r, loneT c p = some (.row r) ∧ ¬ (7100 < c ∧ c ≤ 7200) := by
  simp only [UnOk] at h
  rcases h with rfl | h | ⟨r, s, h1, h2, h3, h4, rfl | rfl⟩ | h
  · exact ⟨_, rfl, by decide⟩
  · refine ⟨.set ((c - 1000) / 100).toNat (c % 100), ?_, by omega⟩
    unfold loneT
    rw [if_neg (by omega), if_pos (by omega)]
  · refine ⟨(.sum ((2000 + 10 * r + s - 2000) / 10).toNat ((2000 + 10 * r + s - 2000) % 10).toNat), ?_, by omega⟩
    unfold loneT
    rw [if_neg (by omega), if_neg (by omega), if_pos (by omega), if_pos (by omega)]
  · refine ⟨(.less ((3000 + 10 * r + s - 3000) / 10).toNat ((3000 + 10 * r + s - 3000) % 10).toNat), ?_, by omega⟩
    unfold loneT
    rw [if_neg (by omega), if_neg (by omega), if_neg (by omega), if_pos (by omega), if_pos (by omega)]
  · refine ⟨(.tell (c - 4000).toNat), ?_, by omega⟩
    unfold loneT
    rw [if_neg (by omega), if_neg (by omega), if_neg (by omega), if_neg (by omega), if_pos (by omega)]
theorem Laid.steps {many : Nat} {us : List Un} {cs : List Int} (h : Laid us us.length cs) (ok : ∀ u ∈ us, UnOk many u) (hm : many ≤ us.length) : Steps cs (Come us cs us.length) := by
  have hl := h.len
  refine ⟨.inl ⟨0, by omega, by simp [plc_zero]⟩, fun p q n hp hs => ?_, fun p th n hp hr hno hst => ?_⟩
  · obtain ⟨k, rfl, h1, h2, h3⟩ := seenT_over hs
    rcases hp with ⟨i, hi, hpi⟩ | ⟨i, hi, hpi, _, hc⟩
    · by_cases e : i = us.length
      · subst e; omega
      · obtain ⟨u, bs, eu, hu, hg, hle⟩ := h.at (i := i) (by omega)
        have oku := ok u (List.mem_of_getElem? eu)
        have ek : k = plc us i := by omega
        subst ek
        cases u with
        | cell c =>
          simp only [UnCells] at hu
          subst hu
          have := hg 0 c rfl
          rw [Nat.add_zero, h1] at this
          cases this
          simp only [UnOk] at oku
          rcases oku with z | z | ⟨r, s, z⟩ | z <;> omega
        | jump b q l =>
          obtain ⟨d, rfl, hd⟩ := hu
          have := hg 0 (b + d) rfl
          rw [Nat.add_zero, h1] at this
          have : 7001 = b + d := Option.some.inj this
          obtain ⟨_, _, z | ⟨r, z⟩⟩ := oku <;> omega
        | long c q =>
          simp only [UnCells] at hu
          subst hu
          have := hg 0 c rfl
          rw [Nat.add_zero, h1] at this
          cases this
          obtain ⟨_, _, z⟩ := oku
          omega
        | great r =>
          obtain ⟨o1, o2⟩ := oku
          rcases hu with rfl | ⟨k, b, _, _, _, _, rfl⟩
          · have := hg 0 1000 rfl
            rw [Nat.add_zero, h1] at this
            cases this
          · have := hg 0 _ rfl
            rw [Nat.add_zero, h1] at this
            have : 7001 = 5000 + 100 * r + k := Option.some.inj this
            omega
        | pool ns =>
          simp only [UnCells] at hu
          subst hu
          have := hg 1 (plc us (i + 1) : Int) rfl
          rw [ci_get this] at h3
          subst h3
          have e2 := plc_succ eu
          simp only [unSize] at e2
          exact ⟨.inl (by omega), .inl ⟨i + 1, by omega, rfl⟩⟩
    · have ek : k = plc us i + 1 := by omega
      subst ek
      rw [h1] at hc
      cases hc
  · rcases hp with ⟨i, hi, rfl⟩ | ⟨i, hi, rfl, hpi, hc⟩
    · by_cases e : i = us.length
      · subst e
        unfold rowS at hr
        rw [seenT_off (.inr (by omega))] at hr
        cases hr
      · obtain ⟨u, bs, eu, hu, hg, hle⟩ := h.at (i := i) (by omega)
        have oku := ok u (List.mem_of_getElem? eu)
        have e2 := plc_succ eu
        cases u with
        | cell c =>
          simp only [UnCells] at hu
          subst hu
          obtain ⟨r, e3, e4⟩ := lone_cell (p := plc us i) oku
          simp only [List.length_singleton] at hle
          have hs := seenT_one (by omega) (ci_get (hg 0 c rfl)) e4 e3
          unfold rowS at hr
          rw [show plc us i + 0 = plc us i from rfl] at hs
          rw [hs] at hr
          cases hr
          exact ⟨.inl ⟨i + 1, by omega, by rw [e2]; simp [unSize]⟩, fun g hj => by cases hj⟩
        | jump b q l =>
          obtain ⟨d, rfl, hd⟩ := hu
          simp only [List.length_singleton] at hle
          obtain ⟨o1, o2, o3⟩ := oku
          have hR : Come us cs us.length ((plc us i : Int) + d) := by
            rcases hd with rfl | ⟨hd, _, _⟩
            · exact .inl ⟨i + 1, by omega, by rw [e2]; simp [unSize]⟩
            · exact .inl ⟨q.toNat, by omega, by omega⟩
          have hN : Come us cs us.length ((plc us i : Int) + 1) := .inl ⟨i + 1, by omega, by rw [e2]; simp [unSize]⟩
          have hd' : -100 < d ∧ d < 100 := by rcases hd with rfl | ⟨_, a, b⟩ <;> omega
          rcases o3 with rfl | ⟨r, r0, r1, rfl⟩
          · have hs := seenT_one (s := plc us i) (th := .go ((plc us i : Int) + d) false) (by omega) (ci_get (hg 0 _ rfl)) (by omega) (by
              unfold loneT
              rw [if_neg (by omega), if_neg (by omega), if_neg (by omega), if_neg (by omega), if_neg (by omega), if_pos (by omega)]
              congr 2
              omega)
            unfold rowS at hr
            rw [hs] at hr
            cases hr
            exact ⟨hN, fun g _ => hR⟩
          · have hs := seenT_one (s := plc us i) (th := .nil r.toNat ((plc us i : Int) + d) false) (by omega) (ci_get (hg 0 _ rfl)) (by omega) (by
              unfold loneT
              rw [if_neg (by omega), if_neg (by omega), if_neg (by omega), if_neg (by omega), if_neg (by omega), if_neg (by omega), if_neg (by omega), if_pos (by omega), if_pos (by omega)]
              congr 2
              · omega
              · omega)
            unfold rowS at hr
            rw [hs] at hr
            cases hr
            exact ⟨hN, fun g _ => hR⟩
        | long c q =>
          simp only [UnCells] at hu
          subst hu
          simp only [List.length_cons, List.length_nil] at hle
          obtain ⟨o1, o2, o3⟩ := oku
          have hR : Come us cs us.length (plc us q.toNat : Int) := .inl ⟨q.toNat, by omega, rfl⟩
          have hN : Come us cs us.length ((plc us i : Int) + 2) := .inl ⟨i + 1, by omega, by rw [e2]; simp [unSize]⟩
          rcases o3 with rfl | ⟨r0, r1⟩
          · have hs := seenT_two (s := plc us i) (th := .go (plc us q.toNat : Int) true) (by omega) (ci_get (hg 0 _ rfl)) (ci_get (hg 1 _ rfl)) (by omega) rfl rfl
            unfold rowS at hr
            rw [hs] at hr
            cases hr
            exact ⟨hN, fun g _ => hR⟩
          · have hs := seenT_two (s := plc us i) (th := .nil (c - 9000).toNat (plc us q.toNat : Int) true) (by omega) (ci_get (hg 0 _ rfl)) (ci_get (hg 1 _ rfl)) (by omega) (by
              unfold loneT
              rw [if_neg (by omega), if_neg (by omega), if_neg (by omega), if_neg (by omega), if_neg (by omega), if_neg (by omega), if_neg (by omega), if_neg (by omega)]) (by
              unfold twoT
              rw [if_neg (by omega), if_neg (by omega), if_neg (by omega), if_pos (by omega)])
            unfold rowS at hr
            rw [hs] at hr
            cases hr
            exact ⟨hN, fun g _ => hR⟩
        | great r =>
          obtain ⟨o1, o2⟩ := oku
          rcases hu with rfl | ⟨k, b, k0, k1, _, _, rfl⟩
          · simp only [List.length_cons, List.length_nil] at hle
            have hs := seenT_one (s := plc us i) (th := .row (.set 0 0)) (by omega) (ci_get (hg 0 _ rfl)) (by omega) rfl
            unfold rowS at hr
            rw [hs] at hr
            cases hr
            exact ⟨.inr ⟨i, by omega, rfl, by rw [e2]; rfl, hg 1 _ rfl⟩, fun g hj => by cases hj⟩
          · simp only [List.length_cons, List.length_nil] at hle
            have hN : Come us cs us.length ((plc us i : Int) + 2) := .inl ⟨i + 1, by omega, by rw [e2]; simp [unSize]⟩
            have hs := seenT_two (s := plc us i) (th := .great r.toNat (plc us i + (5000 + b - plc us i) - 5000) k) (by omega) (ci_get (hg 0 _ rfl)) (ci_get (hg 1 _ rfl)) (by omega) (by
              unfold loneT
              rw [if_neg (by omega), if_neg (by omega), if_neg (by omega), if_neg (by omega), if_neg (by omega), if_neg (by omega), if_neg (by omega), if_neg (by omega)]) (by
              unfold twoT
              rw [if_pos (by omega), show (5000 + 100 * r + k - 5000) / 100 = r by omega, show (5000 + 100 * r + k) % 100 = k by omega])
            unfold rowS at hr
            rw [hs] at hr
            simp only at hr
            cases hw : wordS cs (plc us i + (5000 + b - plc us i) - 5000) k with
            | none => rw [hw] at hr; cases hr
            | some z =>
              rw [hw] at hr
              cases hr
              exact ⟨hN, fun g hj => by cases hj⟩
        | pool ns =>
          simp only [UnCells] at hu
          subst hu
          rw [List.length_append] at hle
          simp only [List.length_cons, List.length_nil] at hle
          have hs := seenT_two (s := plc us i) (th := .over (plc us (i + 1) : Int)) (by omega) (ci_get (hg 0 _ rfl)) (ci_get (hg 1 _ rfl)) (by omega) rfl rfl
          exact absurd hs (hno _ _)
    · have hlt : plc us i + 1 < cs.length := (List.getElem?_eq_some_iff.mp hc).1
      have hs := seenT_one (s := plc us i + 1) (th := .row (.tell 0)) hlt (ci_get hc) (by omega) rfl
      unfold rowS at hr
      push_cast at hs
      rw [hs] at hr
      cases hr
      exact ⟨.inl ⟨i + 1, by omega, by omega⟩, fun g hj => by cases hj⟩

/-! ### a unit's cells -/
theorem Tape.keep' {H H' : Hp} {p : Addr} {n : Int} (t : Tape H p n) (k : Keep [] H H') : Tape H' p n := by
  obtain ⟨a, b, c, hp, r⟩ := t
  exact ⟨a, b, c, k _ _ hp (by simp), r⟩
def UnIs (S : List Addr) (H : Hp) (v : V) : Un → Prop
  | .cell c => ∃ a, v = .ref a ∧ H a = some (.tup [.str "cell", .int c])
  | .jump b q l => ∃ a, v = .ref a ∧ H a = some (.tup [.str "jump", .int b, .int q, .int l])
  | .long c q => ∃ a, v = .ref a ∧ H a = some (.tup [.str "long", .int c, .int q])
  | .great r => ∃ a, v = .ref a ∧ H a = some (.tup [.str "great", .int r])
  | .pool ns => ∃ a N, v = .ref a ∧ H a = some (.tup [.str "pool", .ref N]) ∧ H N = some (.lst (ns.map V.int)) ∧ N ∉ S
theorem UnIs.keep {S S' : List Addr} {H H' : Hp} {v : V} {u : Un} (h : UnIs S H v u) (k : Keep S' H H') (hS : ∀ b ∈ S', H b = none ∨ ((∃ xs, H b = some (.lst xs)) ∧ b ∈ S)) : UnIs S H' v u := by
  have tup : ∀ {a : Addr} {xs : List V}, H a = some (.tup xs) → H' a = some (.tup xs) := fun {a xs} ha => k _ _ ha fun m => by
    rcases hS _ m with z | ⟨⟨ys, z⟩, _⟩ <;> rw [ha] at z <;> cases z
  cases u with
  | cell c => obtain ⟨a, e, h⟩ := h; exact ⟨a, e, tup h⟩
  | jump b q l => obtain ⟨a, e, h⟩ := h; exact ⟨a, e, tup h⟩
  | long c q => obtain ⟨a, e, h⟩ := h; exact ⟨a, e, tup h⟩
  | great r => obtain ⟨a, e, h⟩ := h; exact ⟨a, e, tup h⟩
  | pool ns =>
    obtain ⟨a, N, e, h, hN, nS⟩ := h
    refine ⟨a, N, e, tup h, k _ _ hN fun m => ?_, nS⟩
    rcases hS _ m with z | ⟨_, z⟩
    · rw [hN] at z; cases z
    · exact nS z
structure Pl where
  b : Int
  ns : List Int
def PlOk (x : Pl) : Prop := 0 ≤ x.b ∧ x.b < 1000 ∧ 1 ≤ x.ns.length ∧ x.ns.length ≤ 3
def PlIs (p : Addr) (H : Hp) (v : V) (x : Pl) : Prop := ∃ a N, v = .ref a ∧ H a = some (.tup [.int x.b, .ref N]) ∧ H N = some (.lst (x.ns.map V.int)) ∧ N ≠ p ∧ PlOk x
def plD (x : Pl) : PyData := .tuple [.int x.b, .list (x.ns.map PyData.int)]
theorem PlIs.keep {p : Addr} {H H' : Hp} {v : V} {x : Pl} (h : PlIs p H v x) (k : Keep [p] H H') (hp : ∃ xs, H p = some (.lst xs)) : PlIs p H' v x := by
  obtain ⟨a, N, e, ha, hN, np, ok⟩ := h
  refine ⟨a, N, e, k _ _ ha fun m => ?_, k _ _ hN (by simp [np]), np, ok⟩
  obtain ⟨xs, hx⟩ := hp
  simp only [List.mem_singleton] at m
  rw [m, hx] at ha; cases ha
theorem PlIs.dt {p : Addr} {H : Hp} : ∀ {vs : List V} {xs : List Pl}, Paired (PlIs p H) vs xs → DtAll K H vs (xs.map plD)
  | _, _, .nil => .nil
  | _, _, .cons ⟨a, N, e, ha, hN, _, _⟩ t => by subst e; exact .cons (.tup (SqT.of ha) (.cons (.int _) (.cons (.lst (SqL.of hN) (DtAll.ints _)) .nil))) (PlIs.dt t)
theorem pls_shaped (xs : List Pl) : SeqAt.shaped (.list (xs.map plD)) = true := by
  have a0 : ∀ ns : List Int, PyData.canLayAll0 (ns.map PyData.int) = true := fun ns => by
    induction ns with
    | nil => rfl
    | cons n ns ih => simp only [List.map_cons, PyData.canLayAll0, PyData.canLay0, Bool.true_and]; exact ih
  have b0 : ∀ ns : List Int, PyData.depthAll (ns.map PyData.int) = 0 := fun ns => by
    induction ns with
    | nil => rfl
    | cons n ns ih => simp only [List.map_cons, PyData.depthAll, PyData.depth]; rw [ih]; rfl
  have a : ∀ xs : List Pl, PyData.canLayAll0 (xs.map plD) = true := fun xs => by
    induction xs with
    | nil => rfl
    | cons n ns ih => simp only [List.map_cons, plD, PyData.canLayAll0, PyData.canLay0, Bool.true_and, Bool.and_true, a0]; exact ih
  have b : ∀ xs : List Pl, PyData.depthAll (xs.map plD) ≤ 5 := fun xs => by
    induction xs with
    | nil => exact Nat.zero_le _
    | cons n ns ih =>
      have e : PyData.depth (plD n) ≤ 2 := by simp only [plD, PyData.depth, PyData.depthAll, b0]; decide
      rw [List.map_cons]
      show max (PyData.depth (plD n)) (PyData.depthAll (ns.map plD)) ≤ 5
      omega
  unfold SeqAt.shaped
  rw [Bool.and_eq_true]
  exact ⟨by simp only [PyData.canLay0]; exact a xs, decide_eq_true (by have := b xs; simp only [PyData.depth]; omega)⟩
def plcV (us : List Un) : List V := (List.range (us.length + 1)).map fun j => V.int (plc us j)
theorem plc_at {us : List Un} {j : Nat} (h : j ≤ us.length) : atI (plcV us) (j : Int) = some (.int (plc us j)) := by
  refine atI_nat ?_
  simp only [plcV]
  rw [List.getElem?_map, List.getElem?_range (by omega)]
  rfl
theorem Paired.getL {α β : Type} {F : α → β → Prop} : ∀ {l₁ : List α} {l₂ : List β}, Paired F l₁ l₂ → ∀ {j : Nat}, j < l₁.length → ∃ a b, l₁[j]? = some a ∧ l₂[j]? = some b ∧ F a b
  | _, _, .cons (a := x) (b := y) h _, 0, _ => ⟨x, y, rfl, rfl, h⟩
  | _, _, .cons _ t, j + 1, hj => by
    obtain ⟨a, b, e1, e2, h⟩ := Paired.getL t (j := j) (by simpa using hj)
    exact ⟨a, b, by simpa using e1, by simpa using e2, h⟩
def spUnit : Sp := fun vs H Q _ => ∃ (p pl po : Addr) (n : Int) (v : V) (us : List Un) (u : Un) (i : Nat) (pvs : List V) (pps : List Pl), vs = [.ref p, v, .ref pl, .int (i : Int), .ref po] ∧ Tape H p n ∧ n ≤ 1000000 ∧ us[i]? = some u ∧ UnIs [p] H v u ∧ UnOk us.length u ∧ us.length ≤ 100 ∧
  H pl = some (.lst (plcV us)) ∧ pl ≠ p ∧ H po = some (.lst pvs) ∧ po ≠ p ∧ Paired (PlIs p H) pvs pps ∧ pps.length ≤ 100 ∧
  ∀ (cl : Addr) (bs : List Int) (H' : Hp), Keep [p] H H' → Tape H' p (n + 2) → H' cl = some (.lst (bs.map V.int)) → cl ≠ p → UnCells us i u bs → Q (.ref cl) H'
theorem ok_unit (T : Txt K mg t) : FnOk P w K mg base CX0 2 t.f_unit t.d_unit ["_law_tape_here", "_law_unit_here", "_law_places", "_law_at", "_law_pools"] spUnit := by
  have G_take := ok_take (P := P) (w := w) (base := base) T
  refine T.F_unit.ok sc_unit (fun vs H Q E h => ?_) (fun cdv A outer s H vs Q E hr h => ?_)
  · obtain ⟨p, pl, po, n, v, us, u, i, pvs, pps, rfl, _⟩ := h
    rfl
  · obtain ⟨p, pl, po, n0, v, us, u, i, pvs, pps, rfl, T0, hn, eu, hun, uok, hus, hpl, npl, hpo, npo, hpp, hpl2, q⟩ := h
    have hu := hr.units
    have hi : i < us.length := (List.getElem?_eq_some_iff.mp eu).1
    refine ⟨_, (@pss_cons _ _ _ _ _ (@ps_set _ _ 5 _ _ _ _ sc_unit.nd rfl (Or.inl rfl) (@pe_ix _ _ _ _ _ _ _ ix_list (pv 2) (pv 3) (fun _ _ => rfl)) (by rfl) (by first | exact Or.inl rfl | exact Or.inr rfl | assumption))
      (@pss_cons _ _ _ _ _ (@ps_if _ _ _ _ _ _ _ _ (@pt_cmpR _ _ _ _ _ _ _ _ op_eq (@pe_ix _ _ _ _ _ _ _ ix_tup (pv 1) pe_int (fun _ _ => rfl)) pe_str (nomark _))
        (@pss_one _ _ _ (ps_ret (@pe_lst _ _ _ _ (@pa_cons _ _ _ _ _ (@pe_ix _ _ _ _ _ _ _ ix_tup (pv 1) pe_int (fun _ _ => rfl)) pa_nil (by rfl)))))
        pss_nil)
      (@pss_cons _ _ _ _ _ (@ps_if _ _ _ _ _ _ _ _ (@pt_cmpR _ _ _ _ _ _ _ _ op_eq (@pe_ix _ _ _ _ _ _ _ ix_tup (pv 1) pe_int (fun _ _ => rfl)) pe_str (nomark _))
        (@pss_cons _ _ _ _ _ (@ps_set _ _ 6 _ _ _ _ sc_unit.nd rfl (Or.inl rfl) (@pe_op _ _ _ _ _ _ _ _ op_sub (@pe_ix _ _ _ _ _ _ _ ix_list (pv 2) (@pe_ix _ _ _ _ _ _ _ ix_tup (pv 1) pe_int (fun _ _ => rfl)) (fun _ _ => rfl)) (pv 5)) (by rfl) (by first | exact Or.inl rfl | exact Or.inr rfl | assumption))
      (@pss_one _ _ _ (ps_ret (@pe_lst _ _ _ _ (@pa_cons _ _ _ _ _ (@pe_op _ _ _ _ _ _ _ _ op_add (@pe_ix _ _ _ _ _ _ _ ix_tup (pv 1) pe_int (fun _ _ => rfl)) (pe_ifExp (@pt_cmpR _ _ _ _ _ _ _ _ op_lt (@pe_callB _ _ _ _ _ _ _ _ _ call_abs rfl T.m_abs bt_abs (@pa_cons _ _ _ _ _ (pv 6) pa_nil (by rfl)) (by decide) (by first | rfl | decide) (by rfl) (by rfl)) pe_int (nomark _)) (pv 6) pe_int)) pa_nil (by rfl))))))
        pss_nil)
      (@pss_cons _ _ _ _ _ (@ps_if _ _ _ _ _ _ _ _ (@pt_cmpR _ _ _ _ _ _ _ _ op_eq (@pe_ix _ _ _ _ _ _ _ ix_tup (pv 1) pe_int (fun _ _ => rfl)) pe_str (nomark _))
        (@pss_one _ _ _ (ps_ret (@pe_lst _ _ _ _ (@pa_cons _ _ _ _ _ (@pe_ix _ _ _ _ _ _ _ ix_tup (pv 1) pe_int (fun _ _ => rfl)) (@pa_cons _ _ _ _ _ (@pe_ix _ _ _ _ _ _ _ ix_list (pv 2) (@pe_ix _ _ _ _ _ _ _ ix_tup (pv 1) pe_int (fun _ _ => rfl)) (fun _ _ => rfl)) pa_nil (by rfl)) (by rfl)))))
        pss_nil)
      (@pss_cons _ _ _ _ _ (@ps_if _ _ _ _ _ _ _ _ (@pt_cmpR _ _ _ _ _ _ _ _ op_eq (@pe_ix _ _ _ _ _ _ _ ix_tup (pv 1) pe_int (fun _ _ => rfl)) pe_str (nomark _))
        (@pss_cons _ _ _ _ _ (@ps_if _ _ _ _ _ _ _ _ (@pt_cmpR _ _ _ _ _ _ _ _ (op_eqD hu) (pv 4) (@pe_lst _ _ _ _ pa_nil) (nomark _))
        (@pss_one _ _ _ (ps_ret (@pe_lst _ _ _ _ (@pa_cons _ _ _ _ _ pe_int (@pa_cons _ _ _ _ _ pe_int pa_nil (by rfl)) (by rfl)))))
        pss_nil)
      (@pss_cons _ _ _ _ _ (ps_asg (@pe_ix _ _ _ _ _ _ _ ix_list (pv 4) (@pe_call _ _ _ _ _ _ _ _ _ _ _ _ _ _ _ _ G_take (hr.mono (by first | decide | omega)) rfl T.m_take T.F_take.kp T.b_take .nil pass0 (@pa_cons _ _ _ _ _ (pv 0) (@pa_cons _ _ _ _ _ (@pe_callB _ _ _ _ _ _ _ _ _ call_len_seq rfl T.m_len bt_len (@pa_cons _ _ _ _ _ (pv 4) pa_nil (by rfl)) (by decide) (by first | rfl | decide) (by rfl) (by rfl)) pa_nil (by rfl)) (by rfl)) (by first | rfl | decide) (by rfl) (by rfl)) (fun _ _ => rfl)) (pg_tup rfl (pgs_cons (pg_name (i := 7) sc_unit.nd rfl (Or.inl rfl)) (pgs_cons (pg_name (i := 8) sc_unit.nd rfl (Or.inl rfl)) pgs_nil))))
      (@pss_one _ _ _ (ps_ret (@pe_lst _ _ _ _ (@pa_cons _ _ _ _ _ (@pe_op _ _ _ _ _ _ _ _ op_add (@pe_op _ _ _ _ _ _ _ _ op_add pe_int (@pe_op _ _ _ _ _ _ _ _ op_mul pe_int (@pe_ix _ _ _ _ _ _ _ ix_tup (pv 1) pe_int (fun _ _ => rfl)))) (@pe_call _ _ _ _ _ _ _ _ _ _ _ _ _ _ _ _ G_take (hr.mono (by first | decide | omega)) rfl T.m_take T.F_take.kp T.b_take .nil pass0 (@pa_cons _ _ _ _ _ (pv 0) (@pa_cons _ _ _ _ _ (@pe_callB _ _ _ _ _ _ _ _ _ call_len_seq rfl T.m_len bt_len (@pa_cons _ _ _ _ _ (pv 8) pa_nil (by rfl)) (by decide) (by first | rfl | decide) (by rfl) (by rfl)) pa_nil (by rfl)) (by rfl)) (by first | rfl | decide) (by rfl) (by rfl))) (@pa_cons _ _ _ _ _ (@pe_op _ _ _ _ _ _ _ _ op_sub (@pe_op _ _ _ _ _ _ _ _ op_add pe_int (pv 7)) (pv 5)) pa_nil (by rfl)) (by rfl)))))))
        pss_nil)
      (@pss_cons _ _ _ _ _ (@ps_set _ _ 9 _ _ _ _ sc_unit.nd rfl (Or.inl rfl) (@pe_lst _ _ _ _ (@pa_cons _ _ _ _ _ pe_int (@pa_cons _ _ _ _ _ (@pe_ix _ _ _ _ _ _ _ ix_list (pv 2) (@pe_op _ _ _ _ _ _ _ _ op_add (pv 3) pe_int) (fun _ _ => rfl)) (@pa_cons _ _ _ _ _ (@pe_op _ _ _ _ _ _ _ _ op_add pe_int (@pe_callB _ _ _ _ _ _ _ _ _ call_len_seq rfl T.m_len bt_len (@pa_cons _ _ _ _ _ (@pe_ix _ _ _ _ _ _ _ ix_tup (pv 1) pe_int (fun _ _ => rfl)) pa_nil (by rfl)) (by decide) (by first | rfl | decide) (by rfl) (by rfl))) pa_nil (by rfl)) (by rfl)) (by rfl))) (by rfl) (by first | exact Or.inl rfl | exact Or.inr rfl | assumption))
      (@pss_cons _ _ _ _ _ (ps_for PassesOwn.never rfl (pi_list (@pe_ix _ _ _ _ _ _ _ ix_tup (pv 1) pe_int (fun _ _ => rfl))) (pg_name (i := 10) sc_unit.nd rfl (Or.inl rfl))
        (@pss_one _ _ _ (@ps_set _ _ 9 _ _ _ _ sc_unit.nd rfl (Or.inl rfl) (@pe_op _ _ _ _ _ _ _ _ op_cat (pv 9) (@pe_lst _ _ _ _ (@pa_cons _ _ _ _ _ (@pe_op _ _ _ _ _ _ _ _ op_fdiv (pv 10) pe_int) (@pa_cons _ _ _ _ _ (@pe_op _ _ _ _ _ _ _ _ op_mod (pv 10) pe_int) pa_nil (by rfl)) (by rfl)))) (by rfl) (by first | exact Or.inl rfl | exact Or.inr rfl | assumption))))
      (@pss_one _ _ _ (ps_ret (pv 9)))))))))), ?_⟩
    repeat walk_at "ns"
    refine rd_ixL (SqL.of hpl) (plc_at (by omega)) ?_
    cases u with
    | cell c =>
      obtain ⟨a, rfl, ha⟩ := hun
      repeat walk_at "ns"
      refine ⟨small2 (by simp), fun cl hcl => ?_⟩
      refine q cl [c] _ (Keep.new (Keep.refl _ _) hcl) ((T0.new hcl).le (by omega)) upd_same (T0.ne hcl) rfl
    | jump b q' l =>
      obtain ⟨a, rfl, ha⟩ := hun
      obtain ⟨o1, o2, o3⟩ := uok
      repeat walk_at "ns"
      obtain ⟨j, rfl⟩ := Int.eq_ofNat_of_zero_le o1
      refine rd_ixL (SqL.of hpl) (plc_at (by omega)) ?_
      repeat walk_at "ns"
      refine iteD (fun h1 => ?_) (fun h1 => ?_)
      · repeat walk_at "ns"
        refine ⟨small2 (by simp), fun cl hcl => ?_⟩
        refine q cl [b + ((plc us j : Int) - plc us i)] _ (Keep.new (Keep.refl _ _) hcl) ((T0.new hcl).le (by omega)) upd_same (T0.ne hcl) ⟨_, rfl, .inr ⟨by simp, by omega, by omega⟩⟩
      · repeat walk_at "ns"
        refine ⟨small2 (by simp), fun cl hcl => ?_⟩
        refine q cl [b + 1] _ (Keep.new (Keep.refl _ _) hcl) ((T0.new hcl).le (by omega)) upd_same (T0.ne hcl) ⟨_, rfl, .inl rfl⟩
    | long c q' =>
      obtain ⟨a, rfl, ha⟩ := hun
      obtain ⟨o1, o2, o3⟩ := uok
      repeat walk_at "ns"
      obtain ⟨j, rfl⟩ := Int.eq_ofNat_of_zero_le o1
      refine rd_ixL (SqL.of hpl) (plc_at (by omega)) ?_
      repeat walk_at "ns"
      refine ⟨small2 (by simp), fun cl hcl => ?_⟩
      refine q cl [c, (plc us j : Int)] _ (Keep.new (Keep.refl _ _) hcl) ((T0.new hcl).le (by omega)) upd_same (T0.ne hcl) rfl
    | great r =>
      obtain ⟨a, rfl, ha⟩ := hun
      repeat walk_at "ns"
      refine ⟨small2 (by simp), fun e0 he0 => ?_⟩
      have k1 : Keep [] H (upd H e0 (.lst [])) := Keep.new (Keep.refl _ _) he0
      have g1 : (upd H e0 (.lst [])) e0 = some (.lst []) := upd_same
      generalize upd H e0 (.lst []) = H1 at *
      have T1 := T0.keep' k1
      have hpp1 : Paired (PlIs p H1) pvs pps := Paired.mapP hpp fun _ _ z => z.keep (fun b o hb _ => k1 b o hb (by simp)) T0.lst
      have hpo1 := k1 _ _ hpo (by simp)
      refine ⟨_, _, .lst (SqL.of hpo1) (PlIs.dt hpp1), .lst (SqL.of g1) .nil, pls_shaped pps, rfl, ?_⟩
      cases pps with
      | nil =>
        rw [show PyData.eqv (.list (([] : List Pl).map plD)) (.list []) = true from rfl]
        repeat walk_at "ns"
        refine ⟨small2 (by simp), fun cl hcl => ?_⟩
        exact q cl [1000, 4000] _ (Keep.new (fun b o hb _ => k1 b o hb (by simp)) hcl) ((T1.new hcl).le (by omega)) upd_same (T1.ne hcl) (.inl rfl)
      | cons pp pps =>
        rw [show PyData.eqv (.list ((pp :: pps).map plD)) (.list []) = false from rfl]
        have hlen := Paired.length hpp1
        repeat walk_at "ns"
        refine ⟨p, _, _, rfl, T1, by omega, by rw [hlen]; simp; omega, by rw [hlen]; simp at hpl2 ⊢; omega, fun k H2 k0 k2 T2 K2 _ => ?_⟩
        obtain ⟨j, rfl⟩ := Int.eq_ofNat_of_zero_le k0
        have hpo2 := K2 _ _ hpo1 (by simp [npo])
        have hpp2 : Paired (PlIs p H2) pvs (pp :: pps) := Paired.mapP hpp1 fun _ _ z => z.keep K2 T1.lst
        obtain ⟨v, x, ev, _, hx⟩ := Paired.getL hpp2 (j := j) (by omega)
        obtain ⟨a2, N2, rfl, ha2, hN2, nN2, b0, b1, n1, n2⟩ := hx
        refine rd_ixL (SqL.of hpo2) (atI_nat ev) ?_
        refine rd_gtup (SqT.of ha2) rfl ?_
        have ha3 := K2 _ _ (k1 _ _ ha (by simp)) (fun m => by
          simp only [List.mem_singleton] at m
          obtain ⟨xs, hxs⟩ := T0.lst
          rw [m, hxs] at ha; cases ha)
        obtain ⟨r0, r1⟩ := uok
        repeat walk_at "ns"
        refine ⟨p, _, _, rfl, T2, by omega, by simp; omega, by simp; omega, fun k H3 k30 k31 T3 K3 _ => ?_⟩
        rw [List.length_map] at k31
        repeat walk_at "ns"
        refine ⟨small2 (by simp), fun cl hcl => ?_⟩
        have kk : Keep [p] H H3 := Keep.trans (Keep.trans (fun b o hb _ => k1 b o hb (by simp)) K2) K3
        exact q cl [5000 + 100 * r + k, 5000 + x.b - plc us i] _ (Keep.new kk hcl) ((T3.new hcl).le (by omega)) upd_same (T3.ne hcl) (.inr ⟨k, x.b, k30, by omega, b0, b1, rfl⟩)
    | pool ns =>
      obtain ⟨a, N, rfl, ha, hN, nN⟩ := hun
      obtain ⟨o1, o2, o3⟩ := uok
      repeat walk_at "ns"
      refine rd_ixL (i := ((i + 1 : Nat) : Int)) (SqL.of hpl) (plc_at (us := us) (j := i + 1) (by omega)) ?_
      repeat walk_at "ns"
      rw [List.length_map]
      refine ⟨small2 (by simp), fun c0 hc0 => ?_⟩
      have k1 : Keep [] H (upd H c0 (.lst [V.int 7001, V.int (plc us (i + 1) : Nat), V.int (7100 + (ns.length : Int))])) := Keep.new (Keep.refl _ _) hc0
      have g1 : (upd H c0 (.lst [V.int 7001, V.int (plc us (i + 1) : Nat), V.int (7100 + (ns.length : Int))])) c0 = some (.lst (([7001, ((plc us (i + 1) : Nat) : Int), 7100 + (ns.length : Int)] ++ halves (ns.take 0)).map V.int)) := upd_same
      generalize upd H c0 _ = H1 at *
      have nc0 : c0 ≠ p := T0.ne hc0
      have hN1 := k1 _ _ hN (by simp)
      have ha1 := k1 _ _ ha (by simp)
      repeat walk_at "ns"
      refine ⟨⟨_, SqL.of hN1⟩, for_list (xs := ns.map V.int) (fun j σ Hc => ∃ cl v10, σ = [some (.ref p), some (.ref a), some (.ref pl), some (.int i), some (.ref po), some (.int (plc us i)), none, none, none, some (.ref cl), v10] ∧ Keep [] H Hc ∧ Hc cl = some (.lst (([7001, ((plc us (i + 1) : Nat) : Int), 7100 + (ns.length : Int)] ++ halves (ns.take j)).map V.int)) ∧ cl ≠ p) ⟨c0, none, rfl, k1, g1, nc0⟩ ?_ ?_ ?_⟩
      · rintro j σ Hc _ ⟨cl, v10, rfl, kc, _⟩
        exact SqL.of (kc _ _ hN (by simp))
      · rintro j x σ Hc hx ⟨cl, v10, rfl, kc, hcl, ncl⟩
        rw [List.getElem?_map] at hx
        obtain ⟨nn, hnn, rfl⟩ := Option.map_eq_some_iff.mp hx
        have hj : j < ns.length := (List.getElem?_eq_some_iff.mp hnn).1
        repeat walk_at "ns"
        refine ⟨small2 (by simp), fun l1 hl1 => ?_⟩
        have k2 : Keep [] Hc (upd Hc l1 (.lst [V.int (nn / 10000), V.int (nn % 10000)])) := Keep.new (Keep.refl _ _) hl1
        have g2 : (upd Hc l1 (.lst [V.int (nn / 10000), V.int (nn % 10000)])) l1 = some (.lst [V.int (nn / 10000), V.int (nn % 10000)]) := upd_same
        generalize upd Hc l1 _ = H2 at *
        repeat walk_at "ns"
        have el : ([7001, ((plc us (i + 1) : Nat) : Int), 7100 + (ns.length : Int)] ++ halves (ns.take j)).length ≤ 20 := by rw [List.length_append, halves_len, List.length_take]; simp; omega
        refine rd_cat (k2 _ _ hcl (by simp)) g2 (Nat.le_trans (show _ ≤ 30 by rw [List.length_map]; simp only [List.length_cons, List.length_nil]; omega) (by decide)) fun l2 hl2 => ?_
        have eh : ([7001, ((plc us (i + 1) : Nat) : Int), 7100 + (ns.length : Int)] ++ halves (ns.take j)).map V.int ++ [V.int (nn / 10000), V.int (nn % 10000)] = ([7001, ((plc us (i + 1) : Nat) : Int), 7100 + (ns.length : Int)] ++ halves (ns.take (j + 1))).map V.int := by
          rw [List.take_succ, hnn]
          simp [halves]
        rw [eh]
        repeat walk_at "ns"
        exact ⟨Keep.new (kc.trans k2) hl2, upd_same, (T0.keep' (kc.trans k2)).ne hl2⟩
      · rintro σ Hc ⟨cl, v10, rfl, kc, hcl, ncl⟩
        repeat walk_at "ns"
        rw [List.length_map, List.take_of_length_le (Nat.le_refl _)] at hcl
        exact q cl _ Hc (fun b o hb _ => kc b o hb (by simp)) ((T0.keep' kc).le (by omega)) hcl ncl rfl

/-! ### typed cells -/
theorem Paired.app {α β : Type} {F : α → β → Prop} : ∀ {xs ys : List α} {as bs : List β}, Paired F xs as → Paired F ys bs → Paired F (xs ++ ys) (as ++ bs)
  | _, _, _, _, .nil, h => h
  | _, _, _, _, .cons r t, h => .cons r (Paired.app t h)
theorem UnIs.keeps {S S' : List Addr} {H H' : Hp} {vs : List V} {us : List Un} (h : Paired (UnIs S H) vs us) (k : Keep S' H H') (hS : ∀ b ∈ S', H b = none ∨ ((∃ xs, H b = some (.lst xs)) ∧ b ∈ S)) : Paired (UnIs S H') vs us := Paired.mapP h fun _ _ r => r.keep k hS
theorem UnIs.more {S : List Addr} {H : Hp} {v : V} {u : Un} {x : Addr} (h : UnIs S H v u) (hx : H x = none) : UnIs (x :: S) H v u := by
  cases u with
  | pool ns =>
    obtain ⟨a, N, e, h, hN, nS⟩ := h
    refine ⟨a, N, e, h, hN, fun m => ?_⟩
    rcases List.mem_cons.mp m with z | z
    · rw [z, hx] at hN; cases hN
    · exact nS z
  | _ => exact h
def PlD (D p : Addr) (H : Hp) (v : V) (x : Pl) : Prop := ∃ a N, v = .ref a ∧ H a = some (.tup [.int x.b, .ref N]) ∧ H N = some (.lst (x.ns.map V.int)) ∧ N ≠ p ∧ N ≠ D ∧ PlOk x
theorem PlD.is {D p : Addr} {H : Hp} {v : V} {x : Pl} (h : PlD D p H v x) : PlIs p H v x := by
  obtain ⟨a, N, e, ha, hN, np, _, ok⟩ := h
  exact ⟨a, N, e, ha, hN, np, ok⟩
theorem PlD.keep0 {D p : Addr} {H H' : Hp} {v : V} {x : Pl} (h : PlD D p H v x) (k : Keep [] H H') : PlD D p H' v x := by
  obtain ⟨a, N, e, ha, hN, np, nd, ok⟩ := h
  exact ⟨a, N, e, k _ _ ha (by simp), k _ _ hN (by simp), np, nd, ok⟩
theorem PlD.put {D p : Addr} {H H' : Hp} {v : V} {x : Pl} (h : PlD D p H v x) (k : Keep [D] H H') (hD : ∃ ys, H D = some (.lst ys)) : PlD D p H' v x := by
  obtain ⟨a, N, e, ha, hN, np, nd, ok⟩ := h
  refine ⟨a, N, e, k _ _ ha fun m => ?_, k _ _ hN (by simp [nd]), np, nd, ok⟩
  obtain ⟨ys, hy⟩ := hD
  rw [List.mem_singleton.mp m, hy] at ha; cases ha
def plcTo (us : List Un) (k : Nat) : List V := (List.range (k + 1)).map fun j => V.int (plc us j)
theorem plcTo_succ (us : List Un) (k : Nat) : plcTo us (k + 1) = plcTo us k ++ [V.int (plc us (k + 1))] := by
  unfold plcTo
  rw [List.range_succ (n := k + 1), List.map_append]
  rfl
theorem plcTo_last (us : List Un) (k : Nat) : atI (plcTo us k) (-1) = some (.int (plc us k)) := by
  have hl : (plcTo us k).length = k + 1 := by simp [plcTo]
  unfold atI ixN
  rw [hl, if_neg (by decide), if_pos (by omega)]
  show (plcTo us k)[_]? = _
  rw [show ((-1 : Int) + ((k + 1 : Nat) : Int)).toNat = k by omega]
  unfold plcTo
  rw [List.getElem?_map, List.getElem?_range (by omega)]
  rfl
theorem rd_pcons {tk tv : TE} {trs : List (TE × TE)} {σ : St} {H : Hp} {Q : List (V × V) → Hp → Prop} (h : tk σ H fun x H1 => tv σ H1 fun y H2 => tPairs trs σ H2 fun ps H3 => Q ((x, y) :: ps) H3) : tPairs ((tk, tv) :: trs) σ H Q := h
theorem rd_pnil {σ : St} {H : Hp} {Q : List (V × V) → Hp → Prop} (h : Q [] H) : tPairs [] σ H Q := h
abbrev szD : List (Key × V) := mergeK [] [(.inr "cell", .int 1), (.inr "jump", .int 1), (.inr "great", .int 2), (.inr "long", .int 2)]
theorem UnIs.less {S S' : List Addr} {H : Hp} {v : V} {u : Un} (h : UnIs S H v u) (hs : ∀ b ∈ S', b ∈ S) : UnIs S' H v u := by
  cases u with
  | pool ns =>
    obtain ⟨a, N, e, h, hN, nS⟩ := h
    exact ⟨a, N, e, h, hN, fun m => nS (hs _ m)⟩
  | _ => exact h
theorem for_enum {K : PySem.W.Frag} {a : Addr} {xs : List V} {g : TG} {tb : TS} {D : Ends} {σ : St} {H : Hp} (Pv : Nat → St → Hp → Prop) (h0 : Pv 0 σ H) (hl : ∀ i σ H, i ≤ xs.length → Pv i σ H → SqL K H a xs)
    (hs : ∀ i x T σ H, xs[i]? = some x → Pv i σ H → H T = none → g (.ref T) σ (upd H T (.tup [.int i, x])) fun σ2 H2 => tb { D with nx := Pv (i + 1), ct := Pv (i + 1), bk := D.nx } σ2 H2) (hd : ∀ σ H, Pv xs.length σ H → D.nx σ H) :
    ∃ W : Nat → Nat → St → Hp → Prop, (∃ m, W 0 m σ H) ∧ ∀ i m σ H, W i m σ H →
      ((Ite K a).stop i H ∧ D.nx σ H) ∨ ((Ite K a).go i H ∧ ∃ N : St → Hp → Prop, (∀ σ' H', N σ' H' → ∃ m', m' < m ∧ W (i + 1) m' σ' H') ∧ ∀ x H', (Ite K a).yld i H x H' → g x σ H' fun σ2 H2 => tb { D with nx := N, ct := N, bk := D.nx } σ2 H2) := by
  refine ⟨fun i m σ H => m = xs.length - i ∧ i ≤ xs.length ∧ Pv i σ H, ⟨xs.length, by simp, Nat.zero_le _, h0⟩, ?_⟩
  rintro i m σ H ⟨rfl, hi, p⟩
  have q := hl i σ H hi p
  by_cases hlt : i < xs.length
  · refine .inr ⟨⟨xs, xs[i], q, by simp [hlt]⟩, Pv (i + 1), fun σ' H' p' => ⟨xs.length - (i + 1), by omega, rfl, hlt, p'⟩, fun x H' y => ?_⟩
    obtain ⟨T, v, y, hn, e1, e2⟩ := y
    subst e1 e2
    exact hs i v T σ H (y xs q) p hn
  · have e : i = xs.length := by omega
    subst e
    exact .inl ⟨⟨xs, q, Nat.le_refl _⟩, hd σ H p⟩
def spTyped : Sp := fun vs H Q _ => ∃ (p : Addr) (n : Int), vs = [.ref p] ∧ Tape H p n ∧ n ≤ 100000 ∧
  ∀ (cl : Addr) (cs : List Int) (us : List Un) (H' : Hp), Keep [p] H H' → Tape H' p (n + 2000) → H' cl = some (.lst (cs.map V.int)) → cl ≠ p → us.length ≤ 19 → (∀ u ∈ us, UnOk us.length u) → Laid us us.length cs → Q (.ref cl) H'
theorem ok_typed (T : Txt K mg t) : FnOk P w K mg base CX0 3 t.f_typed t.d_typed ["_law_tape_here"] spTyped := by
  have G_take := ok_take (P := P) (w := w) (base := base) T
  have G_great := ok_great (P := P) (w := w) (base := base) T
  have G_unit := ok_unit (P := P) (w := w) (base := base) T
  refine T.F_typed.ok sc_typed (fun vs H Q E h => ?_) (fun cdv A outer s H vs Q E hr h => ?_)
  · obtain ⟨p, n, rfl, _⟩ := h
    rfl
  · obtain ⟨p, n0, rfl, T0, hn, q⟩ := h
    have hu := hr.units
    have hu1 := hu_of hr
    refine ⟨_, (@pss_cons _ _ _ _ _ (ps_par (i := 1) (j := 2) rfl sc_typed.nd rfl rfl (by decide) rfl rfl (@pa_cons _ _ _ _ _ (@pe_lst _ _ _ _ pa_nil) (@pa_cons _ _ _ _ _ (@pe_op _ _ _ _ _ _ _ _ op_add pe_int (@pe_call _ _ _ _ _ _ _ _ _ _ _ _ _ _ _ _ G_take (hr.mono (by first | decide | omega)) rfl T.m_take T.F_take.kp T.b_take .nil pass0 (@pa_cons _ _ _ _ _ (pv 0) (@pa_cons _ _ _ _ _ pe_int pa_nil (by rfl)) (by rfl)) (by first | rfl | decide) (by rfl) (by rfl))) pa_nil (by rfl)) (by rfl)) rfl)
      (@pss_cons _ _ _ _ _ (ps_for PassesOwn.never rfl (pi_range1 rfl T.m_range (@pa_cons _ _ _ _ _ (pv 2) pa_nil (by rfl))) (pg_name (i := 3) sc_typed.nd rfl (Or.inl rfl))
        (@pss_cons _ _ _ _ _ (ps_par3 (i := 4) (j := 5) (k := 6) rfl sc_typed.nd rfl rfl rfl (by decide) (by decide) (by decide) rfl rfl rfl (@pa_cons _ _ _ _ _ (@pe_call _ _ _ _ _ _ _ _ _ _ _ _ _ _ _ _ G_take (hr.mono (by first | decide | omega)) rfl T.m_take T.F_take.kp T.b_take .nil pass0 (@pa_cons _ _ _ _ _ (pv 0) (@pa_cons _ _ _ _ _ pe_int pa_nil (by rfl)) (by rfl)) (by first | rfl | decide) (by rfl) (by rfl)) (@pa_cons _ _ _ _ _ (@pe_call _ _ _ _ _ _ _ _ _ _ _ _ _ _ _ _ G_take (hr.mono (by first | decide | omega)) rfl T.m_take T.F_take.kp T.b_take .nil pass0 (@pa_cons _ _ _ _ _ (pv 0) (@pa_cons _ _ _ _ _ pe_int pa_nil (by rfl)) (by rfl)) (by first | rfl | decide) (by rfl) (by rfl)) (@pa_cons _ _ _ _ _ (@pe_call _ _ _ _ _ _ _ _ _ _ _ _ _ _ _ _ G_take (hr.mono (by first | decide | omega)) rfl T.m_take T.F_take.kp T.b_take .nil pass0 (@pa_cons _ _ _ _ _ (pv 0) (@pa_cons _ _ _ _ _ pe_int pa_nil (by rfl)) (by rfl)) (by first | rfl | decide) (by rfl) (by rfl)) pa_nil (by rfl)) (by rfl)) (by rfl)) rfl)
      (@pss_cons _ _ _ _ _ (ps_par (i := 7) (j := 8) rfl sc_typed.nd rfl rfl (by decide) rfl rfl (@pa_cons _ _ _ _ _ (@pe_call _ _ _ _ _ _ _ _ _ _ _ _ _ _ _ _ G_take (hr.mono (by first | decide | omega)) rfl T.m_take T.F_take.kp T.b_take .nil pass0 (@pa_cons _ _ _ _ _ (pv 0) (@pa_cons _ _ _ _ _ pe_int pa_nil (by rfl)) (by rfl)) (by first | rfl | decide) (by rfl) (by rfl)) (@pa_cons _ _ _ _ _ (@pe_call _ _ _ _ _ _ _ _ _ _ _ _ _ _ _ _ G_take (hr.mono (by first | decide | omega)) rfl T.m_take T.F_take.kp T.b_take .nil pass0 (@pa_cons _ _ _ _ _ (pv 0) (@pa_cons _ _ _ _ _ (pv 2) pa_nil (by rfl)) (by rfl)) (by first | rfl | decide) (by rfl) (by rfl)) pa_nil (by rfl)) (by rfl)) rfl)
      (@pss_cons _ _ _ _ _ (@ps_set _ _ 9 _ _ _ _ sc_typed.nd rfl (Or.inl rfl) (@pe_lst _ _ _ _ (@pa_cons _ _ _ _ _ (@pe_tup _ _ _ _ _ (@pa_cons _ _ _ _ _ pe_str (@pa_cons _ _ _ _ _ (@pe_op _ _ _ _ _ _ _ _ op_add (@pe_op _ _ _ _ _ _ _ _ op_add pe_int (@pe_op _ _ _ _ _ _ _ _ op_mul pe_int (pv 5))) (pv 7)) pa_nil (by rfl)) (by rfl))) (@pa_cons _ _ _ _ _ (@pe_tup _ _ _ _ _ (@pa_cons _ _ _ _ _ pe_str (@pa_cons _ _ _ _ _ (@pe_op _ _ _ _ _ _ _ _ op_add (@pe_op _ _ _ _ _ _ _ _ op_add pe_int (@pe_op _ _ _ _ _ _ _ _ op_mul pe_int (pv 5))) (pv 6)) pa_nil (by rfl)) (by rfl))) (@pa_cons _ _ _ _ _ (@pe_tup _ _ _ _ _ (@pa_cons _ _ _ _ _ pe_str (@pa_cons _ _ _ _ _ (@pe_op _ _ _ _ _ _ _ _ op_add (@pe_op _ _ _ _ _ _ _ _ op_add pe_int (@pe_op _ _ _ _ _ _ _ _ op_mul pe_int (pv 5))) (pv 6)) pa_nil (by rfl)) (by rfl))) pa_nil (by rfl)) (by rfl)) (by rfl))) (by rfl) (by first | exact Or.inl rfl | exact Or.inr rfl | assumption))
      (@pss_cons _ _ _ _ _ (@ps_set _ _ 9 _ _ _ _ sc_typed.nd rfl (Or.inl rfl) (@pe_op _ _ _ _ _ _ _ _ op_cat (pv 9) (@pe_lst _ _ _ _ (@pa_cons _ _ _ _ _ (@pe_tup _ _ _ _ _ (@pa_cons _ _ _ _ _ pe_str (@pa_cons _ _ _ _ _ (@pe_op _ _ _ _ _ _ _ _ op_add pe_int (pv 5)) pa_nil (by rfl)) (by rfl))) (@pa_cons _ _ _ _ _ (@pe_tup _ _ _ _ _ (@pa_cons _ _ _ _ _ pe_str (@pa_cons _ _ _ _ _ (pv 5) pa_nil (by rfl)) (by rfl))) (@pa_cons _ _ _ _ _ (@pe_tup _ _ _ _ _ (@pa_cons _ _ _ _ _ pe_str (@pa_cons _ _ _ _ _ (pv 5) pa_nil (by rfl)) (by rfl))) (@pa_cons _ _ _ _ _ (@pe_tup _ _ _ _ _ (@pa_cons _ _ _ _ _ pe_str (@pa_cons _ _ _ _ _ pe_int (@pa_cons _ _ _ _ _ (pv 8) (@pa_cons _ _ _ _ _ pe_int pa_nil (by rfl)) (by rfl)) (by rfl)) (by rfl))) pa_nil (by rfl)) (by rfl)) (by rfl)) (by rfl)))) (by rfl) (by first | exact Or.inl rfl | exact Or.inr rfl | assumption))
      (@pss_cons _ _ _ _ _ (@ps_set _ _ 9 _ _ _ _ sc_typed.nd rfl (Or.inl rfl) (@pe_op _ _ _ _ _ _ _ _ op_cat (pv 9) (@pe_lst _ _ _ _ (@pa_cons _ _ _ _ _ (@pe_tup _ _ _ _ _ (@pa_cons _ _ _ _ _ pe_str (@pa_cons _ _ _ _ _ (@pe_op _ _ _ _ _ _ _ _ op_add pe_int (@pe_op _ _ _ _ _ _ _ _ op_mul pe_int (pv 5))) (@pa_cons _ _ _ _ _ (pv 8) (@pa_cons _ _ _ _ _ (@pe_op _ _ _ _ _ _ _ _ op_add pe_int (pv 5)) pa_nil (by rfl)) (by rfl)) (by rfl)) (by rfl))) (@pa_cons _ _ _ _ _ (@pe_tup _ _ _ _ _ (@pa_cons _ _ _ _ _ pe_str (@pa_cons _ _ _ _ _ (@pe_op _ _ _ _ _ _ _ _ op_add pe_int (pv 5)) (@pa_cons _ _ _ _ _ (pv 8) pa_nil (by rfl)) (by rfl)) (by rfl))) (@pa_cons _ _ _ _ _ (@pe_tup _ _ _ _ _ (@pa_cons _ _ _ _ _ pe_str (@pa_cons _ _ _ _ _ pe_int (@pa_cons _ _ _ _ _ (pv 8) pa_nil (by rfl)) (by rfl)) (by rfl))) pa_nil (by rfl)) (by rfl)) (by rfl)))) (by rfl) (by first | exact Or.inl rfl | exact Or.inr rfl | assumption))
      (@pss_cons _ _ _ _ _ (ps_setC (i := 10) sc_typed.nd rfl rfl rfl sn_typed_0.sc (pi_range1 rfl T.m_range (@pa_cons _ _ _ _ _ (@pe_op _ _ _ _ _ _ _ _ op_add pe_int (@pe_call _ _ _ _ _ _ _ _ _ _ _ _ _ _ _ _ G_take (hr.mono (by first | decide | omega)) rfl T.m_take T.F_take.kp T.b_take .nil pass0 (@pa_cons _ _ _ _ _ (pv 0) (@pa_cons _ _ _ _ _ pe_int pa_nil (by rfl)) (by rfl)) (by first | rfl | decide) (by rfl) (by rfl))) pa_nil (by rfl))) (fun _ => (pg_name (i := 0) sn_typed_0.nd rfl (Or.inl rfl))) (fun _ _ => (act_plain (@pe_call _ _ _ _ _ _ _ _ _ _ _ _ _ _ _ _ G_great (hr.mono (by first | decide | omega)) rfl T.m_great T.F_great.kp T.b_great .nil pass0 (@pa_cons _ _ _ _ _ (pv 1) pa_nil (by rfl)) (by first | rfl | decide) (by rfl) (by rfl)))))
      (@pss_one _ _ _ (ps_expr (pe_bm PySem.F.plainAttrs_list PySem.F.slot_list_append PySem.F.type_list_append mt_append (pv 1) (@pa_cons _ _ _ _ _ (@pe_ix _ _ _ _ _ _ _ ix_list (@pe_op _ _ _ _ _ _ _ _ op_cat (pv 9) (@pe_lst _ _ _ _ (@pa_cons _ _ _ _ _ (@pe_tup _ _ _ _ _ (@pa_cons _ _ _ _ _ pe_str (@pa_cons _ _ _ _ _ (pv 10) pa_nil (by rfl)) (by rfl))) (@pa_cons _ _ _ _ _ (@pe_tup _ _ _ _ _ (@pa_cons _ _ _ _ _ pe_str (@pa_cons _ _ _ _ _ (@pe_ix _ _ _ _ _ _ _ ix_list (@pe_lst _ _ _ _ (@pa_cons _ _ _ _ _ pe_int (@pa_cons _ _ _ _ _ (@pe_op _ _ _ _ _ _ _ _ op_add pe_int (pv 5)) pa_nil (by rfl)) (by rfl))) (@pe_call _ _ _ _ _ _ _ _ _ _ _ _ _ _ _ _ G_take (hr.mono (by first | decide | omega)) rfl T.m_take T.F_take.kp T.b_take .nil pass0 (@pa_cons _ _ _ _ _ (pv 0) (@pa_cons _ _ _ _ _ pe_int pa_nil (by rfl)) (by rfl)) (by first | rfl | decide) (by rfl) (by rfl)) (fun _ _ => rfl)) pa_nil (by rfl)) (by rfl))) pa_nil (by rfl)) (by rfl)))) (pv 4) (fun _ _ => rfl)) pa_nil (by rfl))))))))))))
      (@pss_cons _ _ _ _ _ (@ps_set _ _ 11 _ _ _ _ sc_typed.nd rfl (Or.inl rfl) (@pe_disp _ _ _ _ _ (@pps_cons _ _ _ _ _ _ _ _ _ pe_str pe_int (@pps_cons _ _ _ _ _ _ _ _ _ pe_str pe_int (@pps_cons _ _ _ _ _ _ _ _ _ pe_str pe_int (@pps_cons _ _ _ _ _ _ _ _ _ pe_str pe_int pps_nil)))) (by simp) (by simp) (by simp) (by simp)) swaps_dict (by first | exact Or.inl rfl | exact Or.inr rfl | assumption))
      (@pss_cons _ _ _ _ _ (@ps_set _ _ 12 _ _ _ _ sc_typed.nd rfl (Or.inr rfl) (@pe_lst _ _ _ _ (@pa_cons _ _ _ _ _ pe_int pa_nil (by rfl))) (by rfl) (by first | exact Or.inl rfl | exact Or.inr rfl | assumption))
      (@pss_cons _ _ _ _ _ (ps_for PassesOwn.never rfl (pi_list (pv 1)) (pg_name (i := 13) sc_typed.nd rfl (Or.inl rfl))
        (@pss_cons _ _ _ _ _ (@ps_set _ _ 14 _ _ _ _ sc_typed.nd rfl (Or.inl rfl) (pe_ifExp (@pt_cmpR _ _ _ _ _ _ _ _ op_ne (@pe_ix _ _ _ _ _ _ _ ix_tup (pv 13) pe_int (fun _ _ => rfl)) pe_str (nomark _)) (pe_dget hu1 (pv 11) (@pe_ix _ _ _ _ _ _ _ ix_tup (pv 13) pe_int (fun _ _ => rfl)) (fun _ _ => rfl)) (@pe_op _ _ _ _ _ _ _ _ op_add pe_int (@pe_op _ _ _ _ _ _ _ _ op_mul pe_int (@pe_callB _ _ _ _ _ _ _ _ _ call_len_seq rfl T.m_len bt_len (@pa_cons _ _ _ _ _ (@pe_ix _ _ _ _ _ _ _ ix_tup (pv 13) pe_int (fun _ _ => rfl)) pa_nil (by rfl)) (by decide) (by first | rfl | decide) (by rfl) (by rfl))))) (by rfl) (by first | exact Or.inl rfl | exact Or.inr rfl | assumption))
      (@pss_one _ _ _ (ps_expr (pe_bm PySem.F.plainAttrs_list PySem.F.slot_list_append PySem.F.type_list_append mt_append (pv 12) (@pa_cons _ _ _ _ _ (@pe_op _ _ _ _ _ _ _ _ op_add (@pe_ix _ _ _ _ _ _ _ ix_list (pv 12) (pe_un un_neg pe_int) (fun _ _ => rfl)) (pv 14)) pa_nil (by rfl)))))))
      (@pss_cons _ _ _ _ _ (ps_setC (i := 15) sc_typed.nd rfl rfl rfl sn_typed_1.sc (pi_enum rfl T.m_enumerate (@pa_cons _ _ _ _ _ (pv 1) pa_nil (by rfl))) (fun _ => (pg_tup rfl (pgs_cons (pg_name (i := 0) sn_typed_1.nd rfl (Or.inl rfl)) (pgs_cons (pg_name (i := 1) sn_typed_1.nd rfl (Or.inl rfl)) pgs_nil)))) (fun _ _ => (act_test (@pt_cmpR _ _ _ _ _ _ _ _ op_eq (@pe_ix _ _ _ _ _ _ _ ix_tup (pv 1) pe_int (fun _ _ => rfl)) pe_str (nomark _)) (@pe_tup _ _ _ _ _ (@pa_cons _ _ _ _ _ (@pe_op _ _ _ _ _ _ _ _ op_add (@pe_ix _ _ _ _ _ _ _ ix_list (pv 2) (pv 0) (fun _ _ => rfl)) pe_int) (@pa_cons _ _ _ _ _ (@pe_ix _ _ _ _ _ _ _ ix_tup (pv 1) pe_int (fun _ _ => rfl)) pa_nil (by rfl)) (by rfl))))))
      (@pss_cons _ _ _ _ _ (@ps_set _ _ 16 _ _ _ _ sc_typed.nd rfl (Or.inl rfl) (@pe_lst _ _ _ _ pa_nil) (by rfl) (by first | exact Or.inl rfl | exact Or.inr rfl | assumption))
      (@pss_cons _ _ _ _ _ (ps_for PassesOwn.never rfl (pi_enum rfl T.m_enumerate (@pa_cons _ _ _ _ _ (pv 1) pa_nil (by rfl))) (pg_tup rfl (pgs_cons (pg_name (i := 17) sc_typed.nd rfl (Or.inl rfl)) (pgs_cons (pg_name (i := 13) sc_typed.nd rfl (Or.inl rfl)) pgs_nil)))
        (@pss_one _ _ _ (@ps_set _ _ 16 _ _ _ _ sc_typed.nd rfl (Or.inl rfl) (@pe_op _ _ _ _ _ _ _ _ op_cat (pv 16) (@pe_call _ _ _ _ _ _ _ _ _ _ _ _ _ _ _ _ G_unit (hr.mono (by first | decide | omega)) rfl T.m_unit T.F_unit.kp T.b_unit .nil pass0 (@pa_cons _ _ _ _ _ (pv 0) (@pa_cons _ _ _ _ _ (pv 13) (@pa_cons _ _ _ _ _ (pv 12) (@pa_cons _ _ _ _ _ (pv 17) (@pa_cons _ _ _ _ _ (pv 15) pa_nil (by rfl)) (by rfl)) (by rfl)) (by rfl)) (by rfl)) (by first | rfl | decide) (by rfl) (by rfl))) (by rfl) (by first | exact Or.inl rfl | exact Or.inr rfl | assumption))))
      (@pss_one _ _ _ (ps_ret (pv 16))))))))))), ?_⟩
    repeat walk_at "na"
    rename_i U hU
    have nU : U ≠ p := T0.ne hU
    have kA : Keep [p] H (upd H U (.lst [])) := Keep.new (Keep.refl _ _) hU
    have gA : (upd H U (.lst [])) U = some (.lst []) := upd_same
    have tA : Tape (upd H U (.lst [])) p n0 := T0.new hU
    generalize upd H U (.lst []) = H1 at *
    refine ⟨p, _, _, rfl, tA, by omega, by first | decide | omega, by first | decide | omega, fun m H2 m0 m1 T2 K2 _ => ?_⟩
    obtain ⟨M, hM, hM1⟩ : ∃ M : Nat, 4 + m = M ∧ M ≤ 19 := ⟨(4 + m).toNat, by omega, by omega⟩
    repeat walk_at "na"
    rw [hM]
    have kB := kA.trans K2
    have gB := K2 _ _ gA (by simp [nU])
    clear K2 gA tA kA
    refine ⟨by omega, by omega, for_range (lo := 0) (fun i σ Hc => ∃ vs us v3 v4 v5 v6 v7 v8 v9 v10, σ = [some (.ref p), some (.ref U), some (.int (M : Int)), v3, v4, v5, v6, v7, v8, v9, v10, none, none, none, none, none, none, none] ∧ Keep [p] H Hc ∧ Tape Hc p (n0 + 1 + 30 * (i : Int)) ∧ Hc U = some (.lst vs) ∧ Paired (UnIs [p, U] Hc) vs us ∧ us.length = i ∧ ∀ u ∈ us, UnOk M u) ⟨[], [], _, _, _, _, _, _, _, _, rfl, kB, T2.le (by simp), gB, .nil, rfl, (fun u hu => by cases hu)⟩ ?_ ?_⟩
--BEGIN1
    · rintro i σ Hc hi ⟨vs, us, v3, v4, v5, v6, v7, v8, v9, v10, rfl, kc, tc, hUc, hpu, hul, huo⟩
      repeat walk_at "na"
      refine ⟨p, _, _, rfl, tc, by omega, by first | decide | omega, by first | decide | omega, fun way H3 way0 way1 T3 K3 _ => ?_⟩
      repeat walk_at "na"
      refine ⟨p, _, _, rfl, T3, by omega, by first | decide | omega, by first | decide | omega, fun r H4 r0 r1 T4 K4 _ => ?_⟩
      repeat walk_at "na"
      refine ⟨p, _, _, rfl, T4, by omega, by first | decide | omega, by first | decide | omega, fun s' H5 s0 s1 T5 K5 _ => ?_⟩
      repeat walk_at "na"
      refine ⟨p, _, _, rfl, T5, by omega, by first | decide | omega, by first | decide | omega, fun sm H6 sm0 sm1 T6 K6 _ => ?_⟩
      repeat walk_at "na"
      refine ⟨p, _, _, rfl, T6, by omega, by first | decide | omega, by first | decide | omega, fun qq H7 q0 q1 T7 K7 _ => ?_⟩
      have k37 := (((K3.trans K4).trans K5).trans K6).trans K7
      have k7 := kc.trans k37
      have hU7 := k37 _ _ hUc (by simp [nU])
      have lp : ∃ xs, Hc p = some (.lst xs) := tc.lst
      have hp7 : Paired (UnIs [p, U] H7) vs us := UnIs.keeps hpu k37 fun b hb => by rw [List.mem_singleton.mp hb]; exact .inr ⟨lp, by simp⟩
      clear K3 K4 K5 K6 K7 T3 T4 T5 T6 k37 hpu hUc kc tc lp
      repeat walk_at "na"
      rename_i A1 h1 A2 h2 A3 h3 L1 hL1 A4 h4 A5 h5 A6 h6 A7 h7 L2 hL2 L3 hL3 A8 h8 A9 h9 A10 h10 L4 hL4 L5 hL5
      have k0 : Keep [] H7 H7 := Keep.refl _ _
      generalize hB : upd _ L5 _ = H8
      have k8 : Keep [] H7 H8 := by rw [← hB]; walk_at "keep"
      have e1 : H8 A1 = some (.tup [.str "cell", .int (1000 + 100 * r + sm)]) := by rw [← hB]; walk_at "look"
      have e2 : H8 A2 = some (.tup [.str "cell", .int (2000 + 10 * r + s')]) := by rw [← hB]; walk_at "look"
      have e3 : H8 A3 = some (.tup [.str "cell", .int (3000 + 10 * r + s')]) := by rw [← hB]; walk_at "look"
      have e4 : H8 A4 = some (.tup [.str "cell", .int (4000 + r)]) := by rw [← hB]; walk_at "look"
      have e5 : H8 A5 = some (.tup [.str "great", .int r]) := by rw [← hB]; walk_at "look"
      have e6 : H8 A6 = some (.tup [.str "great", .int r]) := by rw [← hB]; walk_at "look"
      have e7 : H8 A7 = some (.tup [.str "jump", .int 6500, .int qq, .int 7000]) := by rw [← hB]; walk_at "look"
      have e8 : H8 A8 = some (.tup [.str "jump", .int (8100 + 200 * r), .int qq, .int (9000 + r)]) := by rw [← hB]; walk_at "look"
      have e9 : H8 A9 = some (.tup [.str "long", .int (9000 + r), .int qq]) := by rw [← hB]; walk_at "look"
      have e10 : H8 A10 = some (.tup [.str "long", .int 7000, .int qq]) := by rw [← hB]; walk_at "look"
      have eL : H8 L5 = some (.lst [.ref A1, .ref A2, .ref A3, .ref A4, .ref A5, .ref A6, .ref A7, .ref A8, .ref A9, .ref A10]) := by rw [← hB]; exact upd_same
      have T8 := T7.keep' k8
      have hU8 := k8 _ _ hU7 (by simp)
      have hp8 : Paired (UnIs [p, U] H8) vs us := UnIs.keeps hp7 k8 fun b hb => by cases hb
      have kk8 : Keep [p] H H8 := k7.trans fun b o h _ => k8 b o h (by simp)
      clear hB h1 h2 h3 hL1 h4 h5 h6 h7 hL2 hL3 h8 h9 h10 hL4 hL5 k0 k8 hp7 hU7 k7
      refine ⟨p, _, _, rfl, T8, by omega, by first | decide | omega, by first | decide | omega, fun c3 H9 c30 c31 T9 K9 _ => ?_⟩
      repeat walk_at "na"
      refine ⟨by omega, by omega, fun c N hN => comp_range (lo := 0) (n := (1 + c3).toNat) (fun x σ He => ∃ v0 P0, σ = [v0, some (.ref p)] ∧ Keep [p] H9 He ∧ Tape He p (n0 + 7 + 30 * (i : Int) + 4 * x) ∧ He N = some (.lst (List.map V.int P0)) ∧ P0.length = x ∧ ∀ n ∈ P0, 100 ≤ n ∧ n ≤ 99999999) ?_ ?_ ?_⟩
      · exact ⟨_, [], rfl, Keep.new (Keep.refl _ _) hN, (T9.new hN).le (by omega), upd_same, rfl, (fun n hn => by cases hn)⟩
      · rintro x σ He hx ⟨v0, P0, rfl, ke, te, hNe, hPl, hPo⟩ R hR
        repeat walk_at "na"
        refine ⟨p, _, rfl, te, by omega, fun d H10 d0 d1 T10 K10 => ?_⟩
        have nN : N ≠ p := Tape.ne T9 hN
        have hN10 := K10 _ _ hNe (by simp [nN])
        repeat walk_at "na"
        exact ⟨_, hN10, Nat.lt_of_le_of_lt (show _ ≤ 1000 by rw [List.length_map]; omega) (by decide), hR _ _ ⟨_, P0 ++ [d], rfl, Keep.put (ke.trans K10) (.inr hN), (T10.put nN).le (by omega), by rw [upd_same, List.map_append]; rfl, by simp [hPl], fun n hn => (List.mem_append.mp hn).elim (hPo n) fun h => by rw [List.mem_singleton.mp h]; exact ⟨d0, d1⟩⟩⟩
      · rintro σ H10 ⟨v0, P0, rfl, k10, t10, hN10, hPl, hPo⟩
        have nN : N ≠ p := Tape.ne T9 hN
        have k810 := K9.trans k10
        have nNU : N ≠ U := fun e => by
          have := K9 _ _ hU8 (by simp [nU])
          rw [← e, hN] at this; cases this
        have hU10 := k810 _ _ hU8 (by simp [nU])
        have np8 : ∀ {a : Addr} {xs : List V}, H8 a = some (.tup xs) → a ∉ [p] := fun {a xs} ha hm => by
          obtain ⟨ys, hy⟩ := T8.lst
          rw [List.mem_singleton.mp hm, hy] at ha; cases ha
        have nL5 : L5 ≠ p := fun e => by
          obtain ⟨x1, x2, x3, hy, _⟩ := T8
          rw [e, hy] at eL; cases eL
        have eL10 := k810 _ _ eL (by simp [nL5])
        have f1 := k810 _ _ e1 (np8 e1)
        have f2 := k810 _ _ e2 (np8 e2)
        have f3 := k810 _ _ e3 (np8 e3)
        have f4 := k810 _ _ e4 (np8 e4)
        have f5 := k810 _ _ e5 (np8 e5)
        have f6 := k810 _ _ e6 (np8 e6)
        have f7 := k810 _ _ e7 (np8 e7)
        have f8 := k810 _ _ e8 (np8 e8)
        have f9 := k810 _ _ e9 (np8 e9)
        have f10 := k810 _ _ e10 (np8 e10)
        have hp10 : Paired (UnIs [p, U] H10) vs us := UnIs.keeps hp8 k810 fun b hb => by rw [List.mem_singleton.mp hb]; exact .inr ⟨T8.lst, by simp⟩
        have kk10 : Keep [p] H H10 := kk8.trans k810
        clear e1 e2 e3 e4 e5 e6 e7 e8 e9 e10 eL hp8 kk8 k810 K9 k10 hU8 np8 T9 T8 hN nL5
        repeat walk_at "na"
        rename_i A11 hA11 L6 hL6
        have tz : Tape (upd H10 A11 (HO.tup [V.str (Str.ofString "pool"), V.ref N])) p _ := t10.new hA11
        have nL6 : L6 ≠ p := Tape.ne tz hL6
        refine ⟨p, _, _, rfl, tz.new hL6, by omega, by first | decide | omega, by first | decide | omega, fun b2 H11 b20 b21 T11 K11 _ => ?_⟩
        have kz : Keep [] H10 (upd H10 A11 (HO.tup [V.str (Str.ofString "pool"), V.ref N])) := Keep.new (Keep.refl _ _) hA11
        have nA11 : A11 ≠ p := Tape.ne t10 hA11
        have k1011 : Keep [p] H10 H11 := (show Keep [p] H10 _ from Keep.new (Keep.new (Keep.refl _ _) hA11) hL6).trans K11
        have g11 : H11 A11 = some (.tup [.str "pool", .ref N]) := K11 A11 (.tup [.str "pool", .ref N]) (by walk_at "look") (by simp [nA11])
        have gL6 : H11 L6 = some (.lst [V.int 0, V.int (4000 + r)]) := K11 _ _ upd_same (by simp [nL6])
        obtain ⟨v, hv, hvm⟩ := atI_pick (xs := [V.int 0, V.int (4000 + r)]) b20 (by simp; omega)
        obtain ⟨cv, rfl, hcv⟩ : ∃ x : Int, v = .int x ∧ (x = 0 ∨ x = 4000 + r) := by
          simp only [List.mem_cons, List.not_mem_nil, or_false] at hvm
          rcases hvm with rfl | rfl
          · exact ⟨_, rfl, .inl rfl⟩
          · exact ⟨_, rfl, .inr rfl⟩
        have np10 : ∀ {a : Addr} {xs : List V}, H10 a = some (.tup xs) → a ∉ [p] := fun {a xs} ha hm => by
          obtain ⟨ys, hy⟩ := t10.lst
          rw [List.mem_singleton.mp hm, hy] at ha; cases ha
        have nL5 : L5 ≠ p := fun e => by
          obtain ⟨x1, x2, x3, hy, _⟩ := t10
          rw [e, hy] at eL10; cases eL10
        have eL11 := k1011 _ _ eL10 (by simp [nL5])
        have hU11 := k1011 _ _ hU10 (by simp [nU])
        have hN11 := k1011 _ _ hN10 (by simp [nN])
        have hp11 : Paired (UnIs [p, U] H11) vs us := UnIs.keeps hp10 k1011 fun b hb => by rw [List.mem_singleton.mp hb]; exact .inr ⟨t10.lst, by simp⟩
        have ff : ∀ {a : Addr} {xs : List V}, H10 a = some (.tup xs) → H11 a = some (.tup xs) := fun {a xs} ha => k1011 _ _ ha (np10 ha)
        replace f1 := ff f1
        replace f2 := ff f2
        replace f3 := ff f3
        replace f4 := ff f4
        replace f5 := ff f5
        replace f6 := ff f6
        replace f7 := ff f7
        replace f8 := ff f8
        replace f9 := ff f9
        replace f10 := ff f10
        have kk11 := kk10.trans k1011
        clear ff np10 hp10 hU10 hN10 eL10 kk10 k1011 kz K11 tz t10 hA11 hL6 nL5
        repeat walk_at "na"
        refine rd_ixL (SqL.of gL6) hv ?_
        repeat walk_at "na"
        rename_i A12 h12 L7 hL7 L8 hL8
        have k0 : Keep [] H11 H11 := Keep.refl _ _
        generalize hB : upd _ L8 _ = H12
        have k12 : Keep [] H11 H12 := by rw [← hB]; walk_at "keep"
        have e12 : H12 A12 = some (.tup [.str "cell", .int cv]) := by rw [← hB]; walk_at "look"
        have eL : H12 L8 = some (.lst [.ref A1, .ref A2, .ref A3, .ref A4, .ref A5, .ref A6, .ref A7, .ref A8, .ref A9, .ref A10, .ref A11, .ref A12]) := by rw [← hB]; exact upd_same
        clear hB h12 hL7 hL8 k0
        obtain ⟨v, hv', hvm'⟩ := atI_pick (xs := [V.ref A1, V.ref A2, V.ref A3, V.ref A4, V.ref A5, V.ref A6, V.ref A7, V.ref A8, V.ref A9, V.ref A10, V.ref A11, V.ref A12]) way0 (by simp; omega)
        have ff : ∀ {a : Addr} {xs : List V}, H11 a = some (.tup xs) → H12 a = some (.tup xs) := fun {a xs} ha => k12 _ _ ha (by simp)
        obtain ⟨u, hui, huk⟩ : ∃ u, UnIs [p, U] H12 v u ∧ UnOk M u := by
          have hP3 : 1 ≤ P0.length ∧ P0.length ≤ 3 := by omega
          simp only [List.mem_cons, List.not_mem_nil, or_false] at hvm'
          rcases hvm' with rfl | rfl | rfl | rfl | rfl | rfl | rfl | rfl | rfl | rfl | rfl | rfl
          · exact ⟨.cell (1000 + 100 * r + sm), ⟨_, rfl, ff f1⟩, .inr (.inl ⟨by omega, by omega⟩)⟩
          · exact ⟨.cell (2000 + 10 * r + s'), ⟨_, rfl, ff f2⟩, .inr (.inr (.inl ⟨r, s', r0, r1, s0, s1, .inl rfl⟩))⟩
          · exact ⟨.cell (3000 + 10 * r + s'), ⟨_, rfl, ff f3⟩, .inr (.inr (.inl ⟨r, s', r0, r1, s0, s1, .inr rfl⟩))⟩
          · exact ⟨.cell (4000 + r), ⟨_, rfl, ff f4⟩, .inr (.inr (.inr ⟨by omega, by omega⟩))⟩
          · exact ⟨.great r, ⟨_, rfl, ff f5⟩, r0, r1⟩
          · exact ⟨.great r, ⟨_, rfl, ff f6⟩, r0, r1⟩
          · exact ⟨.jump 6500 qq 7000, ⟨_, rfl, ff f7⟩, q0, q1, .inl rfl⟩
          · exact ⟨.jump (8100 + 200 * r) qq (9000 + r), ⟨_, rfl, ff f8⟩, q0, q1, .inr ⟨r, r0, r1, rfl⟩⟩
          · exact ⟨.long (9000 + r) qq, ⟨_, rfl, ff f9⟩, q0, q1, .inr ⟨by omega, by omega⟩⟩
          · exact ⟨.long 7000 qq, ⟨_, rfl, ff f10⟩, q0, q1, .inl rfl⟩
          · exact ⟨.pool P0, ⟨_, N, rfl, ff g11, k12 _ _ hN11 (by simp), by simp [nN, nNU]⟩, hP3.1, hP3.2, hPo⟩
          · refine ⟨.cell cv, ⟨_, rfl, e12⟩, ?_⟩
            rcases hcv with rfl | rfl
            · exact .inl rfl
            · exact .inr (.inr (.inr ⟨by omega, by omega⟩))
        have hU12 := k12 _ _ hU11 (by simp)
        have hp12 : Paired (UnIs [p, U] H12) vs us := UnIs.keeps hp11 k12 fun b hb => by cases hb
        have T12 := T11.keep' k12
        have kk12 : Keep [p] H H12 := kk11.trans fun b o h _ => k12 b o h (by simp)
        clear f1 f2 f3 f4 f5 f6 f7 f8 f9 f10 ff g11 e12 hp11 hU11 hN11 eL11 kk11 T11 k12 gL6
        refine rd_ixL (SqL.of eL) hv' ?_
        repeat walk_at "na"
        have hvl : vs.length ≤ 1000 := by rw [Paired.length hp12]; omega
        refine rd_appendG hU12 (Nat.lt_of_le_of_lt hvl (by decide)) fun H13 e13 => ?_
        have k13 : Keep [U] H12 H13 := by rw [e13]; exact Keep.put (Keep.refl _ _) (.inl (by simp))
        have hS13 : ∀ b ∈ [U], H12 b = none ∨ ((∃ xs, H12 b = some (.lst xs)) ∧ b ∈ [p, U]) := fun b hb => by rw [List.mem_singleton.mp hb]; exact .inr ⟨⟨_, hU12⟩, by simp⟩
        repeat walk_at "na"
        refine ⟨vs ++ [v], us ++ [u], _, _, _, _, _, _, _, _, rfl, by rw [e13]; exact Keep.put kk12 (.inr hU), (by rw [e13]; exact (T12.put nU).le (by omega)), by rw [e13]; exact upd_same, Paired.app (UnIs.keeps hp12 k13 hS13) (.cons (hui.keep k13 hS13) .nil), by simp [hul], fun x hx => (List.mem_append.mp hx).elim (huo x) fun h => by rw [List.mem_singleton.mp h]; exact huk⟩
--END1
    · rintro σ Hc ⟨vs, us, v3, v4, v5, v6, v7, v8, v9, v10, rfl, kc, tc, hUc, hpu, hul, huo⟩
      repeat walk_at "na"
      intro dp hdp
      refine rd_pcons ?_
      repeat walk_at "ns"
      refine rd_pcons ?_
      repeat walk_at "ns"
      refine rd_pcons ?_
      repeat walk_at "ns"
      refine rd_pcons ?_
      repeat walk_at "ns"
      refine rd_pnil ?_
      refine ⟨upd_same, [(.inr "cell", .int 1), (.inr "jump", .int 1), (.inr "great", .int 2), (.inr "long", .int 2)], rfl, by simp, ?_⟩
      rw [upd_upd]
      have kd : Keep [] Hc (upd Hc dp (.dK szD)) := Keep.new (Keep.refl _ _) hdp
      have hdd : (upd Hc dp (.dK szD)) dp = some (.dK szD) := upd_same
      generalize upd Hc dp (.dK szD) = H1 at kd hdd ⊢
      repeat walk_at "na"
      rename_i PL hPL
      have hpl1 : Paired (UnIs [PL, p, U] H1) vs us := Paired.mapP (UnIs.keeps hpu kd fun b hb => by cases hb) fun _ _ r => r.more hPL
      have k12 : Keep [] H1 (upd H1 PL (.lst [.int 0])) := Keep.new (Keep.refl _ _) hPL
      have ePL : (upd H1 PL (.lst [.int 0])) PL = some (.lst (plcTo us 0)) := upd_same
      have hPLH : H PL = none := (kc.trans fun b o h _ => kd b o h (by simp)).free hPL (by simp [Tape.ne (tc.keep' kd) hPL])
      have nPLp : PL ≠ p := Tape.ne (tc.keep' kd) hPL
      have nPLU : PL ≠ U := fun e => by
        have := kd _ _ hUc (by simp)
        rw [← e, hPL] at this; cases this
      have nPLd : PL ≠ dp := fun e => by rw [← e, hPL] at hdd; cases hdd
      generalize upd H1 PL (.lst [.int 0]) = H2 at k12 ePL ⊢
      have k2 : Keep [] Hc H2 := kd.trans k12
      have hp2 : Paired (UnIs [PL, p, U] H2) vs us := UnIs.keeps hpl1 k12 fun b hb => by cases hb
      have hU2 := k2 _ _ hUc (by simp)
      have hd2 := k12 _ _ hdd (by simp)
      have t2 := tc.keep' k2
      have kk2 : Keep [p] H H2 := kc.trans fun b o h _ => k2 b o h (by simp)
      clear kd hdd hdp hPL hpl1 k12 k2 hpu hUc tc kc
      have hlen : vs.length = us.length := Paired.length hp2
      repeat walk_at "na"
      refine ⟨⟨_, SqL.of hU2⟩, for_list (xs := vs) (fun j σ He => ∃ v13 v14, σ = [some (.ref p), some (.ref U), some (.int (M : Int)), v3, v4, v5, v6, v7, v8, v9, v10, some (.ref dp), some (.ref PL), v13, v14, none, none, none] ∧ Keep [PL] H2 He ∧ He PL = some (.lst (plcTo us j))) ⟨_, _, rfl, Keep.refl _ _, ePL⟩ ?_ ?_ ?_⟩
      · rintro j σ He _ ⟨v13, v14, rfl, ke, _⟩
        exact SqL.of (ke _ _ hU2 (by simp [Ne.symm nPLU]))
--BEGIN2
      · rintro j x σ He hx ⟨v13, v14, rfl, ke, hPe⟩
        obtain ⟨x', u, hx', huj, hui⟩ := Paired.getL hp2 (j := j) (List.getElem?_eq_some_iff.mp hx).1
        rw [hx] at hx'
        cases hx'
        have hjl : j < us.length := (List.getElem?_eq_some_iff.mp huj).1
        have hui' : UnIs [PL, p, U] He x u := hui.keep ke fun b hb => by rw [List.mem_singleton.mp hb]; exact .inr ⟨⟨_, ePL⟩, by simp⟩
        have hde := ke _ _ hd2 (by simp [Ne.symm nPLd])
        clear hui
        cases u with
        | cell c =>
          obtain ⟨a, rfl, ha⟩ := hui'
          repeat walk_at "na"
          refine ⟨dp, .int 1, rfl, DGet.k (k := .inr "cell") hde, ?_⟩
          repeat walk_at "na"
          refine rd_ixL (SqL.of hPe) (plcTo_last us j) ?_
          repeat walk_at "na"
          refine rd_appendG hPe (Nat.lt_of_le_of_lt (show _ ≤ 1000 by simp [plcTo]; omega) (by decide)) fun H3 e3 => ?_
          repeat walk_at "na"
          exact ⟨by rw [e3]; exact Keep.put ke (.inl (by simp)), by rw [e3, upd_same, plcTo_succ, plc_succ huj]; simp [unSize]⟩
        | jump b q l =>
          obtain ⟨a, rfl, ha⟩ := hui'
          repeat walk_at "na"
          refine ⟨dp, .int 1, rfl, DGet.k (k := .inr "jump") hde, ?_⟩
          repeat walk_at "na"
          refine rd_ixL (SqL.of hPe) (plcTo_last us j) ?_
          repeat walk_at "na"
          refine rd_appendG hPe (Nat.lt_of_le_of_lt (show _ ≤ 1000 by simp [plcTo]; omega) (by decide)) fun H3 e3 => ?_
          repeat walk_at "na"
          exact ⟨by rw [e3]; exact Keep.put ke (.inl (by simp)), by rw [e3, upd_same, plcTo_succ, plc_succ huj]; simp [unSize]⟩
        | long c q =>
          obtain ⟨a, rfl, ha⟩ := hui'
          repeat walk_at "na"
          refine ⟨dp, .int 2, rfl, DGet.k (k := .inr "long") hde, ?_⟩
          repeat walk_at "na"
          refine rd_ixL (SqL.of hPe) (plcTo_last us j) ?_
          repeat walk_at "na"
          refine rd_appendG hPe (Nat.lt_of_le_of_lt (show _ ≤ 1000 by simp [plcTo]; omega) (by decide)) fun H3 e3 => ?_
          repeat walk_at "na"
          exact ⟨by rw [e3]; exact Keep.put ke (.inl (by simp)), by rw [e3, upd_same, plcTo_succ, plc_succ huj]; simp [unSize]⟩
        | great r =>
          obtain ⟨a, rfl, ha⟩ := hui'
          repeat walk_at "na"
          refine ⟨dp, .int 2, rfl, DGet.k (k := .inr "great") hde, ?_⟩
          repeat walk_at "na"
          refine rd_ixL (SqL.of hPe) (plcTo_last us j) ?_
          repeat walk_at "na"
          refine rd_appendG hPe (Nat.lt_of_le_of_lt (show _ ≤ 1000 by simp [plcTo]; omega) (by decide)) fun H3 e3 => ?_
          repeat walk_at "na"
          exact ⟨by rw [e3]; exact Keep.put ke (.inl (by simp)), by rw [e3, upd_same, plcTo_succ, plc_succ huj]; simp [unSize]⟩
        | pool ns =>
          obtain ⟨a, N, rfl, ha, hN, nN⟩ := hui'
          have sN : SqL K He N (ns.map V.int) := SqL.of hN
          repeat walk_at "na"
          rw [List.length_map]
          refine rd_ixL (SqL.of hPe) (plcTo_last us j) ?_
          repeat walk_at "na"
          refine rd_appendG hPe (Nat.lt_of_le_of_lt (show _ ≤ 1000 by simp [plcTo]; omega) (by decide)) fun H3 e3 => ?_
          repeat walk_at "na"
          exact ⟨by rw [e3]; exact Keep.put ke (.inl (by simp)), by rw [e3, upd_same, plcTo_succ, plc_succ huj]; simp [unSize]⟩
--END2
      · rintro σ He ⟨v13, v14, rfl, ke, hPe⟩
        have hUe := ke _ _ hU2 (by simp [Ne.symm nPLU])
        have hpe : Paired (UnIs [PL, p, U] He) vs us := UnIs.keeps hp2 ke fun b hb => by rw [List.mem_singleton.mp hb]; exact .inr ⟨⟨_, ePL⟩, by simp⟩
        have te : Tape He p (n0 + 1 + 30 * (M : Int)) := by
          obtain ⟨a, b, c, hp', r1, r2, r3, r4, r5⟩ := t2
          exact ⟨a, b, c, ke _ _ hp' (by simp [Ne.symm nPLp]), r1, r2, r3, r4, by omega⟩
        have kke : Keep [p] H He := fun b o h nb => ke _ _ (kk2 _ _ h nb) (by simp; intro e; rw [e, hPLH] at h; cases h)
        rw [hlen] at hPe
        clear hp2 ePL hU2 hd2 t2 ke kk2
        repeat walk_at "na"
        refine ⟨U, vs, rfl, SqL.of hUe, fun c D hD => comp_enum (xs := vs) (fun j σ Hd => ∃ v0 v1 pvs pps, σ = [v0, v1, some (.ref PL)] ∧ Keep [] He Hd ∧ Hd D = some (.lst pvs) ∧ Paired (PlD D p Hd) pvs pps ∧ pps.length ≤ j) ?_ ?_ ?_ ?_⟩
        · exact ⟨_, _, [], [], rfl, Keep.new (Keep.refl _ _) hD, upd_same, .nil, Nat.le_refl _⟩
        · rintro j σ Hd ⟨v0, v1, pvs, pps, rfl, kd, _⟩
          exact SqL.of (kd _ _ hUe (by simp))
        · rintro j σ Hd x T' hx ⟨v0, v1, pvs, pps, rfl, kd, hDd, hpps, hppl⟩ hT R hR
          obtain ⟨x', u, hx', huj, hui⟩ := Paired.getL hpe (j := j) (List.getElem?_eq_some_iff.mp hx).1
          rw [hx] at hx'
          cases hx'
          have hjl : j < us.length := (List.getElem?_eq_some_iff.mp huj).1
          have kT : Keep [] Hd (upd Hd T' (.tup [.int j, x])) := Keep.new (Keep.refl _ _) hT
          have hTs : (upd Hd T' (.tup [.int j, x])) T' = some (.tup [.int j, x]) := upd_same
          generalize upd Hd T' (.tup [.int j, x]) = H3 at kT hTs ⊢
          have kd2 : Keep [] He H3 := kd.trans kT
          have hui' : UnIs [D, PL, p, U] H3 x u := (hui.more hD).keep kd2 fun b hb => by cases hb
          have hD2 := kT _ _ hDd (by simp)
          have hpp2 : Paired (PlD D p H3) pvs pps := Paired.mapP hpps fun _ _ r => r.keep0 kT
          have huk := huo u (List.mem_of_getElem? huj)
          have hPe3 := kd2 _ _ hPe (by simp)
          clear hui hpps hDd kT hT kd
          refine rd_gtup (SqT.of hTs) rfl ?_
          cases u with
          | cell c =>
            obtain ⟨a, rfl, ha⟩ := hui'
            repeat walk_at "na"
            exact hR _ _ ⟨_, _, pvs, pps, rfl, kd2, hD2, hpp2, by omega⟩
          | jump b q l =>
            obtain ⟨a, rfl, ha⟩ := hui'
            repeat walk_at "na"
            exact hR _ _ ⟨_, _, pvs, pps, rfl, kd2, hD2, hpp2, by omega⟩
          | long c q =>
            obtain ⟨a, rfl, ha⟩ := hui'
            repeat walk_at "na"
            exact hR _ _ ⟨_, _, pvs, pps, rfl, kd2, hD2, hpp2, by omega⟩
          | great r =>
            obtain ⟨a, rfl, ha⟩ := hui'
            repeat walk_at "na"
            exact hR _ _ ⟨_, _, pvs, pps, rfl, kd2, hD2, hpp2, by omega⟩
          | pool ns =>
            obtain ⟨a, N, rfl, ha, hN, nN⟩ := hui'
            repeat walk_at "na"
            refine rd_ixL (SqL.of hPe3) (plc_at (us := us) (j := j) (by omega)) ?_
            repeat walk_at "na"
            rename_i B hB
            have kB : Keep [] H3 (upd H3 B (.tup [V.int ((plc us j : Int) + 3), V.ref N])) := Keep.new (Keep.refl _ _) hB
            have eB : (upd H3 B (.tup [V.int ((plc us j : Int) + 3), V.ref N])) B = some (.tup [V.int ((plc us j : Int) + 3), V.ref N]) := upd_same
            have nND : N ≠ D := fun e => nN (by simp [e])
            generalize upd H3 B (.tup [V.int ((plc us j : Int) + 3), V.ref N]) = H4 at kB eB ⊢
            have hD4 := kB _ _ hD2 (by simp)
            have kP : Keep [D] H4 (upd H4 D (.lst (pvs ++ [V.ref B]))) := Keep.put (Keep.refl _ _) (.inl (by simp))
            have hpl9 := plc_small huo j
            have hpvl : pvs.length ≤ 1000 := by rw [Paired.length hpp2]; omega
            refine ⟨pvs, hD4, Nat.lt_of_le_of_lt hpvl (by decide), hR _ _ ⟨_, _, pvs ++ [V.ref B], pps ++ [⟨(plc us j : Int) + 3, ns⟩], rfl, Keep.put (kd2.trans kB) (.inr hD), upd_same, Paired.app (Paired.mapP hpp2 fun _ _ r => (r.keep0 kB).put kP ⟨_, hD4⟩) (.cons (PlD.put ⟨B, N, rfl, eB, kB _ _ hN (by simp), ?_, nND, ?_⟩ kP ⟨_, hD4⟩) .nil), by simp; omega⟩⟩
            · intro e; exact nN (by simp [e])
            · exact ⟨by dsimp only; omega, by dsimp only; omega, huk.1, huk.2.1⟩
        · rintro σ Hd ⟨v0, v1, pvs, pps, rfl, kd, hDd, hpps, hppl⟩
          have hUd := kd _ _ hUe (by simp)
          have hPd := kd _ _ hPe (by simp)
          have hpd : Paired (UnIs [PL, p, U] Hd) vs us := UnIs.keeps hpe kd fun b hb => by cases hb
          have td := te.keep' kd
          have kkd : Keep [p] H Hd := kke.trans fun b o h _ => kd b o h (by simp)
          have nDp : D ≠ p := Tape.ne te hD
          have hDH : H D = none := kke.free hD (by simp [nDp])
          rw [hlen] at hppl
          clear hpe te kke kd hD hUe hPe
          repeat walk_at "na"
          rename_i C0 hC0
          have kC : Keep [] Hd (upd Hd C0 (.lst [])) := Keep.new (Keep.refl _ _) hC0
          have eC : (upd Hd C0 (.lst [])) C0 = some (.lst (([] : List Int).map V.int)) := upd_same
          have nC0 : C0 ≠ p := Tape.ne td hC0
          generalize upd Hd C0 (.lst []) = H5 at kC eC ⊢
          have hU5 := kC _ _ hUd (by simp)
          have hP5 := kC _ _ hPd (by simp)
          have hD5 := kC _ _ hDd (by simp)
          have hp5 : Paired (UnIs [PL, p, U] H5) vs us := UnIs.keeps hpd kC fun b hb => by cases hb
          have hl5 : Paired (PlIs p H5) pvs pps := Paired.mapP hpps fun _ _ r => (r.keep0 kC).is
          have t5 := td.keep' kC
          have kk5 : Keep [p] H H5 := kkd.trans fun b o h _ => kC b o h (by simp)
          clear hpd hpps hDd hPd hUd td kkd kC hC0
          refine ⟨U, vs, rfl, SqL.of hU5, for_enum (xs := vs) (fun j σ Hf => ∃ C cs v13 v17, σ = [some (.ref p), some (.ref U), some (.int (M : Int)), v3, v4, v5, v6, v7, v8, v9, v10, some (.ref dp), some (.ref PL), v13, v14, some (.ref D), some (.ref C), v17] ∧ Keep [p] H5 Hf ∧ Tape Hf p (n0 + 1 + 30 * (M : Int) + 2 * (j : Int)) ∧ Hf C = some (.lst (cs.map V.int)) ∧ C ≠ p ∧ Laid us j cs) ⟨C0, [], _, _, rfl, Keep.refl _ _, t5.le (by omega), eC, nC0, .nil⟩ ?_ ?_ ?_⟩
          · rintro j σ Hf _ ⟨C, cs, v13, v17, rfl, kf, _⟩
            exact SqL.of (kf _ _ hU5 (by simp [nU]))
          · rintro j x T' σ Hf hx ⟨C, cs, v13, v17, rfl, kf, tf, hCf, nC, hLd⟩ hT
            obtain ⟨x', u, hx', huj, hui⟩ := Paired.getL hp5 (j := j) (List.getElem?_eq_some_iff.mp hx).1
            rw [hx] at hx'
            cases hx'
            have hjl : j < us.length := (List.getElem?_eq_some_iff.mp huj).1
            have hM2 : us.length = M := by omega
            have kT : Keep [] Hf (upd Hf T' (.tup [.int j, x])) := Keep.new (Keep.refl _ _) hT
            have hTs : (upd Hf T' (.tup [.int j, x])) T' = some (.tup [.int j, x]) := upd_same
            generalize upd Hf T' (.tup [.int j, x]) = H6 at kT hTs ⊢
            have k56 : Keep [p] H5 H6 := kf.trans fun b o h _ => kT b o h (by simp)
            have t6 := tf.keep' kT
            have hC6 := kT _ _ hCf (by simp)
            have hP6 := k56 _ _ hP5 (by simp [nPLp])
            have hD6 := k56 _ _ hD5 (by simp [nDp])
            have hl6 : Paired (PlIs p H6) pvs pps := Paired.mapP hl5 fun _ _ r => r.keep k56 t5.lst
            have hu6 : UnIs [p] H6 x u := (hui.less (S' := [p]) (by simp)).keep k56 fun b hb => by rw [List.mem_singleton.mp hb]; exact .inr ⟨t5.lst, by simp⟩
            have huk := huo u (List.mem_of_getElem? huj)
            have hcl2 := hLd.len
            have hpl9 := plc_small huo j
            clear hui kT hT kf tf hCf
            refine rd_gtup (SqT.of hTs) rfl ?_
            repeat walk_at "na"
            refine ⟨p, PL, D, _, x, us, u, j, pvs, pps, rfl, t6, by omega, huj, hu6, by rw [hM2]; exact huk, by omega, hP6, nPLp, hD6, nDp, hl6, by omega, fun cl bs H7 k7 t7 hcl ncl hbs => ?_⟩
            have hbl := hbs.len
            have hus := unSize_small huk
            have hC7 := k7 _ _ hC6 (by simp [nC])
            repeat walk_at "ns"
            refine rd_cat hC7 hcl (Nat.le_trans (show _ ≤ 1000 by simp only [List.length_map]; omega) (by decide)) fun C2 hC2 => ?_
            have nC2 : C2 ≠ p := Tape.ne t7 hC2
            repeat walk_at "na"
            exact ⟨C2, cs ++ bs, _, _, rfl, Keep.new (k56.trans k7) hC2, (t7.new hC2).le (by omega), by rw [upd_same, List.map_append], nC2, .step hLd huj hbs⟩
          · rintro σ Hf ⟨C, cs, v13, v17, rfl, kf, tf, hCf, nC, hLd⟩
            rw [hlen] at hLd
            repeat walk_at "na"
            have hM2 : us.length = M := by omega
            exact q C cs us Hf (kk5.trans kf) (tf.le (by omega)) hCf nC (by omega) (by rw [hM2]; exact huo) hLd

/-! ### the law of typed cells -/
theorem mrun_small (cs : List Int) : ∀ (n : Nat) (g : List Int) (p : Int), (mrun cs n g p).1.length ≤ n ∧ (mrun cs n g p).2.2.length ≤ n := by
  intro n
  induction n with
  | zero => intro g p; exact ⟨Nat.le_refl _, Nat.le_refl _⟩
  | succ n ih =>
    intro g p
    cases e : rowS cs p with
    | none => rw [mrun_end (.inr e)]; exact ⟨Nat.zero_le _, Nat.zero_le _⟩
    | some x =>
      obtain ⟨th, nxt⟩ := x
      by_cases hs : th = .row .stop
      · subst hs
        rw [mrun_stop e]; exact ⟨Nat.zero_le _, by simp⟩
      · rw [mrun_row e hs]
        have h := ih (reckT th g) (pastS cs (if jumpsT (reckT th g) th then goalT th else nxt))
        have h2 := saysT_len g th
        simp only [List.length_append, List.length_cons]
        omega
theorem canLay_ints (ns : List Int) : (PyData.list (ns.map PyData.int)).canLay0 = true := by
  have a : ∀ ns : List Int, PyData.canLayAll0 (ns.map PyData.int) = true := fun ns => by
    induction ns with
    | nil => rfl
    | cons n ns ih => simp only [List.map_cons, PyData.canLayAll0, PyData.canLay0, Bool.true_and]; exact ih
  simp only [PyData.canLay0]; exact a ns
theorem run_dok (told tr : List Int) (h1 : told.length ≤ 1000) (h2 : tr.length ≤ 1000) (E : Str) : DOk 2 (.tuple [.list (told.map PyData.int), .str E, .list (tr.map PyData.int)]) := by
  refine ⟨by show 3 ≤ 100000; decide, fun d hd => ?_⟩
  simp only [List.mem_cons, List.not_mem_nil, or_false] at hd
  rcases hd with rfl | rfl | rfl
  · exact ints_ok 0 _ (by omega)
  · trivial
  · exact ints_ok 0 _ (by omega)
theorem ints_shaped (ns : List Int) : SeqAt.shaped (.list (ns.map PyData.int)) = true := by
  have a : ∀ ns : List Int, PyData.canLayAll0 (ns.map PyData.int) = true := fun ns => by
    induction ns with
    | nil => rfl
    | cons n ns ih => simp only [List.map_cons, PyData.canLayAll0, PyData.canLay0, Bool.true_and]; exact ih
  have b : ∀ ns : List Int, PyData.depthAll (ns.map PyData.int) = 0 := fun ns => by
    induction ns with
    | nil => rfl
    | cons n ns ih => simp only [List.map_cons, PyData.depthAll, PyData.depth]; rw [ih]; rfl
  unfold SeqAt.shaped
  rw [Bool.and_eq_true]
  exact ⟨by simp only [PyData.canLay0]; exact a ns, decide_eq_true (by simp only [PyData.depth]; rw [b]; decide)⟩
theorem rd_clear {H : Hp} {Q : VK} {l : Addr} {xs : List V} (h : H l = some (.lst xs)) (q : Q .non (upd H l (.lst []))) : rClear (.ref l) [] H Q := ⟨l, xs, rfl, rfl, h, q⟩
theorem steps_nil : Steps [] (fun _ => True) := ⟨trivial, fun p q n _ h => by have := seenT_in h; simp at this; omega, fun p th n _ h => by
  have hs : seenT [] p = none := seenT_off (by simp; omega)
  unfold rowS at h
  rw [hs] at h
  cases h⟩
theorem ok_law (T : Txt K mg t) : FnOk P w K mg base CX0 8 t.f_law t.d_law ["_law_script"] (spLaw K) := by
  have G_tape := ok_tape (P := P) (w := w) (base := base) T
  have G_take := ok_take (P := P) (w := w) (base := base) T
  have G_typed := ok_typed (P := P) (w := w) (base := base) T
  have G_machine := ok_machine (P := P) (w := w) (base := base) T
  have G_run := ok_run (P := P) (w := w) (base := base) T
  have G_same := ok_same (P := P) (w := w) (base := base) T 2
  refine T.F_law.ok sc_law (fun vs H Q E h => ?_) (fun cdv A outer s H vs Q E hr h => ?_)
  · obtain ⟨a, ns, rfl, _⟩ := h
    rfl
  · obtain ⟨a, ns, rfl, hS, hlen, q⟩ := h
    have hu := hr.units
    refine ⟨_, (@pss_cons _ _ _ _ _ (ps_for PassesOwn.never rfl (pi_range1 rfl T.m_range (@pa_cons _ _ _ _ _ (@pe_op _ _ _ _ _ _ _ _ op_add pe_int (@pe_callB _ _ _ _ _ _ _ _ _ (call_min2 rfl) rfl T.m_min bt_min (@pa_cons _ _ _ _ _ pe_int (@pa_cons _ _ _ _ _ (@pe_callB _ _ _ _ _ _ _ _ _ call_len_seq rfl T.m_len bt_len (@pa_cons _ _ _ _ _ (pv 0) pa_nil (by rfl)) (by decide) (by first | rfl | decide) (by rfl) (by rfl)) pa_nil (by rfl)) (by rfl)) (by decide) (by first | rfl | decide) (by rfl) (by rfl))) pa_nil (by rfl))) (pg_name (i := 1) sc_law.nd rfl (Or.inl rfl))
        (@pss_cons _ _ _ _ _ (@ps_set _ _ 2 _ _ _ _ sc_law.nd rfl (Or.inl rfl) (@pe_call _ _ _ _ _ _ _ _ _ _ _ _ _ _ _ _ G_tape (hr.mono (by first | decide | omega)) rfl T.m_tape T.F_tape.kp T.b_tape .nil pass0 (@pa_cons _ _ _ _ _ (pv 0) (@pa_cons _ _ _ _ _ (pv 1) pa_nil (by rfl)) (by rfl)) (by first | rfl | decide) (by rfl) (by rfl)) (by rfl) (by first | exact Or.inl rfl | exact Or.inr rfl | assumption))
      (@pss_cons _ _ _ _ _ (@ps_set _ _ 3 _ _ _ _ sc_law.nd rfl (Or.inl rfl) (@pe_call _ _ _ _ _ _ _ _ _ _ _ _ _ _ _ _ G_typed (hr.mono (by first | decide | omega)) rfl T.m_typed T.F_typed.kp T.b_typed .nil pass0 (@pa_cons _ _ _ _ _ (pv 2) pa_nil (by rfl)) (by first | rfl | decide) (by rfl) (by rfl)) (by rfl) (by first | exact Or.inl rfl | exact Or.inr rfl | assumption))
      (@pss_cons _ _ _ _ _ (@ps_set _ _ 4 _ _ _ _ sc_law.nd rfl (Or.inl rfl) (@pe_callTy _ _ _ _ _ _ _ _ _ call_list_of rfl T.m_list bt_list (@pa_cons _ _ _ _ _ (pv 3) pa_nil (by rfl)) (by decide) (by first | rfl | decide) (by rfl) (by rfl)) (by rfl) (by first | exact Or.inl rfl | exact Or.inr rfl | assumption))
      (@pss_one _ _ _ (ps_for PassesOwn.never rfl (pi_list (@pe_lst _ _ _ _ (@pa_cons _ _ _ _ _ pe_int (@pa_cons _ _ _ _ _ pe_int (@pa_cons _ _ _ _ _ (@pe_call _ _ _ _ _ _ _ _ _ _ _ _ _ _ _ _ G_take (hr.mono (by first | decide | omega)) rfl T.m_take T.F_take.kp T.b_take .nil pass0 (@pa_cons _ _ _ _ _ (pv 2) (@pa_cons _ _ _ _ _ pe_int pa_nil (by rfl)) (by rfl)) (by first | rfl | decide) (by rfl) (by rfl)) (@pa_cons _ _ _ _ _ (@pe_call _ _ _ _ _ _ _ _ _ _ _ _ _ _ _ _ G_take (hr.mono (by first | decide | omega)) rfl T.m_take T.F_take.kp T.b_take .nil pass0 (@pa_cons _ _ _ _ _ (pv 2) (@pa_cons _ _ _ _ _ pe_int pa_nil (by rfl)) (by rfl)) (by first | rfl | decide) (by rfl) (by rfl)) (@pa_cons _ _ _ _ _ pe_int pa_nil (by rfl)) (by rfl)) (by rfl)) (by rfl)) (by rfl)))) (pg_name (i := 5) sc_law.nd rfl (Or.inl rfl))
        (@pss_cons _ _ _ _ _ (@ps_set _ _ 6 _ _ _ _ sc_law.nd rfl (Or.inl rfl) (@pe_call _ _ _ _ _ _ _ _ _ _ _ _ _ _ _ _ G_machine (hr.mono (by first | decide | omega)) rfl T.m_machine T.F_machine.kp T.b_machine .nil pass0 (@pa_cons _ _ _ _ _ (pv 3) (@pa_cons _ _ _ _ _ (pv 5) pa_nil (by rfl)) (by rfl)) (by first | rfl | decide) (by rfl) (by rfl)) (by rfl) (by first | exact Or.inl rfl | exact Or.inr rfl | assumption))
      (@pss_one _ _ _ (ps_for PassesOwn.never rfl (pi_range1 rfl T.m_range (@pa_cons _ _ _ _ _ pe_int pa_nil (by rfl))) (pg_name (i := 7) sc_law.nd rfl (Or.inl rfl))
        (@pss_cons _ _ _ _ _ (@ps_set _ _ 8 _ _ _ _ sc_law.nd rfl (Or.inl rfl) (@pe_call _ _ _ _ _ _ _ _ _ _ _ _ _ _ _ _ G_run (hr.mono (by first | decide | omega)) rfl T.m_run T.F_run.kp T.b_run .nil pass0 (@pa_cons _ _ _ _ _ (pv 3) (@pa_cons _ _ _ _ _ (pv 5) pa_nil (by rfl)) (by rfl)) (by first | rfl | decide) (by rfl) (by rfl)) (by rfl) (by first | exact Or.inl rfl | exact Or.inr rfl | assumption))
      (@pss_cons _ _ _ _ _ (@ps_if _ _ _ _ _ _ _ _ (PW.pt (pw_or (pt_not (pt_val (@pe_call _ _ _ _ _ _ _ _ _ _ _ _ _ _ _ _ G_same (hr.mono (by first | decide | omega)) rfl T.m_same T.F_same.kp T.b_same .nil pass0 (@pa_cons _ _ _ _ _ (pv 8) (@pa_cons _ _ _ _ _ (pv 6) pa_nil (by rfl)) (by rfl)) (by first | rfl | decide) (by rfl) (by rfl)))) (pw_or1 (@pt_cmpR _ _ _ _ _ _ _ _ (op_neD hu) (pv 3) (pv 4) (nomark _)))))
        (@pss_one _ _ _ (ps_ret pe_bl))
        pss_nil)
      (@pss_cons _ _ _ _ _ (ps_expr (pe_bm PySem.F.plainAttrs_list PySem.F.slot_list_append PySem.F.type_list_append mt_append (@pe_ix _ _ _ _ _ _ _ ix_tup (pv 8) pe_int (fun _ _ => rfl)) (@pa_cons _ _ _ _ _ pe_int pa_nil (by rfl))))
      (@pss_one _ _ _ (ps_expr (pe_bm0 PySem.F.plainAttrs_list PySem.F.slot_list_clear PySem.F.type_list_clear mt_clear (@pe_ix _ _ _ _ _ _ _ ix_tup (pv 8) pe_int (fun _ _ => rfl)))))))))))))))))
      (@pss_one _ _ _ (ps_ret (@pe_cmpR _ _ _ _ _ _ _ _ (op_eqD hu) (@pe_call _ _ _ _ _ _ _ _ _ _ _ _ _ _ _ _ G_run (hr.mono (by first | decide | omega)) rfl T.m_run T.F_run.kp T.b_run .nil pass0 (@pa_cons _ _ _ _ _ (@pe_lst _ _ _ _ pa_nil) (@pa_cons _ _ _ _ _ pe_int pa_nil (by rfl)) (by rfl)) (by first | rfl | decide) (by rfl) (by rfl)) (@pe_tup _ _ _ _ _ (@pa_cons _ _ _ _ _ (@pe_lst _ _ _ _ pa_nil) (@pa_cons _ _ _ _ _ pe_str (@pa_cons _ _ _ _ _ (@pe_lst _ _ _ _ pa_nil) pa_nil (by rfl)) (by rfl)) (by rfl))) (nomark _))))), ?_⟩
    repeat walk_at "na"
    refine ⟨by split <;> omega, by split <;> omega, for_range (lo := 0) (fun i σ Hc => ∃ v1 v2 v3 v4 v5 v6 v7 v8, σ = [some (.ref a), v1, v2, v3, v4, v5, v6, v7, v8] ∧ Keep [] H Hc) ⟨_, _, _, _, _, _, _, _, rfl, Keep.refl _ _⟩ ?_ ?_⟩
    · rintro i σ Hc hi ⟨v1, v2, v3, v4, v5, v6, v7, v8, rfl, kc⟩
      have hi' : (i : Int) ≤ 100 := by
        have : (1 + if ((List.map V.int ns).length : Int) < 6 then ((List.map V.int ns).length : Int) else 6).toNat ≤ 100 := by split <;> omega
        omega
      repeat walk_at "na"
      refine ⟨a, ns, _, rfl, keep_sqL kc hS, by omega, by omega, fun p H1 np k1 T1 => ?_⟩
      repeat walk_at "na"
      refine ⟨p, _, rfl, T1, by omega, fun cl cs us H2 k2 T2 hcl ncl hul huo hLd => ?_⟩
      have hpl := plc_small huo
      have hcl2 : cs.length ≤ 200 := by have := hLd.len; have := (hpl us.length).2; omega
      have hcc := hLd.mem huo fun j => by have := (hpl j).2; omega
      have hst := hLd.steps huo (Nat.le_refl _)
      have kc2 : Keep [] Hc H2 := Keep.weaken k1 k2 np
      have scl : SqL K H2 cl (cs.map V.int) := SqL.of hcl
      clear hpl hLd huo hul
      repeat walk_at "ns"
      intro kp hkp
      have k23 : Keep [] H2 (upd H2 kp (.lst (cs.map V.int))) := Keep.new (Keep.refl _ _) hkp
      have g3 : (upd H2 kp (.lst (cs.map V.int))) kp = some (.lst (cs.map V.int)) := upd_same
      have hcl3 := k23 _ _ hcl (by simp)
      have T3 := T2.keep' k23
      have nkp : kp ≠ p := T2.ne hkp
      have kc3 := kc2.trans k23
      generalize upd H2 kp (.lst (cs.map V.int)) = H3 at *
      clear scl k2 T2 hkp k23 hcl k1 T1
      repeat walk_at "ns"
      refine ⟨p, _, _, rfl, T3, by omega, by first | decide | omega, by first | decide | omega, fun x1 H4 x10 x11 T4 K4 _ => ?_⟩
      repeat walk_at "ns"
      refine ⟨p, _, _, rfl, T4, by omega, by first | decide | omega, by first | decide | omega, fun x2 H5 x20 x21 T5 K5 _ => ?_⟩
      have K35 := K4.trans K5
      have hcl5 := K35 _ _ hcl3 (by simp [ncl])
      have g5 := K35 _ _ g3 (by simp [nkp])
      have kc5 : Keep [] Hc H5 := Keep.weaken kc3 K35 np
      clear K4 K5 K35 T4 T3 kc3 kc2 g3 hcl3
      repeat walk_at "ns"
      refine ⟨small2 (by simp), fun LM hLM => ?_⟩
      have k56 : Keep [] H5 (upd H5 LM (.lst [V.int 0, V.int 1, V.int x1, V.int x2, V.int 200])) := Keep.new (Keep.refl _ _) hLM
      have g6 : (upd H5 LM (.lst [V.int 0, V.int 1, V.int x1, V.int x2, V.int 200])) LM = some (.lst [V.int 0, V.int 1, V.int x1, V.int x2, V.int 200]) := upd_same
      have hcl6 := k56 _ _ hcl5 (by simp)
      have gk6 := k56 _ _ g5 (by simp)
      have kc6 := kc5.trans k56
      generalize upd H5 LM (.lst [V.int 0, V.int 1, V.int x1, V.int x2, V.int 200]) = H6 at *
      repeat walk_at "ns"
      refine ⟨⟨_, SqL.of g6⟩, for_list (xs := [V.int 0, V.int 1, V.int x1, V.int x2, V.int 200]) (fun j σ He => ∃ v5 v6 v7 v8, σ = [some (.ref a), some (.int (0 + i)), some (.ref p), some (.ref cl), some (.ref kp), v5, v6, v7, v8] ∧ Keep [] H6 He) ⟨_, _, _, _, rfl, Keep.refl _ _⟩ ?_ ?_ ?_⟩
      · rintro j σ He _ ⟨v5, v6, v7, v8, rfl, ke⟩
        exact SqL.of (ke _ _ g6 (by simp))
      · rintro j x σ He hx ⟨v5, v6, v7, v8, rfl, ke⟩
        obtain ⟨mo, rfl, hmo⟩ : ∃ mo : Nat, x = .int (mo : Int) ∧ mo ≤ 200 := by
          have hm := List.mem_of_getElem? hx
          simp only [List.mem_cons, List.not_mem_nil, or_false] at hm
          rcases hm with rfl | rfl | rfl | rfl | rfl
          · exact ⟨0, rfl, by omega⟩
          · exact ⟨1, rfl, by omega⟩
          · exact ⟨x1.toNat, by rw [Int.toNat_of_nonneg x10], by omega⟩
          · exact ⟨x2.toNat, by rw [Int.toNat_of_nonneg x20], by omega⟩
          · exact ⟨200, rfl, by omega⟩
        repeat walk_at "ns"
        refine ⟨cl, cs, _, (mo : Int), rfl, ke _ _ hcl6 (by simp), by omega, hcc, hst, by omega, by omega, fun du H7 k7 hrun => ?_⟩
        obtain ⟨dtl, dwl, hdu, hdtl, hdwl, _⟩ := hrun
        rw [Int.toNat_natCast] at hdu hdtl hdwl
        have ke7 := ke.trans k7
        have hcl7 := ke7 _ _ hcl6 (by simp)
        have gk7 := ke7 _ _ gk6 (by simp)
        clear ke k7 hx
        repeat walk_at "ns"
        refine ⟨by decide, by decide, for_range (lo := 0) (fun l σ Hf => ∃ v7 v8, σ = [some (.ref a), some (.int (0 + i)), some (.ref p), some (.ref cl), some (.ref kp), some (.int (mo : Int)), some (.ref du), v7, v8] ∧ Keep [] H7 Hf) ⟨_, _, rfl, Keep.refl _ _⟩ ?_ ?_⟩
        · rintro l σ Hf hl ⟨v7, v8, rfl, kf⟩
          repeat walk_at "ns"
          refine ⟨cl, cs, _, (mo : Int), rfl, kf _ _ hcl7 (by simp), by omega, hst, by omega, by omega, fun f H13 k13 hrun => ?_⟩
          obtain ⟨ftl, fwl, hf, hftl, hfwl, nf, nftl, nfwl, nft⟩ := hrun
          rw [Int.toNat_natCast] at hf hftl hfwl
          obtain ⟨sm1, sm2⟩ := mrun_small cs mo [0, 0, 0, 0, 0] (pastS cs 0)
          have hdi := kf _ _ hdu (by simp)
          have htli := kf _ _ hdtl (by simp)
          have hwli := kf _ _ hdwl (by simp)
          generalize mrun cs mo [0, 0, 0, 0, 0] (pastS cs 0) = zz at *
          repeat walk_at "ns"
          refine ⟨_, _, .tuple [.list (zz.1.map PyData.int), .str zz.2.1, .list (zz.2.2.map PyData.int)], rfl, .tup (SqT.of hf) (.cons (.lst (SqL.of hftl) (DtAll.ints _)) (.cons (.str _) (.cons (.lst (SqL.of hfwl) (DtAll.ints _)) .nil))),
            .tup (SqT.of (k13 _ _ hdi (by simp))) (.cons (.lst (SqL.of (k13 _ _ htli (by simp))) (DtAll.ints _)) (.cons (.str _) (.cons (.lst (SqL.of (k13 _ _ hwli (by simp))) (DtAll.ints _)) .nil))), run_dok _ _ (by omega) (by omega) _, fun H14 k14 => ?_⟩
          have hf14 := k14 _ _ hf (by simp)
          have hftl14 := k14 _ _ hftl (by simp)
          have hfwl14 := k14 _ _ hfwl (by simp)
          have k714 := (kf.trans k13).trans k14
          repeat walk_at "ns"
          refine ⟨_, _, .lst (SqL.of (k714 _ _ hcl7 (by simp))) (DtAll.ints cs), .lst (SqL.of (k714 _ _ gk7 (by simp))) (DtAll.ints cs), ints_shaped cs, ints_shaped cs, ?_⟩
          rw [eqv_refl _ (canLay_ints cs)]
          repeat walk_at "ns"
          refine rd_appendG hftl14 (by rw [List.length_map]; exact Nat.lt_of_le_of_lt (show _ ≤ 1000 by omega) (by decide)) fun H15 e15 => ?_
          have hf15 : H15 f = some (.tup [.ref ftl, .str zz.2.1, .ref fwl]) := by rw [e15, upd_ne (ne_of hf14 hftl14 (by intro z; cases z))]; exact hf14
          have hfwl15 : H15 fwl = some (.lst (zz.2.2.map V.int)) := by rw [e15, upd_ne (Ne.symm nft)]; exact hfwl14
          have k15 : Keep [] Hf H15 := by rw [e15]; exact Keep.put (k13.trans k14) (.inr nftl)
          repeat walk_at "ns"
          refine rd_clear hfwl15 ?_
          exact ⟨_, _, rfl, kf.trans (Keep.put k15 (.inr nfwl))⟩
        · rintro σ Hf ⟨v7, v8, rfl, kf⟩
          repeat walk_at "ns"
          exact ⟨_, _, _, _, rfl, ke7.trans kf⟩
      · rintro σ He ⟨v5, v6, v7, v8, rfl, ke⟩
        repeat walk_at "ns"
        exact ⟨_, _, _, _, _, _, _, _, rfl, kc.trans (kc6.trans ke)⟩
    · rintro σ Hc ⟨v1, v2, v3, v4, v5, v6, v7, v8, rfl, kc⟩
      repeat walk_at "na"
      rename_i cA hcA
      refine ⟨cA, [], fun _ => True, 0, rfl, upd_same, by simp, steps_nil, by decide, by decide, fun fA HA kA hrun => ?_⟩
      obtain ⟨tlA, wlA, hfA, htlA, hwlA, _⟩ := hrun
      have zA : mrun [] (0 : Int).toNat [0, 0, 0, 0, 0] (pastS [] 0) = ([], Str.ofString "ended", []) := by decide +kernel
      rw [zA] at hfA htlA hwlA
      repeat walk_at "na"
      rename_i b1A hb1A b2A hb2A b3A hb3A
      refine ⟨.tuple [.list [], .str "ended", .list []], .tuple [.list [], .str "ended", .list []], .tup (SqT.of (by walk_at "look")) (.cons (.lst (SqL.of (xs := []) (by walk_at "look")) .nil) (.cons (.str _) (.cons (.lst (SqL.of (xs := []) (by walk_at "look")) .nil) .nil))),
        .tup (SqT.of (by walk_at "look")) (.cons (.lst (SqL.of (xs := []) (by walk_at "look")) .nil) (.cons (.str _) (.cons (.lst (SqL.of (xs := []) (by walk_at "look")) .nil) .nil))), by decide +kernel, by decide +kernel, ?_⟩
      rw [show PyData.eqv (.tuple [.list [], .str "ended", .list []]) (.tuple [.list [], .str "ended", .list []]) = true by decide +kernel]
      exact q _
end
theorem ln1 {α : Type} {l : List α} (h : l.length = 1) : ∃ a0, l = [a0] := by
  match l, h with
  | [a0], _ => exact ⟨a0, rfl⟩
theorem ln2 {α : Type} {l : List α} (h : l.length = 2) : ∃ a0 a1, l = [a0, a1] := by
  match l, h with
  | [a0, a1], _ => exact ⟨a0, a1, rfl⟩
theorem ln3 {α : Type} {l : List α} (h : l.length = 3) : ∃ a0 a1 a2, l = [a0, a1, a2] := by
  match l, h with
  | [a0, a1, a2], _ => exact ⟨a0, a1, a2, rfl⟩
theorem ln5 {α : Type} {l : List α} (h : l.length = 5) : ∃ a0 a1 a2 a3 a4, l = [a0, a1, a2, a3, a4] := by
  match l, h with
  | [a0, a1, a2, a3, a4], _ => exact ⟨a0, a1, a2, a3, a4, rfl⟩
theorem all_mk {l : PySem.W.OpenLaw} {w : World} {K : PySem.W.Frag} {h : Heap} {mg : Str → Option Value} {fa : Addr} (X : K.In h) (G : h.Ns mainGlobals mg) (hfa : mg "law" = some (.ref fa))
    {f0 : Addr} {od0 an0 : Option Addr} {sl0 : Array (Option Value)} {oc0 kV0 dc0 pm0 cd0 ct0 : Value}
    {f1 : Addr} {od1 an1 : Option Addr} {sl1 : Array (Option Value)} {oc1 kV1 dc1 pm1 cd1 ct1 : Value}
    {f2 : Addr} {od2 an2 : Option Addr} {sl2 : Array (Option Value)} {oc2 kV2 dc2 pm2 cd2 ct2 : Value}
    {f3 : Addr} {od3 an3 : Option Addr} {sl3 : Array (Option Value)} {oc3 kV3 dc3 pm3 cd3 ct3 : Value}
    {f4 : Addr} {od4 an4 : Option Addr} {sl4 : Array (Option Value)} {oc4 kV4 dc4 pm4 cd4 ct4 : Value}
    {f5 : Addr} {od5 an5 : Option Addr} {sl5 : Array (Option Value)} {oc5 kV5 dc5 pm5 cd5 ct5 : Value}
    {f6 : Addr} {od6 an6 : Option Addr} {sl6 : Array (Option Value)} {oc6 kV6 dc6 pm6 cd6 ct6 : Value}
    {f7 : Addr} {od7 an7 : Option Addr} {sl7 : Array (Option Value)} {oc7 kV7 dc7 pm7 cd7 ct7 : Value}
    {f8 : Addr} {od8 an8 : Option Addr} {sl8 : Array (Option Value)} {oc8 kV8 dc8 pm8 cd8 ct8 : Value}
    {f9 : Addr} {od9 an9 : Option Addr} {sl9 : Array (Option Value)} {oc9 kV9 dc9 pm9 cd9 ct9 : Value}
    {f10 : Addr} {od10 an10 : Option Addr} {sl10 : Array (Option Value)} {oc10 kV10 dc10 pm10 cd10 ct10 : Value}
    {f11 : Addr} {od11 an11 : Option Addr} {sl11 : Array (Option Value)} {oc11 kV11 dc11 pm11 cd11 ct11 : Value}
    {f12 : Addr} {od12 an12 : Option Addr} {sl12 : Array (Option Value)} {oc12 kV12 dc12 pm12 cd12 ct12 : Value}
    {f13 : Addr} {od13 an13 : Option Addr} {sl13 : Array (Option Value)} {oc13 kV13 dc13 pm13 cd13 ct13 : Value}
    {f14 : Addr} {od14 an14 : Option Addr} {sl14 : Array (Option Value)} {oc14 kV14 dc14 pm14 cd14 ct14 : Value}
    {f15 : Addr} {od15 an15 : Option Addr} {sl15 : Array (Option Value)} {oc15 kV15 dc15 pm15 cd15 ct15 : Value}
    {f16 : Addr} {od16 an16 : Option Addr} {sl16 : Array (Option Value)} {oc16 kV16 dc16 pm16 cd16 ct16 : Value}
    {f17 : Addr} {od17 an17 : Option Addr} {sl17 : Array (Option Value)} {oc17 kV17 dc17 pm17 cd17 ct17 : Value}
    {f18 : Addr} {od18 an18 : Option Addr} {sl18 : Array (Option Value)} {oc18 kV18 dc18 pm18 cd18 ct18 : Value}
    {f19 : Addr} {od19 an19 : Option Addr} {sl19 : Array (Option Value)} {oc19 kV19 dc19 pm19 cd19 ct19 : Value}
    {f20 : Addr} {od20 an20 : Option Addr} {sl20 : Array (Option Value)} {oc20 kV20 dc20 pm20 cd20 ct20 : Value}
    {f21 : Addr} {od21 an21 : Option Addr} {sl21 : Array (Option Value)} {oc21 kV21 dc21 pm21 cd21 ct21 : Value}
    {f22 : Addr} {od22 an22 : Option Addr} {sl22 : Array (Option Value)} {oc22 kV22 dc22 pm22 cd22 ct22 : Value}
    {f23 : Addr} {od23 an23 : Option Addr} {sl23 : Array (Option Value)} {oc23 kV23 dc23 pm23 cd23 ct23 : Value}
    {f24 : Addr} {od24 an24 : Option Addr} {sl24 : Array (Option Value)} {oc24 kV24 dc24 pm24 cd24 ct24 : Value}
    (a0 : PySem.W.nsIn K mainGlobals "pair_seen" = some (some (.ref f0))) (l0 : K.lookup f0 = some ⟨oc0, od0, .func (PySem.W.fnOf "pair_seen" "pair_seen" (defArgs s_pair_seen) (defBody s_pair_seen) (defScope s_pair_seen) .none kV0 dc0 pm0 an0 cd0 ct0), sl0⟩) (c0 : PySem.W.codeIn K cd0 "pair_seen" = true) (k0 : PySem.W.keepIn K (.ref f0) = true)
    (a1 : PySem.W.nsIn K mainGlobals "nil_seen" = some (some (.ref f1))) (l1 : K.lookup f1 = some ⟨oc1, od1, .func (PySem.W.fnOf "nil_seen" "nil_seen" (defArgs s_nil_seen) (defBody s_nil_seen) (defScope s_nil_seen) .none kV1 dc1 pm1 an1 cd1 ct1), sl1⟩) (c1 : PySem.W.codeIn K cd1 "nil_seen" = true) (k1 : PySem.W.keepIn K (.ref f1) = true)
    (a2 : PySem.W.nsIn K mainGlobals "lone_seen" = some (some (.ref f2))) (l2 : K.lookup f2 = some ⟨oc2, od2, .func (PySem.W.fnOf "lone_seen" "lone_seen" (defArgs s_lone_seen) (defBody s_lone_seen) (defScope s_lone_seen) .none kV2 dc2 pm2 an2 cd2 ct2), sl2⟩) (c2 : PySem.W.codeIn K cd2 "lone_seen" = true) (k2 : PySem.W.keepIn K (.ref f2) = true)
    (a3 : PySem.W.nsIn K mainGlobals "two_seen" = some (some (.ref f3))) (l3 : K.lookup f3 = some ⟨oc3, od3, .func (PySem.W.fnOf "two_seen" "two_seen" (defArgs s_two_seen) (defBody s_two_seen) (defScope s_two_seen) .none kV3 dc3 pm3 an3 cd3 ct3), sl3⟩) (c3 : PySem.W.codeIn K cd3 "two_seen" = true) (k3 : PySem.W.keepIn K (.ref f3) = true)
    (a4 : PySem.W.nsIn K mainGlobals "pool_seen" = some (some (.ref f4))) (l4 : K.lookup f4 = some ⟨oc4, od4, .func (PySem.W.fnOf "pool_seen" "pool_seen" (defArgs s_pool_seen) (defBody s_pool_seen) (defScope s_pool_seen) .none kV4 dc4 pm4 an4 cd4 ct4), sl4⟩) (c4 : PySem.W.codeIn K cd4 "pool_seen" = true) (k4 : PySem.W.keepIn K (.ref f4) = true)
    (a5 : PySem.W.nsIn K mainGlobals "seen_at" = some (some (.ref f5))) (l5 : K.lookup f5 = some ⟨oc5, od5, .func (PySem.W.fnOf "seen_at" "seen_at" (defArgs s_seen_at) (defBody s_seen_at) (defScope s_seen_at) .none kV5 dc5 pm5 an5 cd5 ct5), sl5⟩) (c5 : PySem.W.codeIn K cd5 "seen_at" = true) (k5 : PySem.W.keepIn K (.ref f5) = true)
    (a6 : PySem.W.nsIn K mainGlobals "carry_out" = some (some (.ref f6))) (l6 : K.lookup f6 = some ⟨oc6, od6, .func (PySem.W.fnOf "carry_out" "carry_out" (defArgs s_carry_out) (defBody s_carry_out) (defScope s_carry_out) .none kV6 dc6 pm6 an6 cd6 ct6), sl6⟩) (c6 : PySem.W.codeIn K cd6 "carry_out" = true) (k6 : PySem.W.keepIn K (.ref f6) = true)
    (a7 : PySem.W.nsIn K mainGlobals "jumps_now" = some (some (.ref f7))) (l7 : K.lookup f7 = some ⟨oc7, od7, .func (PySem.W.fnOf "jumps_now" "jumps_now" (defArgs s_jumps_now) (defBody s_jumps_now) (defScope s_jumps_now) .none kV7 dc7 pm7 an7 cd7 ct7), sl7⟩) (c7 : PySem.W.codeIn K cd7 "jumps_now" = true) (k7 : PySem.W.keepIn K (.ref f7) = true)
    (a8 : PySem.W.nsIn K mainGlobals "word_at" = some (some (.ref f8))) (l8 : K.lookup f8 = some ⟨oc8, od8, .func (PySem.W.fnOf "word_at" "word_at" (defArgs s_word_at) (defBody s_word_at) (defScope s_word_at) .none kV8 dc8 pm8 an8 cd8 ct8), sl8⟩) (c8 : PySem.W.codeIn K cd8 "word_at" = true) (k8 : PySem.W.keepIn K (.ref f8) = true)
    (a9 : PySem.W.nsIn K mainGlobals "past_overs" = some (some (.ref f9))) (l9 : K.lookup f9 = some ⟨oc9, od9, .func (PySem.W.fnOf "past_overs" "past_overs" (defArgs s_past_overs) (defBody s_past_overs) (defScope s_past_overs) .none kV9 dc9 pm9 an9 cd9 ct9), sl9⟩) (c9 : PySem.W.codeIn K cd9 "past_overs" = true) (k9 : PySem.W.keepIn K (.ref f9) = true)
    (a10 : PySem.W.nsIn K mainGlobals "row_at" = some (some (.ref f10))) (l10 : K.lookup f10 = some ⟨oc10, od10, .func (PySem.W.fnOf "row_at" "row_at" (defArgs s_row_at) (defBody s_row_at) (defScope s_row_at) .none kV10 dc10 pm10 an10 cd10 ct10), sl10⟩) (c10 : PySem.W.codeIn K cd10 "row_at" = true) (k10 : PySem.W.keepIn K (.ref f10) = true)
    (a11 : PySem.W.nsIn K mainGlobals "run" = some (some (.ref f11))) (l11 : K.lookup f11 = some ⟨oc11, od11, .func (PySem.W.fnOf "run" "run" (defArgs s_run) (defBody s_run) (defScope s_run) .none kV11 dc11 pm11 an11 cd11 ct11), sl11⟩) (c11 : PySem.W.codeIn K cd11 "run" = true) (k11 : PySem.W.keepIn K (.ref f11) = true)
    (a12 : PySem.W.nsIn K mainGlobals "_law_cell_at" = some (some (.ref f12))) (l12 : K.lookup f12 = some ⟨oc12, od12, .func (PySem.W.fnOf "_law_cell_at" "_law_cell_at" (defArgs s_cell_at) (defBody s_cell_at) (defScope s_cell_at) .none kV12 dc12 pm12 an12 cd12 ct12), sl12⟩) (c12 : PySem.W.codeIn K cd12 "_law_cell_at" = true) (k12 : PySem.W.keepIn K (.ref f12) = true)
    (a13 : PySem.W.nsIn K mainGlobals "_law_tape" = some (some (.ref f13))) (l13 : K.lookup f13 = some ⟨oc13, od13, .func (PySem.W.fnOf "_law_tape" "_law_tape" (defArgs s_tape) (defBody s_tape) (defScope s_tape) .none kV13 dc13 pm13 an13 cd13 ct13), sl13⟩) (c13 : PySem.W.codeIn K cd13 "_law_tape" = true) (k13 : PySem.W.keepIn K (.ref f13) = true)
    (a14 : PySem.W.nsIn K mainGlobals "_law_take" = some (some (.ref f14))) (l14 : K.lookup f14 = some ⟨oc14, od14, .func (PySem.W.fnOf "_law_take" "_law_take" (defArgs s_take) (defBody s_take) (defScope s_take) .none kV14 dc14 pm14 an14 cd14 ct14), sl14⟩) (c14 : PySem.W.codeIn K cd14 "_law_take" = true) (k14 : PySem.W.keepIn K (.ref f14) = true)
    (a15 : PySem.W.nsIn K mainGlobals "_law_great" = some (some (.ref f15))) (l15 : K.lookup f15 = some ⟨oc15, od15, .func (PySem.W.fnOf "_law_great" "_law_great" (defArgs s_great) (defBody s_great) (defScope s_great) .none kV15 dc15 pm15 an15 cd15 ct15), sl15⟩) (c15 : PySem.W.codeIn K cd15 "_law_great" = true) (k15 : PySem.W.keepIn K (.ref f15) = true)
    (a16 : PySem.W.nsIn K mainGlobals "_law_same" = some (some (.ref f16))) (l16 : K.lookup f16 = some ⟨oc16, od16, .func (PySem.W.fnOf "_law_same" "_law_same" (defArgs s_same) (defBody s_same) (defScope s_same) .none kV16 dc16 pm16 an16 cd16 ct16), sl16⟩) (c16 : PySem.W.codeIn K cd16 "_law_same" = true) (k16 : PySem.W.keepIn K (.ref f16) = true)
    (a17 : PySem.W.nsIn K mainGlobals "_law_single" = some (some (.ref f17))) (l17 : K.lookup f17 = some ⟨oc17, od17, .func (PySem.W.fnOf "_law_single" "_law_single" (defArgs s_single) (defBody s_single) (defScope s_single) .none kV17 dc17 pm17 an17 cd17 ct17), sl17⟩) (c17 : PySem.W.codeIn K cd17 "_law_single" = true) (k17 : PySem.W.keepIn K (.ref f17) = true)
    (a18 : PySem.W.nsIn K mainGlobals "_law_double" = some (some (.ref f18))) (l18 : K.lookup f18 = some ⟨oc18, od18, .func (PySem.W.fnOf "_law_double" "_law_double" (defArgs s_double) (defBody s_double) (defScope s_double) .none kV18 dc18 pm18 an18 cd18 ct18), sl18⟩) (c18 : PySem.W.codeIn K cd18 "_law_double" = true) (k18 : PySem.W.keepIn K (.ref f18) = true)
    (a19 : PySem.W.nsIn K mainGlobals "_law_seen" = some (some (.ref f19))) (l19 : K.lookup f19 = some ⟨oc19, od19, .func (PySem.W.fnOf "_law_seen" "_law_seen" (defArgs s_seen) (defBody s_seen) (defScope s_seen) .none kV19 dc19 pm19 an19 cd19 ct19), sl19⟩) (c19 : PySem.W.codeIn K cd19 "_law_seen" = true) (k19 : PySem.W.keepIn K (.ref f19) = true)
    (a20 : PySem.W.nsIn K mainGlobals "_law_word" = some (some (.ref f20))) (l20 : K.lookup f20 = some ⟨oc20, od20, .func (PySem.W.fnOf "_law_word" "_law_word" (defArgs s_word) (defBody s_word) (defScope s_word) .none kV20 dc20 pm20 an20 cd20 ct20), sl20⟩) (c20 : PySem.W.codeIn K cd20 "_law_word" = true) (k20 : PySem.W.keepIn K (.ref f20) = true)
    (a21 : PySem.W.nsIn K mainGlobals "_law_machine" = some (some (.ref f21))) (l21 : K.lookup f21 = some ⟨oc21, od21, .func (PySem.W.fnOf "_law_machine" "_law_machine" (defArgs s_machine) (defBody s_machine) (defScope s_machine) .none kV21 dc21 pm21 an21 cd21 ct21), sl21⟩) (c21 : PySem.W.codeIn K cd21 "_law_machine" = true) (k21 : PySem.W.keepIn K (.ref f21) = true)
    (a22 : PySem.W.nsIn K mainGlobals "_law_typed" = some (some (.ref f22))) (l22 : K.lookup f22 = some ⟨oc22, od22, .func (PySem.W.fnOf "_law_typed" "_law_typed" (defArgs s_typed) (defBody s_typed) (defScope s_typed) .none kV22 dc22 pm22 an22 cd22 ct22), sl22⟩) (c22 : PySem.W.codeIn K cd22 "_law_typed" = true) (k22 : PySem.W.keepIn K (.ref f22) = true)
    (a23 : PySem.W.nsIn K mainGlobals "_law_unit" = some (some (.ref f23))) (l23 : K.lookup f23 = some ⟨oc23, od23, .func (PySem.W.fnOf "_law_unit" "_law_unit" (defArgs s_unit) (defBody s_unit) (defScope s_unit) .none kV23 dc23 pm23 an23 cd23 ct23), sl23⟩) (c23 : PySem.W.codeIn K cd23 "_law_unit" = true) (k23 : PySem.W.keepIn K (.ref f23) = true)
    (a24 : PySem.W.nsIn K mainGlobals "law" = some (some (.ref f24))) (l24 : K.lookup f24 = some ⟨oc24, od24, .func (PySem.W.fnOf "law" "law" (defArgs s_law) (defBody s_law) (defScope s_law) .none kV24 dc24 pm24 an24 cd24 ct24), sl24⟩) (c24 : PySem.W.codeIn K cd24 "law" = true) (k24 : PySem.W.keepIn K (.ref f24) = true)
    (z0 : PySem.W.nsIn K mainGlobals "abs" = some none)
    (z1 : PySem.W.nsIn K mainGlobals "all" = some none)
    (z2 : PySem.W.nsIn K mainGlobals "bool" = some none)
    (z3 : PySem.W.nsIn K mainGlobals "enumerate" = some none)
    (z4 : PySem.W.nsIn K mainGlobals "int" = some none)
    (z5 : PySem.W.nsIn K mainGlobals "isinstance" = some none)
    (z6 : PySem.W.nsIn K mainGlobals "len" = some none)
    (z7 : PySem.W.nsIn K mainGlobals "list" = some none)
    (z8 : PySem.W.nsIn K mainGlobals "min" = some none)
    (z9 : PySem.W.nsIn K mainGlobals "range" = some none)
    (z10 : PySem.W.nsIn K mainGlobals "str" = some none)
    (z11 : PySem.W.nsIn K mainGlobals "tuple" = some none)
    (z12 : PySem.W.nsIn K mainGlobals "zip" = some none)
    {tk0 : Tok} (g0 : PySem.W.nsIn K mainGlobals "FARTHEST_GO" = some (some (.int 499 tk0)))
    {tk1 : Tok} (g1 : PySem.W.nsIn K mainGlobals "FARTHEST_NIL" = some (some (.int 99 tk1)))
    {tk2 : Tok} (g2 : PySem.W.nsIn K mainGlobals "GREAT" = some (some (.int 5000 tk2)))
    {tk3 : Tok} (g3 : PySem.W.nsIn K mainGlobals "HALF_WORD" = some (some (.int 10000 tk3)))
    {tk4 : Tok} (g4 : PySem.W.nsIn K mainGlobals "LESS" = some (some (.int 3000 tk4)))
    {tk5 : Tok} (g5 : PySem.W.nsIn K mainGlobals "LONG_GO" = some (some (.int 7000 tk5)))
    {tk6 : Tok} (g6 : PySem.W.nsIn K mainGlobals "LONG_NIL" = some (some (.int 9000 tk6)))
    {tk7 : Tok} (g7 : PySem.W.nsIn K mainGlobals "MOST_WORDS" = some (some (.int 100 tk7)))
    {tk8 : Tok} (g8 : PySem.W.nsIn K mainGlobals "NILS_OF_ONE" = some (some (.int 200 tk8)))
    {tk9 : Tok} (g9 : PySem.W.nsIn K mainGlobals "NUMBERS" = some (some (.int 100000000 tk9)))
    {tk10 : Tok} (g10 : PySem.W.nsIn K mainGlobals "OVER" = some (some (.int 7001 tk10)))
    {tk11 : Tok} (g11 : PySem.W.nsIn K mainGlobals "PAD" = some (some (.int 7002 tk11)))
    {tk12 : Tok} (g12 : PySem.W.nsIn K mainGlobals "POOL" = some (some (.int 7100 tk12)))
    {tk13 : Tok} (g13 : PySem.W.nsIn K mainGlobals "REGISTERS" = some (some (.int 5 tk13)))
    {tk14 : Tok} (g14 : PySem.W.nsIn K mainGlobals "SAME_PLACE" = some (some (.int 5000 tk14)))
    {tk15 : Tok} (g15 : PySem.W.nsIn K mainGlobals "SET" = some (some (.int 1000 tk15)))
    {tk16 : Tok} (g16 : PySem.W.nsIn K mainGlobals "SHORT_GO" = some (some (.int 6500 tk16)))
    {tk17 : Tok} (g17 : PySem.W.nsIn K mainGlobals "SHORT_NIL" = some (some (.int 8100 tk17)))
    {tk18 : Tok} (g18 : PySem.W.nsIn K mainGlobals "STOP" = some (some (.int 0 tk18)))
    {tk19 : Tok} (g19 : PySem.W.nsIn K mainGlobals "SUM" = some (some (.int 2000 tk19)))
    {tk20 : Tok} (g20 : PySem.W.nsIn K mainGlobals "TELL" = some (some (.int 4000 tk20)))
    : ∃ fd : FuncData, (∀ (s : Shared) (v : Value), BindsTo s fd ⟨[v], []⟩ [("_law_script", v)]) ∧ ∀ base : Heap, K.In base → base.Ns mainGlobals mg → FnOk l.prog w K mg base CX0 8 fa fd ["_law_script"] (spLaw K) := by
  have e := hfa.symm.trans (PySem.W.mg_of X G a24)
  cases e
  have F0 := fun_mk (st := s_pair_seen) l0 c0 k0
  have b0 := F0.binds (ps := ["word", "rest"]) fun _ _ _ _ _ _ us hl => by obtain ⟨_, _, rfl⟩ := ln2 hl; rfl
  have F1 := fun_mk (st := s_nil_seen) l1 c1 k1
  have b1 := F1.binds (ps := ["cell", "place"]) fun _ _ _ _ _ _ us hl => by obtain ⟨_, _, rfl⟩ := ln2 hl; rfl
  have F2 := fun_mk (st := s_lone_seen) l2 c2 k2
  have b2 := F2.binds (ps := ["cell", "place"]) fun _ _ _ _ _ _ us hl => by obtain ⟨_, _, rfl⟩ := ln2 hl; rfl
  have F3 := fun_mk (st := s_two_seen) l3 c3 k3
  have b3 := F3.binds (ps := ["cell", "second", "place"]) fun _ _ _ _ _ _ us hl => by obtain ⟨_, _, _, rfl⟩ := ln3 hl; rfl
  have F4 := fun_mk (st := s_pool_seen) l4 c4 k4
  have b4 := F4.binds (ps := ["cells", "place"]) fun _ _ _ _ _ _ us hl => by obtain ⟨_, _, rfl⟩ := ln2 hl; rfl
  have F5 := fun_mk (st := s_seen_at) l5 c5 k5
  have b5 := F5.binds (ps := ["cells", "place"]) fun _ _ _ _ _ _ us hl => by obtain ⟨_, _, rfl⟩ := ln2 hl; rfl
  have F6 := fun_mk (st := s_carry_out) l6 c6 k6
  have b6 := F6.binds (ps := ["row", "held", "told"]) fun _ _ _ _ _ _ us hl => by obtain ⟨_, _, _, rfl⟩ := ln3 hl; rfl
  have F7 := fun_mk (st := s_jumps_now) l7 c7 k7
  have b7 := F7.binds (ps := ["row", "held"]) fun _ _ _ _ _ _ us hl => by obtain ⟨_, _, rfl⟩ := ln2 hl; rfl
  have F8 := fun_mk (st := s_word_at) l8 c8 k8
  have b8 := F8.binds (ps := ["cells", "begin", "at"]) fun _ _ _ _ _ _ us hl => by obtain ⟨_, _, _, rfl⟩ := ln3 hl; rfl
  have F9 := fun_mk (st := s_past_overs) l9 c9 k9
  have b9 := F9.binds (ps := ["cells", "place"]) fun _ _ _ _ _ _ us hl => by obtain ⟨_, _, rfl⟩ := ln2 hl; rfl
  have F10 := fun_mk (st := s_row_at) l10 c10 k10
  have b10 := F10.binds (ps := ["cells", "place"]) fun _ _ _ _ _ _ us hl => by obtain ⟨_, _, rfl⟩ := ln2 hl; rfl
  have F11 := fun_mk (st := s_run) l11 c11 k11
  have b11 := F11.binds (ps := ["cells", "most"]) fun _ _ _ _ _ _ us hl => by obtain ⟨_, _, rfl⟩ := ln2 hl; rfl
  have F12 := fun_mk (st := s_cell_at) l12 c12 k12
  have b12 := F12.binds (ps := ["_law_script", "_law_k"]) fun _ _ _ _ _ _ us hl => by obtain ⟨_, _, rfl⟩ := ln2 hl; rfl
  have F13 := fun_mk (st := s_tape) l13 c13 k13
  have b13 := F13.binds (ps := ["_law_script", "_law_k"]) fun _ _ _ _ _ _ us hl => by obtain ⟨_, _, rfl⟩ := ln2 hl; rfl
  have F14 := fun_mk (st := s_take) l14 c14 k14
  have b14 := F14.binds (ps := ["_law_tape_here", "_law_many"]) fun _ _ _ _ _ _ us hl => by obtain ⟨_, _, rfl⟩ := ln2 hl; rfl
  have F15 := fun_mk (st := s_great) l15 c15 k15
  have b15 := F15.binds (ps := ["_law_tape_here"]) fun _ _ _ _ _ _ us hl => by obtain ⟨_, rfl⟩ := ln1 hl; rfl
  have F16 := fun_mk (st := s_same) l16 c16 k16
  have b16 := F16.binds (ps := ["_law_found", "_law_due"]) fun _ _ _ _ _ _ us hl => by obtain ⟨_, _, rfl⟩ := ln2 hl; rfl
  have F17 := fun_mk (st := s_single) l17 c17 k17
  have b17 := F17.binds (ps := ["_law_code", "_law_p"]) fun _ _ _ _ _ _ us hl => by obtain ⟨_, _, rfl⟩ := ln2 hl; rfl
  have F18 := fun_mk (st := s_double) l18 c18 k18
  have b18 := F18.binds (ps := ["_law_code", "_law_second", "_law_p"]) fun _ _ _ _ _ _ us hl => by obtain ⟨_, _, _, rfl⟩ := ln3 hl; rfl
  have F19 := fun_mk (st := s_seen) l19 c19 k19
  have b19 := F19.binds (ps := ["_law_cells", "_law_p"]) fun _ _ _ _ _ _ us hl => by obtain ⟨_, _, rfl⟩ := ln2 hl; rfl
  have F20 := fun_mk (st := s_word) l20 c20 k20
  have b20 := F20.binds (ps := ["_law_cells", "_law_b", "_law_k"]) fun _ _ _ _ _ _ us hl => by obtain ⟨_, _, _, rfl⟩ := ln3 hl; rfl
  have F21 := fun_mk (st := s_machine) l21 c21 k21
  have b21 := F21.binds (ps := ["_law_cells", "_law_most"]) fun _ _ _ _ _ _ us hl => by obtain ⟨_, _, rfl⟩ := ln2 hl; rfl
  have F22 := fun_mk (st := s_typed) l22 c22 k22
  have b22 := F22.binds (ps := ["_law_tape_here"]) fun _ _ _ _ _ _ us hl => by obtain ⟨_, rfl⟩ := ln1 hl; rfl
  have F23 := fun_mk (st := s_unit) l23 c23 k23
  have b23 := F23.binds (ps := ["_law_tape_here", "_law_unit_here", "_law_places", "_law_at", "_law_pools"]) fun _ _ _ _ _ _ us hl => by obtain ⟨_, _, _, _, _, rfl⟩ := ln5 hl; rfl
  have F24 := fun_mk (st := s_law) l24 c24 k24
  have b24 := F24.binds (ps := ["_law_script"]) fun _ _ _ _ _ _ us hl => by obtain ⟨_, rfl⟩ := ln1 hl; rfl
  have T : Txt K mg ⟨f0, _, f1, _, f2, _, f3, _, f4, _, f5, _, f6, _, f7, _, f8, _, f9, _, f10, _, f11, _, f12, _, f13, _, f14, _, f15, _, f16, _, f17, _, f18, _, f19, _, f20, _, f21, _, f22, _, f23, _, fa, _⟩ := ⟨F0, b0, PySem.W.mg_of X G a0, F1, b1, PySem.W.mg_of X G a1, F2, b2, PySem.W.mg_of X G a2, F3, b3, PySem.W.mg_of X G a3, F4, b4, PySem.W.mg_of X G a4, F5, b5, PySem.W.mg_of X G a5, F6, b6, PySem.W.mg_of X G a6, F7, b7, PySem.W.mg_of X G a7, F8, b8, PySem.W.mg_of X G a8, F9, b9, PySem.W.mg_of X G a9, F10, b10, PySem.W.mg_of X G a10, F11, b11, PySem.W.mg_of X G a11, F12, b12, PySem.W.mg_of X G a12, F13, b13, PySem.W.mg_of X G a13, F14, b14, PySem.W.mg_of X G a14, F15, b15, PySem.W.mg_of X G a15, F16, b16, PySem.W.mg_of X G a16, F17, b17, PySem.W.mg_of X G a17, F18, b18, PySem.W.mg_of X G a18, F19, b19, PySem.W.mg_of X G a19, F20, b20, PySem.W.mg_of X G a20, F21, b21, PySem.W.mg_of X G a21, F22, b22, PySem.W.mg_of X G a22, F23, b23, PySem.W.mg_of X G a23, F24, b24, PySem.W.mg_of X G a24, PySem.W.mg_none_of X G z0, PySem.W.mg_none_of X G z1, PySem.W.mg_none_of X G z2, PySem.W.mg_none_of X G z3, PySem.W.mg_none_of X G z4, PySem.W.mg_none_of X G z5, PySem.W.mg_none_of X G z6, PySem.W.mg_none_of X G z7, PySem.W.mg_none_of X G z8, PySem.W.mg_none_of X G z9, PySem.W.mg_none_of X G z10, PySem.W.mg_none_of X G z11, PySem.W.mg_none_of X G z12, ⟨_, PySem.W.mg_of X G g0⟩, ⟨_, PySem.W.mg_of X G g1⟩, ⟨_, PySem.W.mg_of X G g2⟩, ⟨_, PySem.W.mg_of X G g3⟩, ⟨_, PySem.W.mg_of X G g4⟩, ⟨_, PySem.W.mg_of X G g5⟩, ⟨_, PySem.W.mg_of X G g6⟩, ⟨_, PySem.W.mg_of X G g7⟩, ⟨_, PySem.W.mg_of X G g8⟩, ⟨_, PySem.W.mg_of X G g9⟩, ⟨_, PySem.W.mg_of X G g10⟩, ⟨_, PySem.W.mg_of X G g11⟩, ⟨_, PySem.W.mg_of X G g12⟩, ⟨_, PySem.W.mg_of X G g13⟩, ⟨_, PySem.W.mg_of X G g14⟩, ⟨_, PySem.W.mg_of X G g15⟩, ⟨_, PySem.W.mg_of X G g16⟩, ⟨_, PySem.W.mg_of X G g17⟩, ⟨_, PySem.W.mg_of X G g18⟩, ⟨_, PySem.W.mg_of X G g19⟩, ⟨_, PySem.W.mg_of X G g20⟩⟩
  exact ⟨_, fun s v => .of_eq rfl, fun base _ _ => ok_law T⟩
theorem walk {l : PySem.W.OpenLaw} {q : Program} {loose : List Str} {XP : (Str → Option Value) → Heap → Prop} {YP : World → Heap → Prop} {d : DefRec} {K : Params → PySem.W.Frag} (hn : l.most = some 63) (hdf : d.params.defaults = [])
    (hY : ∀ (w : World) (h : Heap), YP w h → (K w.params).In h)
    (F : ∀ (w : World) (mg : Str → Option Value) (fa : Addr) (h : Heap), (K w.params).In h → h.Ns mainGlobals mg → mg d.name = some (.ref fa) →
      ∃ fd : FuncData, (∀ (s : Shared) (u : Value), BindsTo s fd ⟨[u], []⟩ [("_law_script", u)]) ∧ ∀ base : Heap, (K w.params).In base → base.Ns mainGlobals mg → FnOk l.prog w (K w.params) mg base CX0 8 fa fd ["_law_script"] (spLaw (K w.params))) :
    PySem.W.WalkO q loose XP YP l.row.toRowW d [] (fun f vs => PySem.call f vs) :=
  L2.walk_of (n := 63) (k := 8) (x := "_law_script") (CX := fun _ => CX0) (sp := fun w => spLaw (K w.params)) hn (by decide) hdf ⟨rfl, by decide, by decide, rfl⟩ hY F (fun _ _ a ns hl _ hS => ⟨a, ns, rfl, hS, hl, fun _ => rfl⟩) fun _ _ _ _ _ z => z
end Np
open PySem PySem.W PyProof.Rows
set_option maxRecDepth 100000 in
set_option maxHeartbeats 0 in
theorem PySem.Challenge.cw_nearpool_k36_typed_cells_run_holds : PySem.Challenge.rw_nearpool_k36_typed_cells_run.Holds := by
  w_on; o_law; k_head; (case hw => w_witness2)
  k_fill
  refine Np.walk (l := PySem.Challenge.rw_nearpool_k36_typed_cells_run) rfl rfl (fun w h Y => PySem.W.kIn_of Y) ?F
  case F =>
    intro w mg fa h KX G hmg
    refine' Np.all_mk KX G hmg ?np_a0 ?np_l0 ?np_c0 ?np_k0 ?np_a1 ?np_l1 ?np_c1 ?np_k1 ?np_a2 ?np_l2 ?np_c2 ?np_k2 ?np_a3 ?np_l3 ?np_c3 ?np_k3 ?np_a4 ?np_l4 ?np_c4 ?np_k4 ?np_a5 ?np_l5 ?np_c5 ?np_k5 ?np_a6 ?np_l6 ?np_c6 ?np_k6 ?np_a7 ?np_l7 ?np_c7 ?np_k7 ?np_a8 ?np_l8 ?np_c8 ?np_k8 ?np_a9 ?np_l9 ?np_c9 ?np_k9 ?np_a10 ?np_l10 ?np_c10 ?np_k10 ?np_a11 ?np_l11 ?np_c11 ?np_k11 ?np_a12 ?np_l12 ?np_c12 ?np_k12 ?np_a13 ?np_l13 ?np_c13 ?np_k13 ?np_a14 ?np_l14 ?np_c14 ?np_k14 ?np_a15 ?np_l15 ?np_c15 ?np_k15 ?np_a16 ?np_l16 ?np_c16 ?np_k16 ?np_a17 ?np_l17 ?np_c17 ?np_k17 ?np_a18 ?np_l18 ?np_c18 ?np_k18 ?np_a19 ?np_l19 ?np_c19 ?np_k19 ?np_a20 ?np_l20 ?np_c20 ?np_k20 ?np_a21 ?np_l21 ?np_c21 ?np_k21 ?np_a22 ?np_l22 ?np_c22 ?np_k22 ?np_a23 ?np_l23 ?np_c23 ?np_k23 ?np_a24 ?np_l24 ?np_c24 ?np_k24 ?np_z0 ?np_z1 ?np_z2 ?np_z3 ?np_z4 ?np_z5 ?np_z6 ?np_z7 ?np_z8 ?np_z9 ?np_z10 ?np_z11 ?np_z12 ?np_g0 ?np_g1 ?np_g2 ?np_g3 ?np_g4 ?np_g5 ?np_g6 ?np_g7 ?np_g8 ?np_g9 ?np_g10 ?np_g11 ?np_g12 ?np_g13 ?np_g14 ?np_g15 ?np_g16 ?np_g17 ?np_g18 ?np_g19 ?np_g20
    (case np_a0 => k_is)
    (case np_l0 => k_is)
    (case np_c0 => k_is)
    (case np_k0 => k_is)
    (case np_a1 => k_is)
    (case np_l1 => k_is)
    (case np_c1 => k_is)
    (case np_k1 => k_is)
    (case np_a2 => k_is)
    (case np_l2 => k_is)
    (case np_c2 => k_is)
    (case np_k2 => k_is)
    (case np_a3 => k_is)
    (case np_l3 => k_is)
    (case np_c3 => k_is)
    (case np_k3 => k_is)
    (case np_a4 => k_is)
    (case np_l4 => k_is)
    (case np_c4 => k_is)
    (case np_k4 => k_is)
    (case np_a5 => k_is)
    (case np_l5 => k_is)
    (case np_c5 => k_is)
    (case np_k5 => k_is)
    (case np_a6 => k_is)
    (case np_l6 => k_is)
    (case np_c6 => k_is)
    (case np_k6 => k_is)
    (case np_a7 => k_is)
    (case np_l7 => k_is)
    (case np_c7 => k_is)
    (case np_k7 => k_is)
    (case np_a8 => k_is)
    (case np_l8 => k_is)
    (case np_c8 => k_is)
    (case np_k8 => k_is)
    (case np_a9 => k_is)
    (case np_l9 => k_is)
    (case np_c9 => k_is)
    (case np_k9 => k_is)
    (case np_a10 => k_is)
    (case np_l10 => k_is)
    (case np_c10 => k_is)
    (case np_k10 => k_is)
    (case np_a11 => k_is)
    (case np_l11 => k_is)
    (case np_c11 => k_is)
    (case np_k11 => k_is)
    (case np_a12 => k_is)
    (case np_l12 => k_is)
    (case np_c12 => k_is)
    (case np_k12 => k_is)
    (case np_a13 => k_is)
    (case np_l13 => k_is)
    (case np_c13 => k_is)
    (case np_k13 => k_is)
    (case np_a14 => k_is)
    (case np_l14 => k_is)
    (case np_c14 => k_is)
    (case np_k14 => k_is)
    (case np_a15 => k_is)
    (case np_l15 => k_is)
    (case np_c15 => k_is)
    (case np_k15 => k_is)
    (case np_a16 => k_is)
    (case np_l16 => k_is)
    (case np_c16 => k_is)
    (case np_k16 => k_is)
    (case np_a17 => k_is)
    (case np_l17 => k_is)
    (case np_c17 => k_is)
    (case np_k17 => k_is)
    (case np_a18 => k_is)
    (case np_l18 => k_is)
    (case np_c18 => k_is)
    (case np_k18 => k_is)
    (case np_a19 => k_is)
    (case np_l19 => k_is)
    (case np_c19 => k_is)
    (case np_k19 => k_is)
    (case np_a20 => k_is)
    (case np_l20 => k_is)
    (case np_c20 => k_is)
    (case np_k20 => k_is)
    (case np_a21 => k_is)
    (case np_l21 => k_is)
    (case np_c21 => k_is)
    (case np_k21 => k_is)
    (case np_a22 => k_is)
    (case np_l22 => k_is)
    (case np_c22 => k_is)
    (case np_k22 => k_is)
    (case np_a23 => k_is)
    (case np_l23 => k_is)
    (case np_c23 => k_is)
    (case np_k23 => k_is)
    (case np_a24 => k_is)
    (case np_l24 => k_is)
    (case np_c24 => k_is)
    (case np_k24 => k_is)
    (case np_z0 => k_is)
    (case np_z1 => k_is)
    (case np_z2 => k_is)
    (case np_z3 => k_is)
    (case np_z4 => k_is)
    (case np_z5 => k_is)
    (case np_z6 => k_is)
    (case np_z7 => k_is)
    (case np_z8 => k_is)
    (case np_z9 => k_is)
    (case np_z10 => k_is)
    (case np_z11 => k_is)
    (case np_z12 => k_is)
    (case np_g0 => k_is)
    (case np_g1 => k_is)
    (case np_g2 => k_is)
    (case np_g3 => k_is)
    (case np_g4 => k_is)
    (case np_g5 => k_is)
    (case np_g6 => k_is)
    (case np_g7 => k_is)
    (case np_g8 => k_is)
    (case np_g9 => k_is)
    (case np_g10 => k_is)
    (case np_g11 => k_is)
    (case np_g12 => k_is)
    (case np_g13 => k_is)
    (case np_g14 => k_is)
    (case np_g15 => k_is)
    (case np_g16 => k_is)
    (case np_g17 => k_is)
    (case np_g18 => k_is)
    (case np_g19 => k_is)
    (case np_g20 => k_is)
