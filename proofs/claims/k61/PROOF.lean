import PyProof.Rows.All
import Wide.All
import OpenK.AllK
import Wide.FinOn
import Lean
import PyProof.EqAt
import PyProof.EqKinds
import PyProof.TupleCall
import PyProof.NeData
import PyProof.P3In
import PyProof.ZipIter
import PyProof.Rows.ZipGen
import KE.KRevIter
import PyProof.CollectIter
import PyProof.ListRange
import PyProof.EnumMake
import PyProof.EnumFor
import PyProof.EnumStmt
import PyProof.Rows.SortStr
import KE.KDictList
import PySem.Challenge.RW_ken_k61_placed
import PyProof.SumAny
import PyProof.WalksMore
import KE.KTupSum
-- CHANGE: your row's module here, as the last of these rows
set_option Elab.async false
set_option linter.all false
set_option maxRecDepth 100000
/-! THE HAND LAYER, for ints, bools, texts, own classes, LISTS and tuples (index, slices, in, append, pop ..), calls, loops. Paste it whole ahead of your own text; what your proof does not reach may be deleted. -/
namespace L2
open PySem PySem.Spec PyProof.Rows

/-- a key: an int or a str -/
abbrev Key := Sum Int Str
def keyIs : Key → Value → Bool
  | .inl k, v => Value.isInt k v
  | .inr x, v => Value.isStrOf x v
def keyH (w : World) : Key → Int
  | .inl k => hashInt k
  | .inr x => hashStr w x
theorem keyIs_shape : ∀ {k : Key} {v : Value}, keyIs k v = true → (∃ i t, k = Sum.inl i ∧ v = Value.int i t) ∨ (∃ x t, k = Sum.inr x ∧ v = Value.str x t)
  | .inl i, v, h => by
    obtain ⟨t, e⟩ := Value.isInt_shape (k := i) (v := v) h
    exact .inl ⟨i, t, rfl, e⟩
  | .inr x, v, h => by
    obtain ⟨t, e⟩ := Value.isStrOf_shape (x := x) (v := v) h
    exact .inr ⟨x, t, rfl, e⟩
theorem keyIs_int (i : Int) (t : Tok) : keyIs (.inl i) (.int i t) = true := by simp [keyIs, Value.isInt]
theorem keyIs_str (x : Str) (t : Tok) : keyIs (.inr x) (.str x t) = true := by simp [keyIs, Value.isStrOf]
theorem key_ll (a b : Int) : decide ((Sum.inl a : Key) = Sum.inl b) = (a == b) := by
  by_cases e : a = b
  · subst e; simp
  · have h : ¬ (Sum.inl a : Key) = Sum.inl b := fun q => e (Sum.inl.inj q)
    rw [decide_eq_false h]
    exact (beq_eq_false_iff_ne.mpr e).symm
theorem key_rr (a b : Str) : decide ((Sum.inr a : Key) = Sum.inr b) = decide (a = b) := by
  by_cases e : a = b
  · subst e; simp
  · have h : ¬ (Sum.inr a : Key) = Sum.inr b := fun q => e (Sum.inr.inj q)
    rw [decide_eq_false h, decide_eq_false e]
theorem key_lr (a : Int) (b : Str) : decide ((Sum.inl a : Key) = Sum.inr b) = false := decide_eq_false (fun q => nomatch q)
theorem key_rl (a : Str) (b : Int) : decide ((Sum.inr a : Key) = Sum.inl b) = false := decide_eq_false (fun q => nomatch q)

def mixKind (prog : Program) (w : World) : PySem.KeyKind prog w Key where
  is := keyIs
  hash := keyH w
  inj := fun v a b ha hb => by
    rcases keyIs_shape ha with ⟨i, t, rfl, rfl⟩ | ⟨x, t, rfl, rfl⟩
    · rcases keyIs_shape hb with ⟨j, u, rfl, e⟩ | ⟨y, u, rfl, e⟩
      · injection e with e1 _; rw [e1]
      · exact nomatch e
    · rcases keyIs_shape hb with ⟨j, u, rfl, e⟩ | ⟨y, u, rfl, e⟩
      · exact nomatch e
      · injection e with e1 _; rw [e1]
  byValue := fun k v h => by
    rcases keyIs_shape h with ⟨i, t, rfl, rfl⟩ | ⟨x, t, rfl, rfl⟩ <;> rfl
  pyHash := fun hv h => by
    rcases keyIs_shape hv with ⟨i, t, rfl, rfl⟩ | ⟨x, t, rfl, rfl⟩
    · exact wpAny_pyHash_int h
    · exact wpAny_pyHash_str h
  eqBool := fun hu hv h => by
    rcases keyIs_shape hu with ⟨i, t, rfl, rfl⟩ | ⟨x, t, rfl, rfl⟩
    · rcases keyIs_shape hv with ⟨j, u, rfl, rfl⟩ | ⟨y, u, rfl, rfl⟩
      · rw [key_ll] at h; exact wpAny_eqBool_int h
      · rw [key_lr] at h; exact SeqAt.EqAt.int_str i t y u _ _ _ _ h
    · rcases keyIs_shape hv with ⟨j, u, rfl, rfl⟩ | ⟨y, u, rfl, rfl⟩
      · rw [key_rl] at h; exact SeqAt.EqAt.str_int x t j u _ _ _ _ h
      · rw [key_rr] at h; exact wpAny_eqBool_str h
  «strs» := fun k x t v h => by
    rcases keyIs_shape h with ⟨i, u, rfl, e⟩ | ⟨y, u, rfl, e⟩
    · exact nomatch e
    · injection e with e1 _
      subst e1
      cases v <;> rfl

theorem mixKind_is (prog : Program) (w : World) (k : Key) (v : Value) : (mixKind prog w).is k v = keyIs k v := rfl
theorem mixKind_int (prog : Program) (w : World) (i : Int) (t : Tok) : (mixKind prog w).is (.inl i) (.int i t) = true := keyIs_int i t
theorem mixKind_str (prog : Program) (w : World) (x : Str) (t : Tok) : (mixKind prog w).is (.inr x) (.str x t) = true := keyIs_str x t
end L2

namespace L2
open PySem PySem.Spec PyProof.Rows

/-- a value, without the heap -/
inductive V where
  | non | bl (b : Bool) | int (i : Int) | str (x : Str) | byt (b : Array UInt8) | flt (b : UInt64) | ref (a : Addr) | ty (n : String)
  deriving DecidableEq

def RelV : V → Value → Prop
  | .non, u => u = Value.none
  | .bl b, u => u = Value.bool b
  | .int i, u => ∃ t, u = Value.int i t
  | .str x, u => ∃ t, u = Value.str x t
  | .byt b, u => ∃ t, u = Value.bytes b t
  | .flt b, u => ∃ t, u = Value.float b t
  | .ref a, u => u = Value.ref a
  | .ty n, u => u = Value.type n

abbrev Vals : List V → List Value → Prop := Paired RelV
theorem Vals.length {xs : List V} {us : List Value} (r : Vals xs us) : xs.length = us.length := Paired.length r
theorem Vals.get : ∀ {xs : List V} {us : List Value} {i : Nat} {x : V}, Vals xs us → xs[i]? = some x → ∃ u, us[i]? = some u ∧ RelV x u
  | _, _, _, _, .nil, e => by simp at e
  | _, _, 0, _, .cons r _, e => by simp at e; subst e; exact ⟨_, rfl, r⟩
  | _, _, i + 1, x, .cons _ t, e => by
    obtain ⟨u, h1, h2⟩ := Vals.get (i := i) (x := x) t (by simpa using e)
    exact ⟨u, by simpa using h1, h2⟩
theorem Vals.set {x : V} {u : Value} (r : RelV x u) : ∀ {xs : List V} {us : List Value} (i : Nat), Vals xs us → Vals (xs.set i x) (us.set i u)
  | _, _, _, .nil => .nil
  | _, _, 0, .cons _ t => .cons r t
  | _, _, i + 1, .cons q t => .cons q (Vals.set r i t)
theorem Vals.append : ∀ {xs ys : List V} {us ws : List Value}, Vals xs us → Vals ys ws → Vals (xs ++ ys) (us ++ ws)
  | _, _, _, _, .nil, s => s
  | _, _, _, _, .cons r t, s => .cons r (Vals.append t s)
theorem Vals.take : ∀ {xs : List V} {us : List Value} (n : Nat), Vals xs us → Vals (xs.take n) (us.take n)
  | _, _, 0, _ => .nil
  | _, _, _ + 1, .nil => .nil
  | _, _, n + 1, .cons r t => .cons r (Vals.take n t)
theorem Vals.drop : ∀ {xs : List V} {us : List Value} (n : Nat), Vals xs us → Vals (xs.drop n) (us.drop n)
  | _, _, 0, r => r
  | _, _, _ + 1, .nil => .nil
  | _, _, n + 1, .cons _ t => Vals.drop n t
theorem Vals.none_of : ∀ {xs : List V} {us : List Value} {i : Nat}, Vals xs us → xs[i]? = none → us[i]? = none := fun {xs us i} r e => by
  have h1 := r.length
  have h2 : xs.length ≤ i := List.getElem?_eq_none_iff.mp e
  exact List.getElem?_eq_none_iff.mpr (by omega)

def RelO : Option V → Option Value → Prop
  | some v, some u => RelV v u
  | none, none => True
  | _, _ => False
def KV {κ : Type} : List (κ × V) → List (κ × Value) → Prop := Paired fun (p : κ × V) (q : κ × Value) => p.1 = q.1 ∧ RelV p.2 q.2

/-- a key of a dict (00_mix): an int or a text -/
def kV : Key → V
  | .inl i => .int i
  | .inr x => .str x

/-- what stands at a tracked address -/
inductive HO where
  /-- a list -/
  | lst (xs : List V)
  /-- a tuple (never changes) -/
  | tup (xs : List V)
  /-- a dict whose keys are ints and texts; one whose keys are tuples of ints and texts (the empty one is both) -/
  | dK (kvs : List (Key × V)) | dT (kvs : List (List Key × V))
  /-- a set of ints: its members, its size -/
  | set (S : Int → Bool) (n : Nat)
  /-- an instance of the class at C, its dict at dx, its attributes -/
  | ins (C dx : Addr) (fs : List (Str × V))
  /-- the dict of the instance at x -/
  | own (x : Addr)
  /-- the dict of an exception -/
  | xd (fs : List (Str × V))
  /-- a bound method, f of x -/
  | met (f x : Addr)
  /-- a range object lo, lo + 1, .. below hi -/
  | rng (lo hi : Int)
  /-- a thing that is known to the object (the script; a dict while a loop walks it): read, never written while it is so -/
  | frz (o : Obj) (u : HO)
  /-- a code object's table -/
  | tbl (ps : Array Value)
  /-- any other thing, by what is true of its one object (a def of one's own: SetO a S n := HO.ext fun h => ..) -/
  | ext (φ : Heap → Prop)

abbrev Hp := Addr → Option HO
def upd (H : Hp) (a : Addr) (o : HO) : Hp := fun b => if b = a then some o else H b
theorem upd_same {H : Hp} {a : Addr} {o : HO} : upd H a o a = some o := by unfold upd; rw [if_pos rfl]
theorem upd_ne {H : Hp} {a b : Addr} {o : HO} (h : b ≠ a) : upd H a o b = H b := by unfold upd; rw [if_neg h]
theorem upd_upd {H : Hp} {a : Addr} {o u : HO} : upd (upd H a o) a u = upd H a u := by
  funext b; unfold upd; split <;> rfl
/-- two objects of different content stand apart -/
theorem ne_of {H : Hp} {a b : Addr} {o u : HO} (h : H a = some o) (h' : H b = some u) (d : o ≠ u) : a ≠ b := by
  intro e; subst e; rw [h] at h'; exact d (Option.some.inj h')
theorem ne_of_none {H : Hp} {a b : Addr} {o : HO} (h : H a = some o) (h' : H b = none) : a ≠ b := by
  intro e; subst e; rw [h] at h'; cases h'

section
variable (P : Program) (w : World)
def ObjOk (H : Hp) (h : Heap) (a : Addr) : HO → Prop
  | .lst xs => xs.length ≤ sizeLine ∧ ∃ (its : List Value) (n : Nat), Vals xs its ∧ h.get? a = some { cls := .type "list", data := .seq its.toArray n }
  | .tup xs => xs.length ≤ sizeLine ∧ ∃ its : List Value, Vals xs its ∧ IsTup h a its.toArray
  | .dK kvs => kvs.length ≤ sizeLine ∧ (a == sysModules) = false ∧ ∃ vs, KV kvs vs ∧ h.DictOf (mixKind P w) a vs
  | .dT kvs => kvs.length ≤ sizeLine ∧ (a == sysModules) = false ∧ ∃ xs : List (List Key × Addr × Value),
      Paired (fun (p : List Key × V) (q : List Key × Addr × Value) => p.1 = q.1 ∧ H q.2.1 = some (.tup (p.1.map kV)) ∧ RelV p.2 q.2.2) kvs xs ∧
      ∃ o es ep, h.get? a = some o ∧ o.ExactDict ∧ o.data = .dict es ep ∧ es.toList = xs.map (entryOfKey (tupleKind (mixKind P w))) ∧ (xs.map (·.1)).Nodup
  | .set S n => h.SetOf (intKind P w) a S n
  | .ins C dx fs => H dx = some (.own a) ∧ fs.length ≤ 1000 ∧ dx ≠ a ∧ h.get? a = some (PySem.W.instObj C dx) ∧
      ∃ mA, h.Ns1 dx mA ∧ (∀ f, RelO (fs.lookup f) (mA f)) ∧ PySem.Within mA (fs.map (·.1))
  | .own _ => ∃ o, h.get? a = some o
  | .xd fs => ∃ mA, h.Ns1 a mA ∧ ∀ f, RelO (fs.lookup f) (mA f)
  | .rng lo hi => ∃ t u v, h.get? a = some { cls := .type "range", data := .fields #[.int lo t, .int hi u, .int 1 v] }
  | .frz o u => h.get? a = some o ∧ ObjOk H h a u
  | .tbl ps => h.get? a = some { cls := .none, data := .fields ps }
  | .met f x => h.get? a = some (PySem.W.methodObj (.ref f) (.ref x))
  | .ext φ => φ h ∧ (∃ o, h.get? a = some o) ∧ ∀ h1 h2 : Heap, φ h1 → (∀ o, h1.get? a = some o → h2.get? a = some o) → φ h2
/-- the abstract heap is held -/
def HOk (H : Hp) (h : Heap) : Prop := ∀ a o, H a = some o → ObjOk P w H h a o
end

section
variable {P : Program} {w : World} {H H' : Hp} {h h' : Heap} {a : Addr} {o : HO}
theorem ObjOk.lt (x : ObjOk P w H h a o) : a < h.objs.size := by
  cases o with
  | lst xs => obtain ⟨_, _, _, _, e⟩ := x; exact Heap.lt_size e
  | tup xs => obtain ⟨_, _, _, p⟩ := x; exact p.lt
  | dK kvs => obtain ⟨_, _, _, _, o, _, _, e, _⟩ := x; exact Heap.lt_size e
  | dT kvs => obtain ⟨_, _, _, _, o, _, _, e, _⟩ := x; exact Heap.lt_size e
  | set S n => obtain ⟨o, _, _, _, e, _⟩ := x; exact Heap.lt_size e
  | ins C dx fs => obtain ⟨_, _, _, e, _⟩ := x; exact Heap.lt_size e
  | own y => obtain ⟨_, e⟩ := x; exact Heap.lt_size e
  | xd fs => obtain ⟨_, ⟨_, _, _, e, _⟩, _⟩ := x; exact Heap.lt_size e
  | rng lo hi => obtain ⟨_, _, _, e⟩ := x; exact Heap.lt_size e
  | frz ob u => obtain ⟨e, _⟩ := x; exact Heap.lt_size e
  | tbl ps => exact Heap.lt_size (show h.get? a = some _ from x)
  | met f y => exact Heap.lt_size (show h.get? a = some _ from x)
  | ext φ => obtain ⟨_, ⟨_, e⟩, _⟩ := x; exact Heap.lt_size e
theorem Paired.mapP {α β : Type} {F G : α → β → Prop} : ∀ {l₁ : List α} {l₂ : List β}, Paired F l₁ l₂ → (∀ a b, F a b → G a b) → Paired G l₁ l₂
  | _, _, .nil, _ => .nil
  | _, _, .cons r t, f => .cons (f _ _ r) (Paired.mapP t f)
theorem Paired.imp' {α β : Type} {F G : α → β → Prop} (f : ∀ a b, F a b → G a b) {l₁ : List α} {l₂ : List β} (r : Paired F l₁ l₂) : Paired G l₁ l₂ := Paired.mapP r f
/-- what an object's description leans on: its own object, its own dict, the tuples -/
theorem ObjOk.stay (x : ObjOk P w H h a o) (k : ∀ b u, (b = a ∨ H b = some (.own a)) → h.get? b = some u → h'.get? b = some u)
    (ho : ∀ b, H b = some (.own a) → H' b = some (.own a)) (ht : ∀ b xs, H b = some (.tup xs) → H' b = some (.tup xs)) : ObjOk P w H' h' a o := by
  induction o with
  | lst xs => obtain ⟨z, its, n, r, e⟩ := x; exact ⟨z, its, n, r, k _ _ (.inl rfl) e⟩
  | tup xs => obtain ⟨z, its, r, ob, e, c⟩ := x; exact ⟨z, its, r, ob, k _ _ (.inl rfl) e, c⟩
  | dK kvs => obtain ⟨z, y, vs, r, ob, es, ep, e, c⟩ := x; exact ⟨z, y, vs, r, ob, es, ep, k _ _ (.inl rfl) e, c⟩
  | dT kvs =>
    obtain ⟨z, y, xs, r, ob, es, ep, e, c⟩ := x
    exact ⟨z, y, xs, Paired.mapP r fun p q z => ⟨z.1, ht _ _ z.2.1, z.2.2⟩, ob, es, ep, k _ _ (.inl rfl) e, c⟩
  | set S n => obtain ⟨ob, es, ep, t, e, c⟩ := x; exact ⟨ob, es, ep, t, k _ _ (.inl rfl) e, c⟩
  | ins C dx fs =>
    obtain ⟨d, z, ne, e, mA, ⟨od, es, ep, e2, c⟩, r⟩ := x
    exact ⟨ho _ d, z, ne, k _ _ (.inl rfl) e, mA, ⟨od, es, ep, k _ _ (.inr d) e2, c⟩, r⟩
  | own y => obtain ⟨ob, e⟩ := x; exact ⟨ob, k _ _ (.inl rfl) e⟩
  | xd fs => obtain ⟨mA, ⟨od, es, ep, e, c⟩, r⟩ := x; exact ⟨mA, ⟨od, es, ep, k _ _ (.inl rfl) e, c⟩, r⟩
  | rng lo hi => obtain ⟨t, u, v, e⟩ := x; exact ⟨t, u, v, k _ _ (.inl rfl) e⟩
  | frz ob u ih => obtain ⟨e, q⟩ := x; exact ⟨k _ _ (.inl rfl) e, ih q⟩
  | tbl ps =>
    have e : h.get? a = some { cls := .none, data := .fields ps } := x
    show h'.get? a = some { cls := .none, data := .fields ps }
    exact k a _ (.inl rfl) e
  | met f y =>
    have e : h.get? a = some (PySem.W.methodObj (.ref f) (.ref y)) := x
    show h'.get? a = some (PySem.W.methodObj (.ref f) (.ref y))
    exact k a _ (.inl rfl) e
  | ext φ => obtain ⟨p, ⟨o, e⟩, st⟩ := x; exact ⟨st _ _ p fun o q => k _ _ (.inl rfl) q, ⟨o, k _ _ (.inl rfl) e⟩, st⟩
theorem HOk.lt (x : HOk P w H h) (e : H a = some o) : a < h.objs.size := (x a o e).lt
theorem HOk.fresh (x : HOk P w H h) (e : h.objs.size ≤ a) : H a = none := by
  cases q : H a with
  | none => rfl
  | some u => exact absurd (Nat.lt_of_lt_of_le (x.lt q) e) (Nat.lt_irrefl _)
/-- every object of the heap is kept -/
theorem HOk.kept (x : HOk P w H h) (k : ∀ b u, h.get? b = some u → h'.get? b = some u) : HOk P w H h' := fun a o e =>
  (x a o e).stay (fun b u _ q => k b u q) (fun _ q => q) fun _ _ q => q
/-- a new object is laid and tracked -/
theorem HOk.laid (x : HOk P w H h) (k : ∀ b u, h.get? b = some u → h'.get? b = some u) (hp : h.objs.size ≤ a) (new : ObjOk P w (upd H a o) h' a o) : HOk P w (upd H a o) h' := fun b u e => by
  have hn := x.fresh hp
  by_cases hb : b = a
  · subst hb; rw [upd_same] at e; cases e; exact new
  · rw [upd_ne hb] at e
    exact (x b u e).stay (fun c v _ q => k c v q) (fun c q => by rw [upd_ne (ne_of_none q hn)]; exact q) fun c xs q => by rw [upd_ne (ne_of_none q hn)]; exact q
end

/-- what may be read as u: it is u, or a known u -/
def Rd (H : Hp) (a : Addr) (u : HO) : Prop := H a = some u ∨ ∃ o, H a = some (.frz o u)
theorem Rd.of {H : Hp} {a : Addr} {u : HO} (h : H a = some u) : Rd H a u := .inl h
theorem Rd.ok {P : Program} {w : World} {H : Hp} {h : Heap} {a : Addr} {u : HO} (r : Rd H a u) (x : HOk P w H h) : ObjOk P w H h a u := by
  rcases r with r | ⟨o, r⟩
  · exact x a u r
  · obtain ⟨_, q⟩ := x a _ r
    exact q
/-- what may be written -/
def Mut : Option HO → Prop
  | some (.lst _) => True
  | some (.dK _) => True
  | some (.dT _) => True
  | some (.set _ _) => True
  | some (.ins _ _ _) => True
  | some (.ext _) => True
  | _ => False
section
variable {P : Program} {w : World} {H : Hp} {h h' : Heap} {x e : Addr} {o' : HO}
/-- the object at e is changed: x itself, or the dict of the instance x -/
theorem HOk.write (ok : HOk P w H h) (mu : Mut (H x)) (he : e = x ∨ H e = some (.own x)) (k : ∀ b u, b ≠ e → h.get? b = some u → h'.get? b = some u) (heo : ∃ u, h'.get? e = some u)
    (new : ObjOk P w (upd H x o') h' x o') : HOk P w (upd H x o') h' := fun b u q => by
  have nown : ∀ c y, H c = some (.own y) → c ≠ x := fun c y r z => by subst z; rw [r] at mu; exact mu
  have ntup : ∀ c xs, H c = some (.tup xs) → c ≠ x := fun c xs r z => by subst z; rw [r] at mu; exact mu
  by_cases hb : b = x
  · subst hb; rw [upd_same] at q; cases q; exact new
  · rw [upd_ne hb] at q
    by_cases hbe : b = e
    · have q' : H b = some (.own x) := by
        rcases he with z | z
        · exact absurd (hbe.trans z) hb
        · rw [hbe]; exact z
      rw [q] at q'; cases q'
      obtain ⟨v, hv⟩ := heo
      exact ⟨v, by rw [hbe]; exact hv⟩
    · refine (ok b u q).stay (fun c v hc r => k c v ?_ r) (fun c r => by rw [upd_ne (nown c b r)]; exact r) fun c xs r => by rw [upd_ne (ntup c xs r)]; exact r
      rcases hc with rfl | hc
      · exact hbe
      · rintro rfl
        rcases he with z | z
        · exact nown c b hc z
        · rw [hc] at z; cases z; exact hb rfl
end

/-! ### kept unless tracked; of the frames at fs (the callers') the slots may change (an exception that passes writes there); of the records at ex (iterators) nothing is said -/
structure Un (fs ex : List Addr) (H H' : Hp) (h h' : Heap) : Prop where
  keep : ∀ b o, h.get? b = some o → H b = none → b ∉ fs → b ∉ ex → h'.get? b = some o
  slot : ∀ b o, h.get? b = some o → H b = none → b ∈ fs → b ∉ ex → ∃ sl, h'.get? b = some { o with slots := sl }
  free : ∀ b o, h.get? b = some o → H b = none → b ∉ ex → H' b = none
  there : ∀ b o, h.get? b = some o → b ∉ ex → ∃ o', h'.get? b = some o'
  tups : ∀ b xs, H b = some (.tup xs) → H' b = some (.tup xs)
  frzs : ∀ b o u, H b = some (.frz o u) → H' b = some (.frz o u)
  tbls : ∀ b ps, H b = some (.tbl ps) → ∃ more, H' b = some (.tbl (ps ++ more))
section
variable {fs fs' ex ex' : List Addr} {H H1 H2 : Hp} {h h1 h2 h' : Heap} {a x e : Addr} {o : HO}
theorem Un.any (u : Un fs ex H H1 h h1) {b : Addr} {ob : Obj} (q : h.get? b = some ob) (n : H b = none) (hx : b ∉ ex) : ∃ sl, h1.get? b = some { ob with slots := sl } := by
  by_cases hb : b ∈ fs
  · exact u.slot b ob q n hb hx
  · exact ⟨ob.slots, u.keep b ob q n hb hx⟩
theorem Un.trans (a : Un fs ex H H1 h h1) (b : Un fs ex H1 H2 h1 h2) : Un fs ex H H2 h h2 where
  keep := fun c ob q n hc hx => b.keep c ob (a.keep c ob q n hc hx) (a.free c ob q n hx) hc hx
  slot := fun c ob q n hc hx => by
    obtain ⟨sl, e1⟩ := a.slot c ob q n hc hx
    obtain ⟨sl', e2⟩ := b.slot c _ e1 (a.free c ob q n hx) hc hx
    exact ⟨sl', e2⟩
  free := fun c ob q n hx => by
    obtain ⟨o', e1⟩ := a.there c ob q hx
    exact b.free c o' e1 (a.free c ob q n hx) hx
  there := fun c ob q hx => by
    obtain ⟨o', e1⟩ := a.there c ob q hx
    exact b.there c o' e1 hx
  tups := fun c xs q => b.tups c xs (a.tups c xs q)
  frzs := fun c ob xs q => b.frzs c ob xs (a.frzs c ob xs q)
  tbls := fun c ps q => by
    obtain ⟨m1, e1⟩ := a.tbls c ps q
    obtain ⟨m2, e2⟩ := b.tbls c _ e1
    exact ⟨m1 ++ m2, by rw [e2, Array.append_assoc]⟩
theorem Un.kept (k : ∀ b u, h.get? b = some u → h'.get? b = some u) : Un fs ex H H h h' :=
  ⟨fun b ob q _ _ _ => k b ob q, fun b ob q _ _ _ => ⟨ob.slots, k b ob q⟩, fun _ _ _ n _ => n, fun b ob q _ => ⟨ob, k b ob q⟩, fun _ _ q => q, fun _ _ _ q => q, fun _ ps q => ⟨#[], by rw [q]; simp⟩⟩
theorem Un.refl : Un fs ex H H h h := Un.kept fun _ _ q => q
theorem Un.laid (k : ∀ b u, h.get? b = some u → h'.get? b = some u) (hp : h.objs.size ≤ a) (hn : H a = none) : Un fs ex H (upd H a o) h h' where
  keep := fun b u q _ _ _ => k b u q
  slot := fun b u q _ _ _ => ⟨u.slots, k b u q⟩
  free := fun b u q n _ => by rw [upd_ne (Nat.ne_of_lt (Nat.lt_of_lt_of_le (Heap.lt_size q) hp))]; exact n
  there := fun b u q _ => ⟨u, k b u q⟩
  tups := fun b xs q => by rw [upd_ne (ne_of_none q hn)]; exact q
  frzs := fun b u xs q => by rw [upd_ne (ne_of_none q hn)]; exact q
  tbls := fun b ps q => ⟨#[], by rw [upd_ne (ne_of_none q hn), q]; simp⟩
theorem Un.write (mu : Mut (H x)) (he : e = x ∨ H e = some (.own x)) (k : ∀ b u, b ≠ e → h.get? b = some u → h'.get? b = some u) (heo : ∃ u, h'.get? e = some u) : Un fs ex H (upd H x o) h h' := by
  have hx : ∀ b, H b = none → b ≠ x := fun b n z => by subst z; rw [n] at mu; exact mu
  have hb : ∀ b, H b = none → b ≠ e := fun b n z => by
    subst z
    rcases he with r | r
    · exact hx b n r
    · rw [n] at r; cases r
  have hm : ∀ b u, H b = some u → ¬ Mut (some u) → b ≠ x := fun b u q nm z => by subst z; rw [q] at mu; exact nm mu
  refine ⟨fun b u q n _ _ => k b u (hb b n) q, fun b u q n _ _ => ⟨u.slots, k b u (hb b n) q⟩, fun b u q n _ => by rw [upd_ne (hx b n)]; exact n, fun b u q _ => ?_,
    fun b xs q => by rw [upd_ne (hm b _ q fun z => z)]; exact q, fun b u xs q => by rw [upd_ne (hm b _ q fun z => z)]; exact q, fun b ps q => ⟨#[], by rw [upd_ne (hm b _ q fun z => z), q]; simp⟩⟩
  by_cases hbe : b = e
  · subst hbe; exact heo
  · exact ⟨u, k b u hbe q⟩
theorem Un.mono (u : Un fs ex H H1 h h1) (hs : ∀ b ∈ fs, b ∈ fs') (hx : ∀ b ∈ ex, b ∈ ex') : Un fs' ex' H H1 h h1 :=
  ⟨fun b ob q n hb he => u.keep b ob q n (fun z => hb (hs b z)) fun z => he (hx b z), fun _ _ q n _ he => u.any q n fun z => he (hx _ z), fun b ob q n he => u.free b ob q n fun z => he (hx b z), fun b ob q he => u.there b ob q fun z => he (hx b z), u.tups, u.frzs, u.tbls⟩
end

/-! ### the heap without what is tracked -/
def trk (h : Heap) (H : Hp) : List Addr := (List.range h.objs.size).filter fun a => (H a).isSome
def hidT (h : Heap) (H : Hp) : Heap := PySem.W.hideAll h (trk h H)
theorem hidT_size (h : Heap) (H : Hp) : (hidT h H).objs.size = h.objs.size := PySem.W.hideAll_size _ _
theorem hidT_get {h : Heap} {H : Hp} {b : Addr} {o : Obj} (e : h.get? b = some o) (n : H b = none) : (hidT h H).get? b = some o :=
  PySem.W.hideAll_get _ e fun hm => by
    have q : (H b).isSome = true := (List.mem_filter.mp hm).2
    rw [n] at q; simp at q
theorem of_hidT {h : Heap} {H : Hp} {b : Addr} {o : Obj} (e : (hidT h H).get? b = some o) : h.get? b = some o ∧ H b = none := by
  have e' : h.get? b = some o := PySem.W.of_hideAll (trk h H) e
  refine ⟨e', ?_⟩
  cases q : H b with
  | none => rfl
  | some x =>
    have hm : b ∈ trk h H := List.mem_filter.mpr ⟨List.mem_range.mpr (Heap.lt_size e'), by simp [q]⟩
    have z : (hidT h H).get? b = none := PySem.W.hideAll_none (trk h H) hm
    rw [z] at e; cases e

/-! ### OpenK's ledger, filled with every new object but one -/
def allNews (g h : Heap) (L : Addr) : List (Addr × Obj) := (List.range h.objs.size).filterMap fun a => if a = L ∨ (g.get? a).isSome = true then none else (h.get? a).map fun o => (a, o)
theorem mem_allNews {g h : Heap} {L a : Addr} {o : Obj} (h1 : a ≠ L) (h2 : g.get? a = none) (h3 : h.get? a = some o) : (a, o) ∈ allNews g h L :=
  List.mem_filterMap.mpr ⟨a, List.mem_range.mpr (Heap.lt_size h3), by simp [h1, h2, h3]⟩
theorem of_mem_allNews {g h : Heap} {L : Addr} {p : Addr × Obj} (hp : p ∈ allNews g h L) : p.1 ≠ L ∧ g.get? p.1 = none ∧ h.get? p.1 = some p.2 := by
  obtain ⟨b, _, e⟩ := List.mem_filterMap.mp hp
  split at e
  · cases e
  · rename_i hn
    cases q : h.get? b with
    | none => rw [q] at e; simp at e
    | some u =>
      rw [q] at e
      simp only [Option.map_some, Option.some.injEq] at e
      subst e
      refine ⟨fun z => hn (.inl z), ?_, q⟩
      show g.get? b = none
      cases r : g.get? b with
      | none => rfl
      | some v => exact (hn (.inr (by simp [r]))).elim
def rest (g h : Heap) (L d : Addr) : List (Addr × Obj) := (allNews g h L).filter fun p => decide (p.1 ≠ d)
theorem rest_ne {g h : Heap} {L d : Addr} : ∀ p ∈ rest g h L d, p.1 ≠ d := fun p hp => of_decide_eq_true (List.mem_filter.mp hp).2
theorem mem_rest {g h : Heap} {L d a : Addr} {o : Obj} (h1 : a ≠ L) (h2 : g.get? a = none) (h3 : h.get? a = some o) (h4 : a ≠ d) : (a, o) ∈ rest g h L d :=
  List.mem_filter.mpr ⟨mem_allNews h1 h2 h3, decide_eq_true h4⟩
theorem news_all {g h : Heap} {L : Addr} : News g L h (allNews g h L) := fun p hp => let ⟨a, b, c⟩ := of_mem_allNews hp; ⟨c, a, b⟩
theorem news_at {g h : Heap} {L d : Addr} {o : Obj} (h1 : d ≠ L) (h2 : g.get? d = none) (h3 : h.get? d = some o) : News g L h ((d, o) :: rest g h L d) := fun p hp => by
  rcases List.mem_cons.mp hp with rfl | hp
  · exact ⟨h3, h1, h2⟩
  · exact news_all p (List.mem_filter.mp hp).1
/-- behind a rule that changed d alone: all else but the frame is kept -/
theorem kept_of_news {g h h' : Heap} {L d : Addr} {m : Str → Option Value} (k : ∀ b o, g.get? b = some o → h.get? b = some o) (F : Fr g L h' m) (N : News g L h' (rest g h L d)) :
    ∀ b o, b ≠ L → b ≠ d → h.get? b = some o → h'.get? b = some o := fun b o h1 h2 e => by
  cases q : g.get? b with
  | some u =>
    have := k b u q
    rw [e] at this; cases this
    exact F.keep b _ q
  | none => exact (N (b, o) (mem_rest h1 q e h2)).1
end L2

namespace L2
open PySem PySem.Spec PyProof.Rows

/-- the module's facts, over the base: the heap at the law's entry without what is tracked there -/
structure Mod (K : PySem.W.Frag) (mg : Str → Option Value) (base : Heap) : Prop where
  kin : K.In base
  glob : base.Ns mainGlobals mg
  blt : ∃ mb, base.Ns builtinsNs mb ∧ ∀ x : Str, x ≠ "__name__" → mb x = bootBuiltins x
  nolimit : base.NoLimit

/-- the context: a def's body (or a comprehension's block) running. base: fixed through the whole law; s₀, H₀: the entry; outer: the frames whose slots others may change (a def's callers); stack: all frames that run;
   ex: iterators that were made ahead of the entry and are walked here (a comprehension's); fn: the names whose cells were made at the entry (a def: all; a comprehension's block: its own); calm: not within an except suite; pn: pins that every state bears; xe: what is wanted of an exception that leaves the code -/
structure Cx where
  prog : Program
  w : World
  K : PySem.W.Frag
  mg : Str → Option Value
  base : Heap
  A : Around
  N : List Str
  s₀ : Shared
  H₀ : Hp
  env : Env
  outer : List Env
  stack : List Env
  ex : List Addr
  fn : Str → Bool
  calm : Bool
  pn : List (Addr × Obj)
  xe : Value → Shared → Prop
/-- the callers' frames -/
def frs (l : List Env) : List Addr := l.filterMap (·.frame)
abbrev Cx.fs (X : Cx) : List Addr := frs X.outer

def Vis (sc : Scope) (x : Str) : Prop := sc.names.lookup x = some .local ∨ sc.names.lookup x = some .cell ∨ sc.names.lookup x = some .free
def Loc (sc : Scope) (x : Str) : Prop := sc.names.lookup x = some .local ∨ sc.names.lookup x = some .cell
def Look (env : Env) (h : Heap) (m : Str → Option Value) (x : Str) (u : Value) : Prop :=
  (env.kindOf x = some .local ∧ m x = some u) ∨ ((env.kindOf x = some .cell ∨ env.kindOf x = some .free) ∧ ∃ c, env.cells.lookup x = some c ∧ h.IsCell c (some u))

structure Cx.Ok (X : Cx) : Prop where
  mod : Mod X.K X.mg X.base
  kind : X.env.scope.kind = .function
  glob : X.env.globals = mainGlobals
  blt : X.env.builtins = builtinsNs
  above : X.s₀.heap.objs.size ≤ X.env.locals
  inj : ∀ x y c, X.env.cells.lookup x = some c → X.env.cells.lookup y = some c → x = y
  has : ∀ x, (X.env.kindOf x = some .cell ∨ X.env.kindOf x = some .free) → ∃ c, X.env.cells.lookup x = some c
  cab : ∀ x c, X.fn x = true → X.env.cells.lookup x = some c → X.s₀.heap.objs.size ≤ c
  hd : X.calm = true → X.A.handled = none
  frames : X.A.frames = some X.stack
  stk : X.stack = X.outer ∨ (X.stack = X.env :: X.outer ∧ X.env.frame = some X.env.locals)
  exf : ∀ b ∈ X.ex, b ≠ X.env.locals ∧ ∀ x c, X.env.cells.lookup x = some c → c ≠ b
  bs : ∀ b o, X.base.get? b = some o → X.s₀.heap.get? b = some o ∧ X.H₀ b = none
  bsz : X.base.objs.size ≤ X.s₀.heap.objs.size
  noex : ∀ b o, X.base.get? b = some o → b ∉ X.ex
  exfs : ∀ b ∈ X.ex, b ∉ X.fs
  funs : X.s₀.heap.FunFrames X.base X.outer
  frf : ∀ b ∈ X.fs, X.H₀ b = none

structure Inv (X : Cx) (pins : List (Addr × Obj)) (σ : List (Option V)) (H : Hp) (s : Shared) : Prop where
  ok : X.Ok
  os : s.os = X.s₀.os
  bare : AllBare s.gens
  base : Un X.fs X.ex X.H₀ H X.s₀.heap s.heap
  loc : ∃ m, s.heap.Ns X.env.locals m ∧ ∀ (i : Nat) (x : Str) (v : V), X.N[i]? = some x → σ[i]? = some (some v) → Vis X.env.scope x → ∃ u, RelV v u ∧ Look X.env s.heap m x u
  cell : ∀ x c, X.env.cells.lookup x = some c → ∃ v, s.heap.IsCell c v
  free : H X.env.locals = none
  freeC : ∀ x c, X.env.cells.lookup x = some c → H c = none
  pin : ∀ p ∈ X.pn ++ pins, s.heap.get? p.1 = some p.2 ∧ H p.1 = none ∧ p.1 ≠ X.env.locals ∧ p.1 ∉ X.fs ∧ ∀ v, p.2.data ≠ .cell v
  hok : HOk X.prog X.w H s.heap
  len : σ.length = X.N.length

section
variable {X : Cx} {pins : List (Addr × Obj)} {σ : List (Option V)} {H H' : Hp} {s : Shared} {h' : Heap}

theorem Cx.Ok.nofr (ok : X.Ok) {b : Addr} {o : Obj} (e : X.base.get? b = some o) : b ∉ X.fs := fun hb => by
  have := (ok.funs.mem hb).1
  rw [e] at this; cases this
theorem Inv.bs (I : Inv X pins σ H s) : ∀ b o, X.base.get? b = some o → s.heap.get? b = some o ∧ H b = none := fun b o e =>
  ⟨I.base.keep b o (I.ok.bs b o e).1 (I.ok.bs b o e).2 (I.ok.nofr e) (I.ok.noex b o e), I.base.free b o (I.ok.bs b o e).1 (I.ok.bs b o e).2 (I.ok.noex b o e)⟩
theorem Inv.bk (I : Inv X pins σ H s) : ∀ b o, X.base.get? b = some o → s.heap.get? b = some o := fun b o e => (I.bs b o e).1
theorem Inv.mod (I : Inv X pins σ H s) : Mod X.K X.mg X.base := I.ok.mod
theorem Inv.kIn (I : Inv X pins σ H s) : X.K.In s.heap := I.ok.mod.kin.keeps I.bk
theorem Inv.nolimit (I : Inv X pins σ H s) : s.heap.NoLimit := I.ok.mod.nolimit.keeps I.bk
/-- the frame over the base: for OpenK's rules (K.In X.base is I.mod.kin) -/
theorem Inv.fr (I : Inv X pins σ H s) : ∃ m, Fr X.base X.env.locals s.heap m :=
  let ⟨m, hn, _⟩ := I.loc
  ⟨m, hn, I.bk, Nat.le_trans I.ok.bsz I.ok.above⟩
theorem Inv.lt (I : Inv X pins σ H s) : X.env.locals < s.heap.objs.size := let ⟨_, hn, _⟩ := I.loc; hn.lt
theorem Inv.sz (I : Inv X pins σ H s) : X.s₀.heap.objs.size ≤ s.heap.objs.size := Nat.le_trans I.ok.above (Nat.le_of_lt I.lt)
theorem Inv.nofs (I : Inv X pins σ H s) {a : Addr} (h : s.heap.objs.size ≤ a) : a ∉ X.fs := fun hb => by
  obtain ⟨_, o, ho, _⟩ := I.ok.funs.mem hb
  exact absurd (Nat.lt_of_lt_of_le (Heap.lt_size ho) (Nat.le_trans I.sz h)) (Nat.lt_irrefl _)
theorem Inv.cne (I : Inv X pins σ H s) : ∀ x c, X.env.cells.lookup x = some c → c ≠ X.env.locals := fun x c e z => by
  obtain ⟨v, o, ho, hd⟩ := I.cell x c e
  obtain ⟨m, ⟨o', es, ep, ho', hd', _⟩, _⟩ := I.loc
  rw [z, ho'] at ho; cases ho; rw [hd'] at hd; cases hd
theorem Inv.funs (I : Inv X pins σ H s) : s.heap.FunFrames X.base X.outer := by
  have all : ∀ (l : List Env), (∀ b ∈ frs l, b ∈ X.fs) → X.s₀.heap.FunFrames X.base l → s.heap.FunFrames X.base l := by
    intro l
    induction l with
    | nil => intro _ _; trivial
    | cons env r ih =>
      intro hs hl
      obtain ⟨hk, ⟨L, o, hf, hn, ho, hd⟩, hr⟩ := hl
      have hL : L ∈ X.fs := hs L (by unfold frs; rw [List.filterMap_cons, hf]; exact List.mem_cons_self)
      obtain ⟨sl, e⟩ := I.base.slot L o ho (I.ok.frf L hL) hL fun z => I.ok.exfs L z hL
      exact ⟨hk, ⟨L, _, hf, hn, e, hd⟩, ih (fun b hb => hs b (by unfold frs; rw [List.filterMap_cons, hf]; exact List.mem_cons_of_mem _ hb)) hr⟩
  exact all X.outer (fun _ hb => hb) I.ok.funs

/-- the frames that run, for a call -/
theorem Inv.stack (I : Inv X pins σ H s) : s.heap.FunFrames X.base X.stack := by
  rcases I.ok.stk with e | ⟨e, hf⟩
  · rw [e]; exact I.funs
  · rw [e]
    obtain ⟨m, hn, _⟩ := I.loc
    refine .cons (by rw [I.ok.kind]; decide) hf hn ?_ I.funs
    exact Heap.get?_none_of_le (Nat.le_trans I.ok.bsz I.ok.above)
theorem Inv.stkSub (I : Inv X pins σ H s) : ∀ b ∈ frs X.stack, b ∈ X.env.locals :: X.fs := fun b hb => by
  rcases I.ok.stk with e | ⟨e, hf⟩
  · rw [e] at hb; exact List.mem_cons_of_mem _ hb
  · rw [e] at hb
    unfold frs at hb
    rw [List.filterMap_cons, hf] at hb
    exact hb
theorem Inv.stkFree (I : Inv X pins σ H s) : ∀ b ∈ frs X.stack, H b = none := fun b hb => by
  rcases List.mem_cons.mp (I.stkSub b hb) with e | hb
  · rw [e]; exact I.free
  · obtain ⟨_, o, ho, _⟩ := I.ok.funs.mem hb
    exact I.base.free b o ho (I.ok.frf b hb) fun z => I.ok.exfs b z hb

/-- THE STEP: the untracked objects but the frame and the records at ch are kept (the callers' frames up to slots), the frame's map is kept, the new abstract heap is held -/
theorem Inv.step {g' : Array GenState} {t' : Nat} {d' : Drawn} {ch : List Addr} (I : Inv X pins σ H s)
    (hch : ∀ b ∈ ch, (b ∈ X.ex ∨ X.s₀.heap.objs.size ≤ b) ∧ b ≠ X.env.locals ∧ (∀ x c, X.env.cells.lookup x = some c → c ≠ b) ∧ ∀ p ∈ X.pn ++ pins, p.1 ≠ b)
    (keep : ∀ b o, b ≠ X.env.locals → b ∉ X.fs → b ∉ ch → s.heap.get? b = some o → H b = none → h'.get? b = some o)
    (slot : ∀ b o, b ≠ X.env.locals → b ∈ X.fs → b ∉ ch → s.heap.get? b = some o → H b = none → ∃ sl, h'.get? b = some { o with slots := sl }) (free : ∀ b o, b ∉ ch → s.heap.get? b = some o → H b = none → H' b = none)
    (there : ∀ b o, b ∉ ch → s.heap.get? b = some o → ∃ o', h'.get? b = some o')
    (tups : ∀ b xs, H b = some (.tup xs) → H' b = some (.tup xs)) (frzs : ∀ b o u, H b = some (.frz o u) → H' b = some (.frz o u)) (tbls : ∀ b ps, H b = some (.tbl ps) → ∃ more, H' b = some (.tbl (ps ++ more)))
    (ns : ∀ m, s.heap.Ns X.env.locals m → h'.Ns X.env.locals m) (hok : HOk X.prog X.w H' h') (hg : AllBare g') :
    Inv X pins σ H' { s with heap := h', gens := g', drawn := d', toks := t' } := by
  have neL : ∀ b o, X.s₀.heap.get? b = some o → b ≠ X.env.locals := fun b o e => Nat.ne_of_lt (Nat.lt_of_lt_of_le (Heap.lt_size e) I.ok.above)
  have neC : ∀ b o, X.s₀.heap.get? b = some o → b ∉ X.ex → b ∉ ch := fun b o e hx hb => by
    rcases (hch b hb).1 with z | z
    · exact hx z
    · exact absurd (Nat.lt_of_lt_of_le (Heap.lt_size e) z) (Nat.lt_irrefl _)
  have cellK : ∀ x c, X.env.cells.lookup x = some c → ∀ v, s.heap.IsCell c v → h'.IsCell c v := fun x c e v ⟨o, ho, hd⟩ => by
    have nch : c ∉ ch := fun z => (hch c z).2.2.1 x c e rfl
    by_cases hc : c ∈ X.fs
    · obtain ⟨sl, q⟩ := slot c o (I.cne x c e) hc nch ho (I.freeC x c e)
      exact ⟨_, q, hd⟩
    · exact ⟨o, keep c o (I.cne x c e) hc nch ho (I.freeC x c e), hd⟩
  refine ⟨I.ok, I.os, hg, ⟨fun b o e n hb hx => ?_, fun b o e n hb hx => ?_, fun b o e n hx => ?_, fun b o e hx => ?_, fun b xs e => tups b xs (I.base.tups b xs e), fun b o xs e => frzs b o xs (I.base.frzs b o xs e), fun b ps e => ?_⟩, ?_, fun x c e => ?_, ?_, fun x c e => ?_, fun p hp => ?_, hok, I.len⟩
  · exact keep b o (neL b o e) hb (neC b o e hx) (I.base.keep b o e n hb hx) (I.base.free b o e n hx)
  · obtain ⟨sl, e1⟩ := I.base.slot b o e n hb hx
    obtain ⟨sl', e2⟩ := slot b _ (neL b o e) hb (neC b o e hx) e1 (I.base.free b o e n hx)
    exact ⟨sl', e2⟩
  · obtain ⟨o', e1⟩ := I.base.there b o e hx
    exact free b o' (neC b o e hx) e1 (I.base.free b o e n hx)
  · obtain ⟨o', e1⟩ := I.base.there b o e hx
    exact there b o' (neC b o e hx) e1
  · obtain ⟨m1, e1⟩ := I.base.tbls b ps e
    obtain ⟨m2, e2⟩ := tbls b _ e1
    exact ⟨m1 ++ m2, by rw [e2, Array.append_assoc]⟩
  · obtain ⟨m, hn, hl⟩ := I.loc
    refine ⟨m, ns m hn, fun i x v e1 e2 e3 => ?_⟩
    obtain ⟨u, r, l⟩ := hl i x v e1 e2 e3
    refine ⟨u, r, ?_⟩
    rcases l with l | ⟨k, c, e, z⟩
    · exact .inl l
    · exact .inr ⟨k, c, e, cellK x c e _ z⟩
  · obtain ⟨v, z⟩ := I.cell x c e
    exact ⟨v, cellK x c e v z⟩
  · obtain ⟨m, ⟨o, _, _, ho, _⟩, _⟩ := I.loc
    exact free _ o (fun z => (hch _ z).2.1 rfl) ho I.free
  · obtain ⟨v, o, ho, hd⟩ := I.cell x c e
    exact free c o (fun z => (hch c z).2.2.1 x c e rfl) ho (I.freeC x c e)
  · obtain ⟨e, n, ne, nf, d⟩ := I.pin p hp
    have nch : p.1 ∉ ch := fun z => (hch p.1 z).2.2.2 p hp rfl
    exact ⟨keep p.1 p.2 ne nf nch e n, free p.1 p.2 nch e n, ne, nf, d⟩
/-- .. where the frame's own object is kept too -/
theorem Inv.un {t' : Nat} (I : Inv X pins σ H s) (u : Un X.fs [] H H' s.heap h') (hok : HOk X.prog X.w H' h') : Inv X pins σ H' { s with heap := h', toks := t' } := by
  obtain ⟨m, ⟨o, es, ep, ho, r⟩, _⟩ := id I.loc
  obtain ⟨sl, hL⟩ := u.any ho I.free (by simp)
  exact I.step (g' := s.gens) (d' := s.drawn) (ch := []) (fun _ z => nomatch z) (fun b o _ hb _ e n => u.keep b o e n hb (by simp)) (fun b o _ hb _ e n => u.slot b o e n hb (by simp)) (fun b o _ e n => u.free b o e n (by simp)) (fun b o _ e => u.there b o e (by simp)) u.tups u.frzs u.tbls (fun m' hm => by
    obtain ⟨o', es', ep', ho', r'⟩ := hm
    rw [ho] at ho'; cases ho'
    exact ⟨_, es', ep', hL, r'⟩) hok I.bare
/-- behind a call (or a comprehension's block): the slots of this frame may have changed too, the records at ch may have turned -/
theorem Inv.call {g' : Array GenState} {t' : Nat} {d' : Drawn} {ch : List Addr} (I : Inv X pins σ H s) (u : Un (frs X.stack) ch H H' s.heap h') (hok : HOk X.prog X.w H' h') (hg : AllBare g')
    (hch : ∀ b ∈ ch, (b ∈ X.ex ∨ X.s₀.heap.objs.size ≤ b) ∧ b ≠ X.env.locals ∧ (∀ x c, X.env.cells.lookup x = some c → c ≠ b) ∧ ∀ p ∈ X.pn ++ pins, p.1 ≠ b) :
    Inv X pins σ H' { s with heap := h', gens := g', drawn := d', toks := t' } := by
  obtain ⟨m, ⟨o, es, ep, ho, r⟩, _⟩ := id I.loc
  obtain ⟨sl, hL⟩ := u.any ho I.free fun z => (hch _ z).2.1 rfl
  exact I.step (ch := ch) hch (fun b o hL hb hc e n => u.keep b o e n (fun z => (List.mem_cons.mp (I.stkSub b z)).elim hL hb) hc) (fun b o _ _ hc e n => u.any e n hc) (fun b o hc e n => u.free b o e n hc) (fun b o hc e => u.there b o e hc) u.tups u.frzs u.tbls (fun m' hm => by
    obtain ⟨o', es', ep', ho', r'⟩ := hm
    rw [ho] at ho'; cases ho'
    exact ⟨_, es', ep', hL, r'⟩) hok hg
/-- an untracked record of ours (an iterator) has turned -/
theorem Inv.turned {t' : Nat} {it : Addr} (I : Inv X pins σ H s) (k : ∀ b o, b ≠ it → s.heap.get? b = some o → h'.get? b = some o) (hn : H it = none) (hL : it ≠ X.env.locals)
    (h1 : it ∈ X.ex ∨ X.s₀.heap.objs.size ≤ it) (h2 : ∀ x c, X.env.cells.lookup x = some c → c ≠ it) (h3 : ∀ p ∈ X.pn ++ pins, p.1 ≠ it) : Inv X pins σ H { s with heap := h', toks := t' } := by
  have nit : ∀ b u, H b = some u → b ≠ it := fun b u e z => by rw [z, hn] at e; cases e
  refine I.step (g' := s.gens) (d' := s.drawn) (ch := [it]) (fun b hb => ?_) (fun b o _ _ hc e _ => k b o (fun z => hc (by simp [z])) e) (fun b o _ _ hc e _ => ⟨o.slots, k b o (fun z => hc (by simp [z])) e⟩) (fun _ _ _ _ n => n)
    (fun b o hc e => ⟨o, k b o (fun z => hc (by simp [z])) e⟩) (fun _ _ e => e) (fun _ _ _ e => e) (fun b ps e => ⟨#[], by rw [e]; simp⟩) (fun m hm => ?_) (fun b u e => ?_) I.bare
  · have e : b = it := by simpa using hb
    subst e
    exact ⟨h1, hL, h2, h3⟩
  · obtain ⟨o, es, ep, ho, r⟩ := hm
    exact ⟨o, es, ep, k _ o (Ne.symm hL) ho, r⟩
  · refine (I.hok b u e).stay (fun c v hc q => k c v ?_ q) (fun _ q => q) fun _ _ q => q
    rcases hc with z | z
    · rw [z]; exact nit b u e
    · exact nit c _ z
theorem Inv.tok (I : Inv X pins σ H s) (t : Nat) : Inv X pins σ H { s with toks := t } := I.un (h' := s.heap) (t' := t) Un.refl I.hok
/-- all objects kept -/
theorem Inv.kept {t' : Nat} (I : Inv X pins σ H s) (k : ∀ b u, s.heap.get? b = some u → h'.get? b = some u) : Inv X pins σ H { s with heap := h', toks := t' } := I.un (Un.kept k) (I.hok.kept k)
/-- a new object laid and tracked -/
theorem Inv.laid {a : Addr} {o : HO} {t' : Nat} (I : Inv X pins σ H s) (k : ∀ b u, s.heap.get? b = some u → h'.get? b = some u) (hp : s.heap.objs.size ≤ a) (new : ObjOk X.prog X.w (upd H a o) h' a o) :
    Inv X pins σ (upd H a o) { s with heap := h', toks := t' } := I.un (Un.laid k hp (I.hok.fresh hp)) (I.hok.laid k hp new)
/-- an object written -/
theorem Inv.write {x e : Addr} {o : HO} {t' : Nat} (I : Inv X pins σ H s) (mu : Mut (H x)) (he : e = x ∨ H e = some (.own x)) (k : ∀ b u, b ≠ e → s.heap.get? b = some u → h'.get? b = some u) (heo : ∃ u, h'.get? e = some u)
    (new : ObjOk X.prog X.w (upd H x o) h' x o) : Inv X pins σ (upd H x o) { s with heap := h', toks := t' } := I.un (Un.write mu he k heo) (I.hok.write mu he k heo new)
/-- forgetting slots, pins -/
theorem Inv.weak {σ' : List (Option V)} (I : Inv X pins σ H s) (hl : σ'.length = σ.length) (w : ∀ (i : Nat) v, σ'[i]? = some (some v) → σ[i]? = some (some v)) : Inv X pins σ' H s :=
  ⟨I.ok, I.os, I.bare, I.base, let ⟨m, hn, hl'⟩ := I.loc; ⟨m, hn, fun i x v e1 e2 e3 => hl' i x v e1 (w i v e2) e3⟩, I.cell, I.free, I.freeC, I.pin, I.hok, hl.trans I.len⟩
theorem Inv.pins_of {pins' : List (Addr × Obj)} (I : Inv X pins σ H s) (h : ∀ p ∈ pins', s.heap.get? p.1 = some p.2 ∧ H p.1 = none ∧ p.1 ≠ X.env.locals ∧ p.1 ∉ X.fs ∧ ∀ v, p.2.data ≠ .cell v) : Inv X pins' σ H s :=
  ⟨I.ok, I.os, I.bare, I.base, I.loc, I.cell, I.free, I.freeC, fun p hp => (List.mem_append.mp hp).elim (fun z => I.pin p (List.mem_append_left _ z)) (h p), I.hok, I.len⟩

theorem nodup_ix {N : List Str} (hN : N.Nodup) {i j : Nat} {x : Str} (a : N[i]? = some x) (b : N[j]? = some x) : i = j := by
  obtain ⟨h1, e1⟩ := List.getElem?_eq_some_iff.mp a
  obtain ⟨h2, e2⟩ := List.getElem?_eq_some_iff.mp b
  exact (List.getElem_inj hN).mp (e1.trans e2.symm)

/-- a name is stored; what changed -/
theorem store_ok2 {M : Model} {A : Around} {E : Value → Shared → Prop} {i : Nat} {x : Str} {v : V} {u : Value} {Q : Unit → Shared → Prop} (I : Inv X pins σ H s) (hN : X.N.Nodup) (hi : X.N[i]? = some x) (hx : Loc X.env.scope x) (r : RelV v u)
    (h : ∀ s', Inv X pins (σ.set i (some v)) H s' → (∃ a, Heap.SameBut a s.heap s'.heap ∧ (a = X.env.locals ∨ X.env.cells.lookup x = some a)) → Q () s') (hf : X.fn x = true ∨ X.env.scope.names.lookup x = some .local := by first | exact .inl rfl | exact .inr rfl | assumption) : wpAny M A (storeName X.env x u) Q E s := by
  obtain ⟨m, hn, hl⟩ := id I.loc
  have hcls : (X.env.scope.kind == .class || (X.env.scope.kind == .module && X.env.locals != X.env.globals)) = false := by rw [I.ok.kind]; rfl
  have hiσ : i < σ.length := by rw [I.len]; exact (List.getElem?_eq_some_iff.mp hi).1
  have cne := I.cne
  have tracked : ∀ {a : Addr} {h' : Heap}, (∃ o, s.heap.get? a = some o ∧ H a = none) → Heap.SameBut a s.heap h' → HOk X.prog X.w H h' := fun {a h'} ha hs b ob e => by
    obtain ⟨_, _, hfree⟩ := ha
    refine (I.hok b ob e).stay (fun c w' hc q => (hs.2 c ?_).trans q) (fun _ q => q) fun _ _ q => q
    rintro rfl
    rcases hc with rfl | hc
    · rw [hfree] at e; cases e
    · rw [hfree] at hc; cases hc
  rcases hx with hk | hk
  · refine wpAny_storeName_local hk hn (fun h' hn' hs => ?_) hcls
    obtain ⟨oL, _, _, hoL, _⟩ := id hn
    refine h _ ⟨I.ok, I.os, I.bare, ⟨fun b o e n hb hx => ?_, fun b o e n hb hx => ?_, I.base.free, fun b o e hx => ?_, I.base.tups, I.base.frzs, I.base.tbls⟩, ⟨_, hn', fun j y v' e1 e2 e3 => ?_⟩, fun y c e => ?_, I.free, I.freeC, fun p hp => ?_, tracked ⟨oL, hoL, I.free⟩ hs, by simpa using I.len⟩ ⟨_, hs, .inl rfl⟩
    · exact (hs.2 b (Nat.ne_of_lt (Nat.lt_of_lt_of_le (Heap.lt_size e) I.ok.above))).trans (I.base.keep b o e n hb hx)
    · obtain ⟨sl, e1⟩ := I.base.slot b o e n hb hx
      exact ⟨sl, (hs.2 b (Nat.ne_of_lt (Nat.lt_of_lt_of_le (Heap.lt_size e) I.ok.above))).trans e1⟩
    · obtain ⟨o', e1⟩ := I.base.there b o e hx
      exact ⟨o', (hs.2 b (Nat.ne_of_lt (Nat.lt_of_lt_of_le (Heap.lt_size e) I.ok.above))).trans e1⟩
    · by_cases hj : j = i
      · subst hj
        rw [hi] at e1; cases e1
        rw [List.getElem?_set_self hiσ] at e2
        cases e2
        exact ⟨u, r, .inl ⟨hk, by simp⟩⟩
      · rw [List.getElem?_set_ne (Ne.symm hj)] at e2
        obtain ⟨u', r', q⟩ := hl j y v' e1 e2 e3
        refine ⟨u', r', ?_⟩
        rcases q with ⟨k, e⟩ | ⟨k, c, e, z⟩
        · refine .inl ⟨k, ?_⟩
          have : y ≠ x := fun e => hj (nodup_ix hN e1 (e ▸ hi))
          simp [this, e]
        · exact .inr ⟨k, c, e, z.sameBut hs (cne y c e)⟩
    · obtain ⟨w', z⟩ := I.cell y c e
      exact ⟨w', z.sameBut hs (cne y c e)⟩
    · obtain ⟨e, n, ne, nf, d⟩ := I.pin p hp
      exact ⟨(hs.2 p.1 ne).trans e, n, ne, nf, d⟩
  · have hfn : X.fn x = true := by
      rcases hf with z | z
      · exact z
      · rw [z] at hk; cases hk
    obtain ⟨c, hc⟩ := I.ok.has x (.inl hk)
    obtain ⟨w', z⟩ := I.cell x c hc
    refine wpAny_storeName_cell I.ok.kind hk hc z (fun h' hc' hs => ?_)
    obtain ⟨oc, hoc, hocd⟩ := id z
    refine h { s with heap := h' } ⟨I.ok, I.os, I.bare, ⟨fun b o e n hb hx => ?_, fun b o e n hb hx => ?_, I.base.free, fun b o e hx => ?_, I.base.tups, I.base.frzs, I.base.tbls⟩, ⟨m, hn.sameBut hs (Ne.symm (cne x c hc)), fun j y v' e1 e2 e3 => ?_⟩, fun y c' e => ?_, I.free, I.freeC, fun p hp => ?_, tracked ⟨oc, hoc, I.freeC x c hc⟩ hs, by simpa using I.len⟩ ⟨c, hs, .inr hc⟩
    · exact (hs.2 b (Nat.ne_of_lt (Nat.lt_of_lt_of_le (Heap.lt_size e) (I.ok.cab x c hfn hc)))).trans (I.base.keep b o e n hb hx)
    · obtain ⟨sl, e1⟩ := I.base.slot b o e n hb hx
      exact ⟨sl, (hs.2 b (Nat.ne_of_lt (Nat.lt_of_lt_of_le (Heap.lt_size e) (I.ok.cab x c hfn hc)))).trans e1⟩
    · obtain ⟨o', e1⟩ := I.base.there b o e hx
      exact ⟨o', (hs.2 b (Nat.ne_of_lt (Nat.lt_of_lt_of_le (Heap.lt_size e) (I.ok.cab x c hfn hc)))).trans e1⟩
    · by_cases hj : j = i
      · subst hj
        rw [hi] at e1; cases e1
        rw [List.getElem?_set_self hiσ] at e2
        cases e2
        exact ⟨u, r, .inr ⟨.inl hk, c, hc, hc'⟩⟩
      · rw [List.getElem?_set_ne (Ne.symm hj)] at e2
        obtain ⟨u', r', q⟩ := hl j y v' e1 e2 e3
        refine ⟨u', r', ?_⟩
        rcases q with q | ⟨k, c', e, z'⟩
        · exact .inl q
        · refine .inr ⟨k, c', e, z'.sameBut hs ?_⟩
          rintro rfl
          exact hj (nodup_ix hN e1 (I.ok.inj _ _ _ e hc ▸ hi))
    · by_cases hcc : c' = c
      · subst hcc; exact ⟨_, hc'⟩
      · obtain ⟨w2, z2⟩ := I.cell y c' e
        exact ⟨w2, z2.sameBut hs hcc⟩
    · obtain ⟨e, n, ne, nf, d⟩ := I.pin p hp
      refine ⟨(hs.2 p.1 ?_).trans e, n, ne, nf, d⟩
      intro q
      rw [q, hoc] at e
      have q' : oc = p.2 := Option.some.inj e
      exact d w' (by rw [← q']; exact hocd)
theorem store_ok {M : Model} {A : Around} {E : Value → Shared → Prop} {i : Nat} {x : Str} {v : V} {u : Value} {Q : Unit → Shared → Prop} (I : Inv X pins σ H s) (hN : X.N.Nodup) (hi : X.N[i]? = some x) (hx : Loc X.env.scope x) (r : RelV v u)
    (h : ∀ s', Inv X pins (σ.set i (some v)) H s' → Q () s') (hf : X.fn x = true ∨ X.env.scope.names.lookup x = some .local := by first | exact .inl rfl | exact .inr rfl | assumption) : wpAny M A (storeName X.env x u) Q E s :=
  store_ok2 I hN hi hx r (fun s' I' _ => h s' I') hf
/-- behind a call or a block, the state as it is -/
theorem Inv.call' {s' : Shared} {ch : List Addr} (I : Inv X pins σ H s) (ho : s'.os = s.os) (u : Un (frs X.stack) ch H H' s.heap s'.heap) (hok : HOk X.prog X.w H' s'.heap) (hg : AllBare s'.gens)
    (hch : ∀ b ∈ ch, (b ∈ X.ex ∨ X.s₀.heap.objs.size ≤ b) ∧ b ≠ X.env.locals ∧ (∀ x c, X.env.cells.lookup x = some c → c ≠ b) ∧ ∀ p ∈ X.pn ++ pins, p.1 ≠ b) : Inv X pins σ H' s' := by
  obtain ⟨h', g', d', t', o'⟩ := s'
  have e : o' = s.os := ho
  subst e
  exact I.call (g' := g') (t' := t') (d' := d') u hok hg hch
end

/-! ### the judgements -/
/-- an exception: its class, its own dict's address (where it has one), the abstract heap behind it -/
abbrev XK := Value → Option Addr → Hp → Prop
abbrev St := List (Option V)
abbrev VK := V → Hp → Prop
/-- an expression's reading; a test's; an argument list's -/
abbrev TE := St → Hp → VK → Prop
abbrev TT := St → Hp → (Bool → Hp → Prop) → Prop
abbrev TA := St → Hp → (List V → Hp → Prop) → Prop
/-- what is wanted behind a statement -/
structure Ends where
  nx : St → Hp → Prop
  rt : VK
  bk : St → Hp → Prop := fun _ _ => False
  ct : St → Hp → Prop := fun _ _ => False
abbrev TS := Ends → St → Hp → Prop

def EP (X : Cx) (pins : List (Addr × Obj)) (σ : St) (Q : VK) (u : Value) (s' : Shared) : Prop := ∃ v H', Inv X pins σ H' s' ∧ RelV v u ∧ Q v H'
def TP (X : Cx) (pins : List (Addr × Obj)) (σ : St) (Q : Bool → Hp → Prop) (b : Bool) (s' : Shared) : Prop := ∃ H', Inv X pins σ H' s' ∧ Q b H'
def AP (X : Cx) (pins : List (Addr × Obj)) (σ : St) (Q : List V → Hp → Prop) (us : List Value) (s' : Shared) : Prop := ∃ vs H', Inv X pins σ H' s' ∧ Vals vs us ∧ Q vs H'
def SP (X : Cx) (pins : List (Addr × Obj)) (D : Ends) (f : Flow) (s' : Shared) : Prop :=
  match f with
  | .next => ∃ σ' H', Inv X pins σ' H' s' ∧ D.nx σ' H'
  | .brk => ∃ σ' H', Inv X pins σ' H' s' ∧ D.bk σ' H'
  | .cont => ∃ σ' H', Inv X pins σ' H' s' ∧ D.ct σ' H'
  | .ret u => ∃ v σ' H', Inv X pins σ' H' s' ∧ RelV v u ∧ D.rt v H'

def PE (X : Cx) (e : Expr) (t : TE) : Prop :=
  ∀ (pins : List (Addr × Obj)) (s : Shared) (σ : St) (H : Hp) (Q : VK), Inv X pins σ H s → t σ H Q → wpAny (model X.prog X.w) X.A (eval e X.env) (EP X pins σ Q) X.xe s
def PT (X : Cx) (e : Expr) (t : TT) : Prop :=
  ∀ (pins : List (Addr × Obj)) (s : Shared) (σ : St) (H : Hp) (Q : Bool → Hp → Prop), Inv X pins σ H s → t σ H Q → wpAny (model X.prog X.w) X.A (isTrue e X.env (eval e X.env)) (TP X pins σ Q) X.xe s
/-- a test whatever its 'whole' is (and, or) -/
def PW (X : Cx) (e : Expr) (t : TT) : Prop :=
  ∀ (whole : Sem Value) (pins : List (Addr × Obj)) (s : Shared) (σ : St) (H : Hp) (Q : Bool → Hp → Prop), Inv X pins σ H s → t σ H Q → wpAny (model X.prog X.w) X.A (isTrue e X.env whole) (TP X pins σ Q) X.xe s
theorem PW.pt {X : Cx} {e : Expr} {t : TT} (h : PW X e t) : PT X e t := h _
/-- an argument list (no star), from the left -/
def PA (X : Cx) (es : List Expr) (t : TA) : Prop :=
  ∀ (pos : Pos) (pins : List (Addr × Obj)) (s : Shared) (σ : St) (H : Hp) (Q : List V → Hp → Prop), Inv X pins σ H s → t σ H Q → wpAny (model X.prog X.w) X.A (spliced (backTo pos (starEach es X.env))) (AP X pins σ Q) X.xe s
def PS (X : Cx) (st : Stmt) (t : TS) : Prop :=
  ∀ (pins : List (Addr × Obj)) (s : Shared) (σ : St) (H : Hp) (D : Ends), Inv X pins σ H s → t D σ H → wpAny (model X.prog X.w) X.A (exec st X.env) (SP X pins D) X.xe s
def PSs (X : Cx) (st : List Stmt) (t : TS) : Prop :=
  ∀ (pins : List (Addr × Obj)) (s : Shared) (σ : St) (H : Hp) (D : Ends), Inv X pins σ H s → t D σ H → wpAny (model X.prog X.w) X.A (execs st X.env) (SP X pins D) X.xe s
/-- weaken the end -/
theorem thn {α : Type} {t : Sem α} {Q Q' : α → Shared → Prop} {M : Model} {A : Around} {E : Value → Shared → Prop} {s : Shared} (h : wpAny M A t Q E s) (hQ : ∀ a s, Q a s → Q' a s) : wpAny M A t Q' E s := wpAny_mono h hQ fun _ _ x => x
end L2

namespace L2
open PySem PySem.Spec PyProof.Rows
section
variable {X : Cx}

/-- two expressions in a row -/
theorem bin {a b : Expr} {ta tb : TE} (ha : PE X a ta) (hb : PE X b tb) {pins : List (Addr × Obj)} {s : Shared} {σ : St} {H : Hp} {R : V → V → Hp → Prop} (I : Inv X pins σ H s) (h : ta σ H fun x H1 => tb σ H1 fun y H2 => R x y H2)
    {α : Type} {Q : α → Shared → Prop} {f : Value → Value → Sem α}
    (hf : ∀ v u s2 x y H2, Inv X pins σ H2 s2 → RelV x v → RelV y u → R x y H2 → wpAny (model X.prog X.w) X.A (f v u) Q X.xe s2) :
    wpAny (model X.prog X.w) X.A (eval a X.env) (fun v s₁ => wpAny (model X.prog X.w) X.A (eval b X.env) (fun u s₂ => wpAny (model X.prog X.w) X.A (f v u) Q X.xe s₂) X.xe s₁) X.xe s := by
  refine thn (ha pins s σ H _ I h) fun v s1 ⟨x, H1, I1, r1, q1⟩ => ?_
  refine thn (hb pins s1 σ H1 _ I1 q1) fun u s2 ⟨y, H2, I2, r2, q2⟩ => ?_
  exact hf v u s2 x y H2 I2 r1 r2 q2

/-! ### names and constants -/
def tVar (i : Nat) : TE := fun σ H Q => ∃ v, σ[i]? = some (some v) ∧ Q v H
def tC (v : V) : TE := fun _ H Q => Q v H
theorem pe_var {i : Nat} {x : Str} {pos : Pos} (hN : X.N[i]? = some x) (hv : Vis X.env.scope x) (hd : (x == ("__debug__" : Str)) = false := by decide) (hcd : (x == ("__classdict__" : Str)) = false := by decide) : PE X (.Name x pos) (tVar i) := by
  intro pins s σ H Q I h
  obtain ⟨v, e, h⟩ := h
  obtain ⟨m, hn, hl⟩ := I.loc
  obtain ⟨u, r, l⟩ := hl i x v hN e hv
  have fin : EP X pins σ Q u s := ⟨v, H, I, r, h⟩
  rcases l with ⟨hk, hm⟩ | ⟨hk, c, hc, hcell⟩
  · exact wpAny_Name (wpAny_loadName_local I.ok.kind hk hn hm fin) hd
  · rcases hk with hk | hk
    · exact wpAny_Name (wpAny_loadName_cell I.ok.kind hk hc hcell fin) hd
    · exact wpAny_Name (wpAny_loadName_free I.ok.kind hk hc hcell fin hcd) hd
theorem pe_int {i j pos} : PE X (.Constant (.int i) j pos) (tC (.int i)) := fun _ _ _ H _ I h => wpAny_Constant_int ⟨.int i, H, I.tok _, ⟨_, rfl⟩, h⟩
theorem pe_bl {b j pos} : PE X (.Constant (.bool b) j pos) (tC (.bl b)) := fun _ _ _ H _ I h => Constant_bool ⟨.bl b, H, I, rfl, h⟩
theorem pe_non {j pos} : PE X (.Constant .none j pos) (tC .non) := fun _ _ _ H _ I h => Constant_none ⟨.non, H, I, rfl, h⟩
theorem pe_str {x j pos} : PE X (.Constant (.str x) j pos) (tC (.str x)) := fun _ _ _ H _ I h => Calls.Constant_str ⟨.str x, H, I.tok _, ⟨_, rfl⟩, h⟩

/-- a global name of the def -/
def Gl (X : Cx) (x : Str) : Prop := X.env.kindOf x = some .globalImplicit
theorem ld_glob {E : Value → Shared → Prop} {pins : List (Addr × Obj)} {s : Shared} {σ : St} {H : Hp} {x : Str} {u : Value} {pos : Pos} {Q : Value → Shared → Prop} (I : Inv X pins σ H s) (hg : Gl X x) (hm : X.mg x = some u) (h : Q u s)
    (hd : (x == ("__debug__" : Str)) = false := by decide) : wpAny (model X.prog X.w) X.A (eval (.Name x pos) X.env) Q E s :=
  Calls.Name_function_global I.ok.kind hg (Calls.loadGlobal_global (by rw [I.ok.glob]; exact I.mod.glob.keeps I.bk) hm h) hd
theorem ld_blt {E : Value → Shared → Prop} {pins : List (Addr × Obj)} {s : Shared} {σ : St} {H : Hp} {x : Str} {u : Value} {pos : Pos} {Q : Value → Shared → Prop} (I : Inv X pins σ H s) (hg : Gl X x) (hm : X.mg x = none) (hv : bootBuiltins x = some u) (h : Q u s)
    (hn : x ≠ "__name__" := by decide) (hd : (x == ("__debug__" : Str)) = false := by decide) : wpAny (model X.prog X.w) X.A (eval (.Name x pos) X.env) Q E s := by
  obtain ⟨mb, h1, h2⟩ := I.mod.blt
  exact Calls.Name_function_global I.ok.kind hg (Calls.loadGlobal_builtin (by rw [I.ok.glob]; exact I.mod.glob.keeps I.bk) hm (by rw [I.ok.blt]; exact h1.keeps I.bk) ((h2 x hn).trans hv) h) hd
/-- a module's constant, a class, a function, as a value -/
theorem pe_glob {x : Str} {v : V} {u : Value} {pos : Pos} (hg : Gl X x) (hm : X.mg x = some u) (r : RelV v u) (hd : (x == ("__debug__" : Str)) = false := by decide) : PE X (.Name x pos) (tC v) :=
  fun _ _ _ H _ I h => ld_glob I hg hm ⟨v, H, I, r, h⟩ hd
theorem pe_bltn {x : Str} {v : V} {u : Value} {pos : Pos} (hg : Gl X x) (hm : X.mg x = none) (hv : bootBuiltins x = some u) (r : RelV v u) (hn : x ≠ "__name__" := by decide) (hd : (x == ("__debug__" : Str)) = false := by decide) : PE X (.Name x pos) (tC v) :=
  fun _ _ _ H _ I h => ld_blt I hg hm hv ⟨v, H, I, r, h⟩ hn hd

/-! ### arithmetic -/
/-- two ints -/
def t2I (ta tb : TE) (k : Int → Int → Hp → Prop) : St → Hp → Prop := fun σ H => ta σ H fun x H1 => tb σ H1 fun y H2 => ∃ i j, x = .int i ∧ y = .int j ∧ k i j H2
def tAdd (ta tb : TE) : TE := fun σ H Q => t2I ta tb (fun i j H2 => Q (.int (i + j)) H2) σ H
def tSub (ta tb : TE) : TE := fun σ H Q => t2I ta tb (fun i j H2 => Q (.int (i - j)) H2) σ H
/-- the left factor below 2^64 -/
def tMul (ta tb : TE) : TE := fun σ H Q => t2I ta tb (fun i j H2 => (-(2 ^ 64) < i ∧ i < 2 ^ 64) ∧ Q (.int (i * j)) H2) σ H
variable {a b : Expr} {ta tb : TE} {pos : Pos}
theorem pe_add (ha : PE X a ta) (hb : PE X b tb) : PE X (.BinOp a .Add b pos) (tAdd ta tb) := by
  intro pins s σ H Q I h
  refine wpAny_BinOp (bin ha hb I h fun v u s2 x y H2 I2 rx ry q => ?_)
  obtain ⟨i, j, rfl, rfl, q⟩ := q
  obtain ⟨t, rfl⟩ := rx
  obtain ⟨t', rfl⟩ := ry
  exact add_int ⟨.int _, H2, I2.tok _, ⟨_, rfl⟩, q⟩
theorem pe_sub (ha : PE X a ta) (hb : PE X b tb) : PE X (.BinOp a .Sub b pos) (tSub ta tb) := by
  intro pins s σ H Q I h
  refine wpAny_BinOp (bin ha hb I h fun v u s2 x y H2 I2 rx ry q => ?_)
  obtain ⟨i, j, rfl, rfl, q⟩ := q
  obtain ⟨t, rfl⟩ := rx
  obtain ⟨t', rfl⟩ := ry
  exact sub_int ⟨.int _, H2, I2.tok _, ⟨_, rfl⟩, q⟩
theorem pe_mul (ha : PE X a ta) (hb : PE X b tb) : PE X (.BinOp a .Mult b pos) (tMul ta tb) := by
  intro pins s σ H Q I h
  refine wpAny_BinOp (bin ha hb I h fun v u s2 x y H2 I2 rx ry q => ?_)
  obtain ⟨i, j, rfl, rfl, ⟨q1, q2⟩, q⟩ := q
  obtain ⟨t, rfl⟩ := rx
  obtain ⟨t', rfl⟩ := ry
  exact mul_int ⟨.int _, H2, I2.tok _, ⟨_, rfl⟩, q⟩ (.of_left (intBits_le_64 q1 q2))

/-! ### comparisons -/
def PC (X : Cx) (op : CmpOp) (a b : Expr) (t : TE) : Prop :=
  ∀ (pins : List (Addr × Obj)) (s : Shared) (σ : St) (H : Hp) (Q : VK), Inv X pins σ H s → t σ H Q →
    wpAny (model X.prog X.w) X.A (eval a X.env) (fun v s₁ => wpAny (model X.prog X.w) X.A (eval b X.env) (fun u s₂ => wpAny (model X.prog X.w) X.A (compareOp op v u) (EP X pins σ Q) X.xe s₂) X.xe s₁) X.xe s
theorem nobehind (b : Expr) {op : CmpOp} (h : op ≠ .In) (h2 : op ≠ .NotIn) : behindInMarks op b = false := by
  have e1 : (op == CmpOp.In) = false := by cases op <;> first | rfl | exact absurd rfl h
  have e2 : (op == CmpOp.NotIn) = false := by cases op <;> first | rfl | exact absurd rfl h2
  cases b <;> simp [behindInMarks, e1, e2]
def tCmp (p : Int → Int → Bool) (ta tb : TE) : TE := fun σ H Q => t2I ta tb (fun i j H2 => Q (.bl (p i j)) H2) σ H
abbrev tLt : TE → TE → TE := tCmp fun i j => decide (i < j)
abbrev tLe : TE → TE → TE := tCmp fun i j => decide (i ≤ j)
abbrev tGt : TE → TE → TE := tCmp fun i j => decide (j < i)
abbrev tGe : TE → TE → TE := tCmp fun i j => decide (j ≤ i)
abbrev tEqI : TE → TE → TE := tCmp fun i j => decide (i = j)
abbrev tNeI : TE → TE → TE := tCmp fun i j => !decide (i = j)
/-- a comparison of two ints, by its rule -/
theorem pc_int {op : CmpOp} {p : Int → Int → Bool} (ha : PE X a ta) (hb : PE X b tb)
    (rule : ∀ (i j : Int) (t u : Tok) (Q : Value → Shared → Prop) (s : Shared), Q (.bool (p i j)) s → wpAny (model X.prog X.w) X.A (compareOp op (.int i t) (.int j u)) Q X.xe s) : PC X op a b (tCmp p ta tb) := by
  intro pins s σ H Q I h
  refine bin ha hb I h fun v u s2 x y H2 I2 rx ry q => ?_
  obtain ⟨i, j, rfl, rfl, q⟩ := q
  obtain ⟨t, rfl⟩ := rx
  obtain ⟨t', rfl⟩ := ry
  exact rule i j t t' _ s2 ⟨.bl _, H2, I2, rfl, q⟩
theorem pc_lt (ha : PE X a ta) (hb : PE X b tb) : PC X .Lt a b (tLt ta tb) := pc_int ha hb fun _ _ _ _ _ _ h => lt_int h
theorem pc_le (ha : PE X a ta) (hb : PE X b tb) : PC X .LtE a b (tLe ta tb) := pc_int ha hb fun _ _ _ _ _ _ h => le_int h
theorem pc_gt (ha : PE X a ta) (hb : PE X b tb) : PC X .Gt a b (tGt ta tb) := pc_int ha hb fun _ _ _ _ _ _ h => gt_int h
theorem pc_ge (ha : PE X a ta) (hb : PE X b tb) : PC X .GtE a b (tGe ta tb) := pc_int ha hb fun _ _ _ _ _ _ h => ge_int h
theorem pc_eqI (ha : PE X a ta) (hb : PE X b tb) : PC X .Eq a b (tEqI ta tb) := pc_int ha hb fun _ _ _ _ _ _ h => eq_int (by rw [Bool.beq_eq_decide_eq]; exact h)
theorem pc_neI (ha : PE X a ta) (hb : PE X b tb) : PC X .NotEq a b (tNeI ta tb) := pc_int ha hb fun _ _ _ _ _ _ h => ne_int (by rw [bne, Bool.beq_eq_decide_eq]; exact h)
/-- is None -/
def tIsN (ta : TE) : TE := fun σ H Q => ta σ H fun x H1 => Q (.bl (decide (x = .non))) H1
def tNotN (ta : TE) : TE := fun σ H Q => ta σ H fun x H1 => Q (.bl (!decide (x = .non))) H1
theorem RelV.none_iff {x : V} {v : Value} (r : RelV x v) : (v == Value.none) = decide (x = .non) := by
  cases x with
  | non => cases r; rfl
  | bl _ => cases r; rfl
  | int _ => obtain ⟨t, rfl⟩ := r; rfl
  | str _ => obtain ⟨t, rfl⟩ := r; rfl
  | byt _ => obtain ⟨t, rfl⟩ := r; rfl
  | flt _ => obtain ⟨t, rfl⟩ := r; rfl
  | ref _ => cases r; rfl
  | ty _ => cases r; rfl
theorem pc_isN {j pos'} (ha : PE X a ta) : PC X .Is a (.Constant .none j pos') (tIsN ta) := by
  intro pins s σ H Q I h
  refine thn (ha pins s σ H _ I h) fun v s1 ⟨x, H1, I1, r1, q1⟩ => ?_
  exact Constant_none (is_none_gen ⟨.bl _, H1, I1, by rw [r1.none_iff]; rfl, q1⟩)
theorem pc_notN {j pos'} (ha : PE X a ta) : PC X .IsNot a (.Constant .none j pos') (tNotN ta) := by
  intro pins s σ H Q I h
  refine thn (ha pins s σ H _ I h) fun v s1 ⟨x, H1, I1, r1, q1⟩ => ?_
  exact Constant_none (isnot_none_gen ⟨.bl _, H1, I1, by rw [r1.none_iff]; rfl, q1⟩)
/-- a comparison as a value, as a test -/
def tB (t : TE) : TT := fun σ H Q => t σ H fun x H1 => ∃ c, x = .bl c ∧ Q c H1
theorem pe_cmp {op : CmpOp} {t : TE} (h : PC X op a b t) (h1 : behindInMarks op b = false := by first | exact nobehind _ (by decide) (by decide) | rfl) : PE X (.Compare a [op] [b] pos) t := fun pins s σ H Q I hw => wpAny_Compare1 (h pins s σ H Q I hw) h1
theorem pt_cmp {op : CmpOp} {t : TE} (h : PC X op a b t) (h1 : behindInMarks op b = false := by first | exact nobehind _ (by decide) (by decide) | rfl) : PT X (.Compare a [op] [b] pos) (tB t) := by
  intro pins s σ H Q I hw
  refine wpAny_isTrue_Compare1 (thn (h pins s σ H _ I hw) fun v s1 h1 => thn h1 fun u s2 h2 => thn h2 fun c s3 ⟨x, H1, I1, r1, q1⟩ => ?_) h1
  obtain ⟨d, rfl, q⟩ := q1
  cases r1
  exact wpAny_truthy_bool ⟨H1, I1, q⟩
/-- an expression whose value is a bool, as a test -/
theorem pt_val {e : Expr} {t : TE} (h : PE X e t) (he : ∀ whole, isTrue e X.env whole = (do let v ← whole; standAt e.pos; holding [v] (truthy v)) := by intro _; rfl) : PT X e (tB t) := by
  intro pins s σ H Q I hw
  refine isTrue_plain (thn (h pins s σ H _ I hw) fun v s1 ⟨x, H1, I1, r1, q1⟩ => ?_) (he _)
  obtain ⟨d, rfl, q⟩ := q1
  cases r1
  exact wpAny_truthy_bool ⟨H1, I1, q⟩

/-! ### and, or, not -/
variable {tA tB' : TT} {rest : List Expr}
def tAnd (t u : TT) : TT := fun σ H Q => t σ H fun c H1 => if c = true then u σ H1 Q else Q false H1
def tOr (t u : TT) : TT := fun σ H Q => t σ H fun c H1 => if c = true then Q true H1 else u σ H1 Q
def tNot (t : TT) : TT := fun σ H Q => t σ H fun c H1 => Q (!c) H1
theorem pw_and1 (ha : PT X a tA) : PW X (.BoolOp .And [a] pos) tA := by
  intro wh pins s σ H Q I h
  refine isTrue_and (thn (ha pins s σ H Q I h) fun c s1 e => ?_)
  cases c with
  | true => exact isTrue_and_nil e
  | false => exact e
theorem pw_or1 (ha : PT X a tA) : PW X (.BoolOp .Or [a] pos) tA := by
  intro wh pins s σ H Q I h
  refine isTrue_or (thn (ha pins s σ H Q I h) fun c s1 e => ?_)
  cases c with
  | false => exact isTrue_or_nil e
  | true => exact e
theorem pw_and (ha : PT X a tA) (hb : PW X (.BoolOp .And (b :: rest) pos) tB') : PW X (.BoolOp .And (a :: b :: rest) pos) (tAnd tA tB') := by
  intro wh pins s σ H Q I h
  refine isTrue_and (thn (ha pins s σ H _ I h) fun c s1 ⟨H1, I1, q1⟩ => ?_)
  cases c with
  | true => exact hb wh pins s1 σ H1 Q I1 q1
  | false => exact ⟨H1, I1, q1⟩
theorem pw_or (ha : PT X a tA) (hb : PW X (.BoolOp .Or (b :: rest) pos) tB') : PW X (.BoolOp .Or (a :: b :: rest) pos) (tOr tA tB') := by
  intro wh pins s σ H Q I h
  refine isTrue_or (thn (ha pins s σ H _ I h) fun c s1 ⟨H1, I1, q1⟩ => ?_)
  cases c with
  | true => exact ⟨H1, I1, q1⟩
  | false => exact hb wh pins s1 σ H1 Q I1 q1
theorem pt_not (ha : PT X a tA) : PT X (.UnaryOp .Not a pos) (tNot tA) := by
  intro pins s σ H Q I h
  exact isTrue_not (ha pins s σ H (fun c H1 => Q (!c) H1) I h)
/-- .. as values (bools) -/
def tAndV (ta tb : TE) : TE := fun σ H Q => ta σ H fun x H1 => ∃ c, x = .bl c ∧ if c = true then tb σ H1 Q else Q (.bl false) H1
def tOrV (ta tb : TE) : TE := fun σ H Q => ta σ H fun x H1 => ∃ c, x = .bl c ∧ if c = true then Q (.bl true) H1 else tb σ H1 Q
def tNotV (ta : TE) : TE := fun σ H Q => ta σ H fun x H1 => ∃ c, x = .bl c ∧ Q (.bl (!c)) H1
theorem pe_one {op} {t : TE} (h : PE X a t) : PE X (.BoolOp op [a] pos) t := fun pins s σ H Q I hw => BoolOp_one (h pins s σ H Q I hw)
theorem pe_and (ha : PE X a ta) (hb : PE X (.BoolOp .And (b :: rest) pos) tb) : PE X (.BoolOp .And (a :: b :: rest) pos) (tAndV ta tb) := by
  intro pins s σ H Q I h
  refine BoolOp_and (thn (ha pins s σ H _ I h) fun v s1 ⟨x, H1, I1, r1, q1⟩ => ?_)
  obtain ⟨c, rfl, q1⟩ := q1
  cases r1
  refine wpAny_truthy_bool ?_
  cases c with
  | true => exact hb pins s1 σ H1 Q I1 q1
  | false => exact ⟨.bl false, H1, I1, rfl, q1⟩
theorem pe_or (ha : PE X a ta) (hb : PE X (.BoolOp .Or (b :: rest) pos) tb) : PE X (.BoolOp .Or (a :: b :: rest) pos) (tOrV ta tb) := by
  intro pins s σ H Q I h
  refine BoolOp_or (thn (ha pins s σ H _ I h) fun v s1 ⟨x, H1, I1, r1, q1⟩ => ?_)
  obtain ⟨c, rfl, q1⟩ := q1
  cases r1
  refine wpAny_truthy_bool ?_
  cases c with
  | false => exact hb pins s1 σ H1 Q I1 q1
  | true => exact ⟨.bl true, H1, I1, rfl, q1⟩
theorem pe_not (ha : PE X a ta) : PE X (.UnaryOp .Not a pos) (tNotV ta) := by
  intro pins s σ H Q I h
  refine UnaryOp_ (thn (ha pins s σ H _ I h) fun v s1 ⟨x, H1, I1, r1, q1⟩ => ?_)
  obtain ⟨c, rfl, q1⟩ := q1
  cases r1
  exact not_of (wpAny_truthy_bool ⟨.bl (!c), H1, I1, rfl, q1⟩)
/-- a if t else b -/
def tIf (t : TT) (ta tb : TE) : TE := fun σ H Q => t σ H fun c H1 => if c = true then ta σ H1 Q else tb σ H1 Q
theorem pe_ifExp {c : Expr} (hc : PT X c tA) (ha : PE X a ta) (hb : PE X b tb) : PE X (.IfExp c a b pos) (tIf tA ta tb) := by
  intro pins s σ H Q I h
  refine wpAny_IfExp (thn (hc pins s σ H _ I h) fun d s1 ⟨H1, I1, q1⟩ => ?_)
  cases d with
  | true => exact ha pins s1 σ H1 Q I1 q1
  | false => exact hb pins s1 σ H1 Q I1 q1
end
end L2

namespace L2
open PySem PySem.Spec PyProof.Rows

/-! ### a list, a tuple that is read: tracked, frozen, or an object of the module -/
def SqL (K : PySem.W.Frag) (H : Hp) (a : Addr) (xs : List V) : Prop :=
  Rd H a (.lst xs) ∨
    ∃ (o : Obj) (its : Array Value) (n : Nat), K.lookup a = some o ∧ o.cls = .type "list" ∧ o.dict = none ∧ o.data = .seq its n ∧ its.size ≤ sizeLine ∧ Vals xs its.toList
def SqT (K : PySem.W.Frag) (H : Hp) (a : Addr) (xs : List V) : Prop :=
  Rd H a (.tup xs) ∨
    ∃ (o : Obj) (its : Array Value) (n : Nat), K.lookup a = some o ∧ o.cls = .type "tuple" ∧ o.data = .seq its n ∧ its.size ≤ sizeLine ∧ Vals xs its.toList
def absV : Value → Option V
  | .none => some .non
  | .bool b => some (.bl b)
  | .int i _ => some (.int i)
  | .str x _ => some (.str x)
  | .bytes b _ => some (.byt b)
  | .float b _ => some (.flt b)
  | .ref a => some (.ref a)
  | .type n => some (.ty n)
  | _ => none
theorem RelV.abs {x : V} {u : Value} (r : RelV x u) : absV u = some x := by
  cases x with
  | non => cases r; rfl
  | bl _ => cases r; rfl
  | int _ => obtain ⟨t, rfl⟩ := r; rfl
  | str _ => obtain ⟨t, rfl⟩ := r; rfl
  | byt _ => obtain ⟨t, rfl⟩ := r; rfl
  | flt _ => obtain ⟨t, rfl⟩ := r; rfl
  | ref _ => cases r; rfl
  | ty _ => cases r; rfl
theorem RelV.inj {x y : V} {u : Value} (r : RelV x u) (q : RelV y u) : x = y := Option.some.inj (r.abs.symm.trans q.abs)
theorem Vals.inj : ∀ {xs ys : List V} {us : List Value}, Vals xs us → Vals ys us → xs = ys
  | _, _, _, .nil, .nil => rfl
  | _, _, _, .cons r t, .cons r' t' => by rw [r.inj r', Vals.inj t t']
section
variable {X : Cx} {pins : List (Addr × Obj)} {σ : St} {H : Hp} {s : Shared} {a : Addr} {xs ys : List V}
theorem SqL.of {K : PySem.W.Frag} (h : H a = some (.lst xs)) : SqL K H a xs := .inl (.inl h)
theorem SqT.of {K : PySem.W.Frag} (h : H a = some (.tup xs)) : SqT K H a xs := .inl (.inl h)
theorem Inv.list (I : Inv X pins σ H s) (h : SqL X.K H a xs) : ∃ its : List Value, Vals xs its ∧ PlainL s.heap a its.toArray ∧ xs.length ≤ sizeLine := by
  rcases h with h | ⟨o, its, n, hk, hc, hd, hs, hz, r⟩
  · obtain ⟨z, its, n, r, e⟩ := h.ok I.hok
    exact ⟨its, r, ⟨_, n, e, rfl, rfl, rfl⟩, z⟩
  · refine ⟨its.toList, r, ⟨o, n, I.kIn a o hk, hc, hd, by simpa using hs⟩, ?_⟩
    have e := r.length
    simp only [Array.length_toList] at e
    omega
theorem Inv.tuple (I : Inv X pins σ H s) (h : SqT X.K H a xs) : ∃ its : List Value, Vals xs its ∧ IsTup s.heap a its.toArray ∧ xs.length ≤ sizeLine := by
  rcases h with h | ⟨o, its, n, hk, hc, hs, hz, r⟩
  · obtain ⟨z, its, r, p⟩ := h.ok I.hok
    exact ⟨its, r, p, z⟩
  · refine ⟨its.toList, r, ⟨o, I.kIn a o hk, hc, n, by simpa using hs⟩, ?_⟩
    have e := r.length
    simp only [Array.length_toList] at e
    omega
theorem Inv.list_inj (I : Inv X pins σ H s) (h : SqL X.K H a xs) (h' : SqL X.K H a ys) : xs = ys := by
  obtain ⟨its, r, ⟨o, n, e, _, _, d⟩, _⟩ := I.list h
  obtain ⟨its', r', ⟨o', n', e', _, _, d'⟩, _⟩ := I.list h'
  rw [e] at e'; cases e'
  rw [d] at d'
  injection d' with d1 _
  have : its = its' := by simpa using congrArg Array.toList d1
  subst this
  exact r.inj r'
theorem Inv.tuple_inj (I : Inv X pins σ H s) (h : SqT X.K H a xs) (h' : SqT X.K H a ys) : xs = ys := by
  obtain ⟨its, r, ⟨o, e, _, n, d⟩, _⟩ := I.tuple h
  obtain ⟨its', r', ⟨o', e', _, n', d'⟩, _⟩ := I.tuple h'
  rw [e] at e'; cases e'
  rw [d] at d'
  injection d' with d1 _
  have : its = its' := by simpa using congrArg Array.toList d1
  subst this
  exact r.inj r'
end

/-! ### another wish about exceptions -/
abbrev Cx.wish (X : Cx) (E : Value → Shared → Prop) : Cx := { X with xe := E }
/-- no exception leaves -/
abbrev Cx.nox (X : Cx) : Cx := X.wish fun _ _ => False
theorem Cx.Ok.wish {X : Cx} (ok : X.Ok) (E : Value → Shared → Prop) : (X.wish E).Ok :=
  ⟨ok.mod, ok.kind, ok.glob, ok.blt, ok.above, ok.inj, ok.has, ok.cab, ok.hd, ok.frames, ok.stk, ok.exf, ok.bs, ok.bsz, ok.noex, ok.exfs, ok.funs, ok.frf⟩
theorem Cx.Ok.unwish {X : Cx} {E : Value → Shared → Prop} (ok : (X.wish E).Ok) : X.Ok :=
  ⟨ok.mod, ok.kind, ok.glob, ok.blt, ok.above, ok.inj, ok.has, ok.cab, ok.hd, ok.frames, ok.stk, ok.exf, ok.bs, ok.bsz, ok.noex, ok.exfs, ok.funs, ok.frf⟩
section
variable {X : Cx} {pins : List (Addr × Obj)} {σ : St} {H : Hp} {s : Shared} {E : Value → Shared → Prop}
theorem Inv.wish (I : Inv X pins σ H s) (E : Value → Shared → Prop) : Inv (X.wish E) pins σ H s := ⟨I.ok.wish E, I.os, I.bare, I.base, I.loc, I.cell, I.free, I.freeC, I.pin, I.hok, I.len⟩
theorem Inv.unwish (I : Inv (X.wish E) pins σ H s) : Inv X pins σ H s := ⟨I.ok.unwish, I.os, I.bare, I.base, I.loc, I.cell, I.free, I.freeC, I.pin, I.hok, I.len⟩
theorem SP.unwish {D : Ends} {f : Flow} {s' : Shared} (h : SP (X.wish E) pins D f s') : SP X pins D f s' := by
  cases f with
  | next => obtain ⟨σ', H', I, q⟩ := h; exact ⟨σ', H', I.unwish, q⟩
  | brk => obtain ⟨σ', H', I, q⟩ := h; exact ⟨σ', H', I.unwish, q⟩
  | cont => obtain ⟨σ', H', I, q⟩ := h; exact ⟨σ', H', I.unwish, q⟩
  | ret u => obtain ⟨v, σ', H', I, r, q⟩ := h; exact ⟨v, σ', H', I.unwish, r, q⟩
theorem PE.nox {e : Expr} {t : TE} (h : PE X.nox e t) : PE X e t := fun pins s σ H Q I hw =>
  wpAny_mono (h pins s σ H Q (I.wish _) hw) (fun _ _ ⟨v, H', I', r, q⟩ => ⟨v, H', I'.unwish, r, q⟩) fun _ _ z => False.elim z
theorem PT.nox {e : Expr} {t : TT} (h : PT X.nox e t) : PT X e t := fun pins s σ H Q I hw =>
  wpAny_mono (h pins s σ H Q (I.wish _) hw) (fun _ _ ⟨H', I', q⟩ => ⟨H', I'.unwish, q⟩) fun _ _ z => False.elim z
theorem PSs.nox {st : List Stmt} {t : TS} (h : PSs X.nox st t) : PSs X st t := fun pins s σ H D I hw =>
  wpAny_mono (h pins s σ H D (I.wish _) hw) (fun _ _ q => q.unwish) fun _ _ z => False.elim z
end

/-! ### blocks and small statements -/
section
variable {X : Cx} {st : Stmt} {rest : List Stmt} {t u : TS} {e : Expr} {te : TE} {pos : Pos}
def tNext : TS := fun D σ H => D.nx σ H
def tSeq (t u : TS) : TS := fun D σ H => t { D with nx := u D } σ H
theorem pss_nil : PSs X [] tNext := fun _ _ σ H _ I h => wpAny_execs_nil ⟨σ, H, I, h⟩
theorem pss_cons (h1 : PS X st t) (h2 : PSs X rest u) : PSs X (st :: rest) (tSeq t u) := by
  intro pins s σ H D I h
  refine wpAny_execs_cons (thn (h1 pins s σ H { D with nx := u D } I h) fun f s1 q => ?_)
  cases f with
  | next =>
    obtain ⟨σ', H', I', q⟩ := q
    exact h2 pins s1 σ' H' D I' q
  | ret v => exact q
  | brk => exact q
  | cont => exact q
theorem pss_one (h1 : PS X st t) : PSs X [st] t := by
  intro pins s σ H D I h
  refine wpAny_execs_cons (thn (h1 pins s σ H D I h) fun f s1 q => ?_)
  cases f with
  | next => exact wpAny_execs_nil q
  | ret v => exact q
  | brk => exact q
  | cont => exact q
def tBreak : TS := fun D σ H => D.bk σ H
def tCont : TS := fun D σ H => D.ct σ H
theorem ps_pass : PS X (.Pass pos) tNext := fun _ _ σ H _ I h => wpAny_Pass ⟨σ, H, I, h⟩
theorem ps_break : PS X (.Break pos) tBreak := fun _ _ σ H _ I h => wpAny_Break ⟨σ, H, I, h⟩
theorem ps_continue : PS X (.Continue pos) tCont := fun _ _ σ H _ I h => wpAny_Continue ⟨σ, H, I, h⟩
/-- in a def's body nothing is shown -/
theorem Inv.quiet {pins : List (Addr × Obj)} {σ : St} {H : Hp} {s : Shared} (I : Inv X pins σ H s) : interactive X.env = false := by simp [interactive, I.ok.kind]
/-- a docstring -/
theorem ps_doc {x j pos pos'} : PS X (.Expr (.Constant (.str x) j pos) pos') tNext := fun _ s σ H _ I h => wpAny_Expr (Calls.Constant_str (show SP X _ _ .next { s with toks := s.toks + 1 } from ⟨σ, H, I.tok _, h⟩)) I.quiet
/-- an expression whose value is dropped -/
def tDrop (te : TE) : TS := fun D σ H => te σ H fun _ H1 => D.nx σ H1
theorem ps_expr (he : PE X e te) (hs : swapsWith e none pos.line X.env = pure false := by rfl) : PS X (.Expr e pos) (tDrop te) := by
  intro pins s σ H D I h
  exact wpAny_Expr_any (thn (he pins s σ H _ I h) fun v s1 ⟨x, H1, I1, r1, q1⟩ => ⟨σ, H1, I1, q1⟩) I.quiet hs
def tRet (te : TE) : TS := fun D σ H => te σ H D.rt
theorem ps_ret (he : PE X e te) : PS X (.Return (some e) pos) (tRet te) := by
  intro pins s σ H D I h
  exact wpAny_Return_some (thn (he pins s σ H _ I h) fun v s1 ⟨x, H1, I1, r1, q1⟩ => ⟨x, σ, H1, I1, r1, q1⟩)
def tRetN : TS := fun D _ H => D.rt .non H
theorem ps_retN : PS X (.Return none pos) tRetN := fun _ _ σ H _ I h => wpAny_Return_none ⟨.non, σ, H, I, rfl, h⟩
def tIfS (c : TT) (t u : TS) : TS := fun D σ H => c σ H fun b H1 => if b = true then t D σ H1 else u D σ H1
theorem ps_if {c : Expr} {a b : List Stmt} {tc : TT} (hc : PT X c tc) (ha : PSs X a t) (hb : PSs X b u) : PS X (.If c a b pos) (tIfS tc t u) := by
  intro pins s σ H D I h
  refine wpAny_If (thn (hc pins s σ H _ I h) fun d s1 ⟨H1, I1, q1⟩ => ?_)
  cases d with
  | true => exact ha pins s1 σ H1 D I1 q1
  | false => exact hb pins s1 σ H1 D I1 q1
/-- code that the proof never comes to -/
def tNever : TS := fun _ _ _ => False
theorem ps_never : PS X st tNever := fun _ _ _ _ _ _ h => h.elim
theorem pss_never {sts : List Stmt} : PSs X sts tNever := fun _ _ _ _ _ _ h => h.elim
end

/-! ### targets -/
abbrev TG := V → St → Hp → (St → Hp → Prop) → Prop
abbrev TGs := List V → St → Hp → (St → Hp → Prop) → Prop
def PG (X : Cx) (target : Expr) (t : TG) : Prop :=
  ∀ (pins : List (Addr × Obj)) (s : Shared) (σ : St) (H : Hp) (v : V) (u : Value) (Q : St → Hp → Prop), Inv X pins σ H s → RelV v u → t v σ H Q →
    wpAny (model X.prog X.w) X.A (assign target X.env u) (fun _ s' => ∃ σ' H', Inv X pins σ' H' s' ∧ Q σ' H') X.xe s
/-- several targets, one after another -/
def PGs (X : Cx) (ts : List Expr) (t : TGs) : Prop :=
  ∀ (pins : List (Addr × Obj)) (s : Shared) (σ : St) (H : Hp) (vs : List V) (us : List Value) (Q : St → Hp → Prop), Inv X pins σ H s → Vals vs us → t vs σ H Q →
    wpAny (model X.prog X.w) X.A (assignInOrder ((assignEach ts X.env).map (·.2)) us) (fun _ s' => ∃ σ' H', Inv X pins σ' H' s' ∧ Q σ' H') X.xe s
/-- o[i] = v, by values -/
abbrev TSet := V → V → V → Hp → (Hp → Prop) → Prop
def PSet (X : Cx) (t : TSet) : Prop :=
  ∀ (pins : List (Addr × Obj)) (s : Shared) (σ : St) (H : Hp) (o i v : V) (ov iv u : Value) (Q : Hp → Prop), Inv X pins σ H s → RelV o ov → RelV i iv → RelV v u → t o i v H Q →
    wpAny (model X.prog X.w) X.A (setItem ov iv u) (fun _ s' => ∃ H', Inv X pins σ H' s' ∧ Q H') X.xe s
/-- a op= b, by values -/
abbrev TIp := V → V → Hp → VK → Prop
def PIp (X : Cx) (op : Operator) (t : TIp) : Prop :=
  ∀ (pins : List (Addr × Obj)) (s : Shared) (σ : St) (H : Hp) (x y : V) (v u : Value) (Q : VK), Inv X pins σ H s → RelV x v → RelV y u → t x y H Q →
    wpAny (model X.prog X.w) X.A (inplaceOp op v u) (EP X pins σ Q) X.xe s
section
variable {X : Cx} {pos : Pos}
def gName (i : Nat) : TG := fun v σ H Q => Q (σ.set i (some v)) H
theorem pg_name {i : Nat} {x : Str} (hN : X.N.Nodup) (hi : X.N[i]? = some x) (hx : Loc X.env.scope x) (hf : X.fn x = true ∨ X.env.scope.names.lookup x = some .local := by first | exact .inl rfl | exact .inr rfl | assumption) : PG X (.Name x pos) (gName i) := by
  intro pins s σ H v u Q I r h
  exact wpAny_assign_Name (store_ok I hN hi hx r (fun s' I' => ⟨_, H, I', h⟩) hf)
def gNil : TGs := fun vs σ H Q => vs = [] ∧ Q σ H
def gCons (t : TG) (u : TGs) : TGs := fun vs σ H Q => ∃ v r, vs = v :: r ∧ t v σ H fun σ' H' => u r σ' H' Q
theorem pgs_nil : PGs X [] gNil := by
  intro pins s σ H vs us Q I r h
  obtain ⟨e, h⟩ := h
  subst e
  cases r
  exact assignInOrder_nil ⟨σ, H, I, h⟩
theorem pgs_cons {e : Expr} {es : List Expr} {t : TG} {u : TGs} (h1 : PG X e t) (h2 : PGs X es u)
    (hs : (assignEach (e :: es) X.env).map (·.2) = assign e X.env :: (assignEach es X.env).map (·.2) := by rfl) : PGs X (e :: es) (gCons t u) := by
  intro pins s σ H vs us Q I r h
  obtain ⟨v, vr, e1, h⟩ := h
  subst e1
  cases r with
  | cons r rr =>
    rw [hs]
    refine assignInOrder_cons (thn (h1 pins s σ H _ _ _ I r h) fun _ s1 ⟨σ1, H1, I1, q1⟩ => ?_)
    exact h2 pins s1 σ1 H1 _ _ Q I1 rr q1
/-- (a, b, ..) = a tuple of that length -/
def gTup (K : PySem.W.Frag) (n : Nat) (t : TGs) : TG := fun v σ H Q => ∃ a xs, v = .ref a ∧ SqT K H a xs ∧ xs.length = n ∧ t xs σ H Q
theorem pg_tup {es : List Expr} {k : Nat} {t : TGs} {n : Nat} (hc : X.calm = true) (h : PGs X es t)
    (hn : (assignEach es X.env).length = n := by rfl) (hst : (assignEach es X.env).findIdx? (·.1) = none := by rfl) : PG X (.Tuple es k pos) (gTup X.K n t) := by
  intro pins s σ H v u Q I r hw
  obtain ⟨a, xs, e1, hq, hl, hw⟩ := hw
  subst e1
  cases r
  obtain ⟨its, rv, ht, hz⟩ := I.tuple hq
  refine assign_Tuple_tuple (I.ok.hd hc) ht (by simp [hn, ← hl, rv.length]) hst fun h' hx => ?_
  have I1 : Inv X pins σ H { s with heap := h' } := I.kept (t' := s.toks) fun b o e => hx b o (Nat.ne_of_lt (Heap.lt_size e)) e
  exact h pins _ σ H xs _ Q I1 (by simpa using rv) hw
/-- o[i] = .. -/
def gSub (to ti : TE) (t : TSet) : TG := fun v σ H Q => to σ H fun o H1 => ti σ H1 fun i H2 => t o i v H2 fun H3 => Q σ H3
theorem pg_sub {o i : Expr} {to ti : TE} {t : TSet} (ho : PE X o to) (hi : PE X i ti) (hs : PSet X t)
    (ha : ∀ v, assign (.Subscript o i pos) X.env v = (do
      let ov ← holding [v] (eval o X.env)
      let iv ← holding [v, ov] (eval i X.env)
      standAt pos
      holding [v, ov, iv] (setItem ov iv v)
      release [v, ov, iv] []) := by intro _; rfl) : PG X (.Subscript o i pos) (gSub to ti t) := by
  intro pins s σ H v u Q I r h
  rw [ha]
  refine wpAny_bind (wpAny_holding (thn (ho pins s σ H _ I h) fun ov s1 ⟨x, H1, I1, r1, q1⟩ => ?_))
  refine wpAny_bind (wpAny_holding (thn (hi pins s1 σ H1 _ I1 q1) fun iv s2 ⟨y, H2, I2, r2, q2⟩ => ?_))
  refine wpAny_bind (wpAny_standAt (wpAny_bind (wpAny_holding (thn (hs pins s2 σ H2 x y v ov iv u _ I2 r1 r2 r q2) fun _ s3 ⟨H3, I3, q3⟩ => ?_))))
  exact wpAny_release ⟨σ, H3, I3, q3⟩
/-- target = value -/
def tAsg (te : TE) (g : TG) : TS := fun D σ H => te σ H fun x H1 => g x σ H1 D.nx
theorem ps_asg {tg e : Expr} {te : TE} {g : TG} (he : PE X e te) (hg : PG X tg g) (hs : swapsWithSole [tg] e pos.line X.env = pure false := by rfl) (hw : swappedStores [tg] e X.env = pure none := by rfl)
    (h1 : (assignEach [tg] X.env).map (·.2) = [assign tg X.env] := by rfl) : PS X (.Assign [tg] e pos) (tAsg te g) := by
  intro pins s σ H D I h
  refine wpAny_Assign_stores (thn (he pins s σ H _ I h) fun v s1 ⟨x, H1, I1, r1, q1⟩ => ?_) hs hw
  rw [h1]
  exact thn (hg pins s1 σ H1 x v _ I1 r1 q1) fun _ s2 q => q
/-- name = value -/
theorem ps_set {i : Nat} {x : Str} {e : Expr} {te : TE} {pos' : Pos} (hN : X.N.Nodup) (hi : X.N[i]? = some x) (hx : Loc X.env.scope x) (he : PE X e te) (hs : swapsWith e (some (.Name x pos')) pos.line X.env = pure false := by rfl) (hf : X.fn x = true ∨ X.env.scope.names.lookup x = some .local := by first | exact .inl rfl | exact .inr rfl | assumption) :
    PS X (.Assign [.Name x pos'] e pos) (tAsg te (gName i)) := by
  intro pins s σ H D I h
  refine wpAny_Assign_Name (thn (he pins s σ H _ I h) fun v s1 ⟨y, H1, I1, r1, q1⟩ => ?_) hs
  exact store_ok I1 hN hi hx r1 (fun s2 I2 => ⟨_, H1, I2, q1⟩) hf
/-- a, b = x, y with plain local names: stored from the right; the pair itself is not tracked (the opening rows as in PyProof/Rows/TupAssign.lean:23) -/
def tPar (i j : Nat) (ta : TA) : TS := fun D σ H => ta σ H fun vs H1 => ∃ v w, vs = [v, w] ∧ D.nx ((σ.set i (some v)).set j (some w)) H1
theorem ps_par {i j : Nat} {x y : Str} {a b : Expr} {ta : TA} {px py pt : Pos} {kt k2 pt2} (hc : X.calm = true) (hN : X.N.Nodup) (hi : X.N[i]? = some x) (hj : X.N[j]? = some y) (hij : i ≠ j)
    (hx : X.env.scope.names.lookup x = some .local) (hy : X.env.scope.names.lookup y = some .local) (ha : PA X [a, b] ta)
    (hw : swappedStores [.Tuple [.Name x px, .Name y py] kt pt] (.Tuple [a, b] k2 pt2) X.env = pure (some [x, y]))
    (hs : swapsWithSole [.Tuple [.Name x px, .Name y py] kt pt] (.Tuple [a, b] k2 pt2) pos.line X.env = pure false := by rfl) :
    PS X (.Assign [.Tuple [.Name x px, .Name y py] kt pt] (.Tuple [a, b] k2 pt2) pos) (tPar i j ta) := by
  intro pins s σ H D I h
  rw [exec_Assign_arm]
  refine wpAny_bind (wpAny_standAt ?_)
  rw [hs]
  refine wpAny_bind (wpAny_pure ?_)
  rw [if_neg (by decide)]
  refine wpAny_bind (Tuple_ (thn (ha _ pins s σ H _ I h) fun us s1 ⟨vs, H1, I1, r1, q1⟩ => ?_))
  obtain ⟨v, w, e1, q1⟩ := q1
  subst e1
  obtain ⟨u1, u2, rfl, rv, rw'⟩ : ∃ u1 u2, us = [u1, u2] ∧ RelV v u1 ∧ RelV w u2 := by
    cases r1 with
    | cons p q =>
      cases q with
      | cons p' q' =>
        cases q'
        exact ⟨_, _, rfl, p, p'⟩
  refine wpAny_newObj_type ?_ (by show 2 ≤ sizeLine; decide)
  have I2 : Inv X pins σ H1 { s1 with heap := s1.heap.push { cls := .type "tuple", data := .seq [u1, u2].toArray } } := I1.kept (t' := s1.toks) fun b o e => Heap.get?_push_of_some _ e
  rw [hw]
  refine wpAny_bind (wpAny_pure ?_)
  show wpAny (model X.prog X.w) X.A (do rule "assign.swapped-stores"; let items ← unpackItems (.ref s1.heap.objs.size) 2 none; assignInOrder [fun v => bindName X.env y v, fun v => bindName X.env x v] items.reverse; pure Flow.next) _ _ _
  refine wpAny_bind (wpAny_rule (wpAny_bind (unpackItems_tuple (items := #[u1, u2]) (I.ok.hd hc) (IsTup.new s1.heap _) fun h' hx' => ?_)))
  have I3 := I2.kept (h' := h') (t' := s1.toks) fun b o e => hx' b o (Nat.ne_of_lt (Heap.lt_size e)) e
  show wpAny _ _ (assignInOrder [fun v => bindName X.env y v, fun v => bindName X.env x v] [u2, u1] >>= fun _ => pure Flow.next) _ _ _
  refine wpAny_bind (assignInOrder_cons (wpAny_bindName (store_ok I3 hN hj (.inl hy) rw' (fun s2 I4 => ?_) (.inr hy))))
  refine assignInOrder_cons (wpAny_bindName (store_ok I4 hN hi (.inl hx) rv (fun s3 I5 => assignInOrder_nil (wpAny_pure ?_)) (.inr hx)))
  rw [List.set_comm _ _ (Ne.symm hij)] at I5
  exact ⟨_, H1, I5, q1⟩
/-- name op= e -/
def tAug (i : Nat) (te : TE) (ti : TIp) : TS := fun D σ H => ∃ x, σ[i]? = some (some x) ∧ te σ H fun y H1 => ti x y H1 fun z H2 => D.nx (σ.set i (some z)) H2
theorem ps_aug {i : Nat} {x : Str} {e : Expr} {te : TE} {op : Operator} {ti : TIp} {pos' : Pos} (hN : X.N.Nodup) (hi : X.N[i]? = some x) (hx : Loc X.env.scope x) (he : PE X e te) (ho : PIp X op ti) (hf : X.fn x = true ∨ X.env.scope.names.lookup x = some .local := by first | exact .inl rfl | exact .inr rfl | assumption) :
    PS X (.AugAssign (.Name x pos') op e pos) (tAug i te ti) := by
  intro pins s σ H D I h
  obtain ⟨v, e1, h⟩ := h
  obtain ⟨m, hn, hl⟩ := I.loc
  have vis : Vis X.env.scope x := by rcases hx with k | k; exact .inl k; exact .inr (.inl k)
  obtain ⟨u, r, l⟩ := hl i x v hi e1 vis
  refine wpAny_AugAssign_Name ?_
  have go : wpAny (model X.prog X.w) X.A (eval e X.env) (fun w s₂ => wpAny (model X.prog X.w) X.A (inplaceOp op u w) (fun r s₃ => wpAny (model X.prog X.w) X.A (storeName X.env x r) (fun _ => SP X pins D .next) X.xe s₃) X.xe s₂) X.xe s := by
    refine thn (he pins s σ H _ I h) fun w s1 ⟨y, H1, I1, r1, q1⟩ => ?_
    refine thn (ho pins s1 σ H1 v y u w _ I1 r r1 q1) fun z s2 ⟨zv, H2, I2, r2, q2⟩ => ?_
    exact store_ok I2 hN hi hx r2 (fun s3 I3 => ⟨_, H2, I3, q2⟩) hf
  rcases l with ⟨hk, hm⟩ | ⟨hk, c, hc, hcell⟩
  · exact wpAny_loadName_local I.ok.kind hk hn hm go
  · rcases hk with hk | hk
    · exact wpAny_loadName_cell I.ok.kind hk hc hcell go
    · rcases hx with k | k
      · have : X.env.scope.names.lookup x = some .free := hk
        rw [k] at this; cases this
      · have : X.env.scope.names.lookup x = some .free := hk
        rw [k] at this; cases this
/-- o[i] op= e -/
def tAugS (to ti te : TE) (tget : V → V → Hp → VK → Prop) (tip : TIp) (tset : TSet) : TS := fun D σ H => to σ H fun o H1 => ti σ H1 fun i H2 => tget o i H2 fun x H3 => te σ H3 fun y H4 => tip x y H4 fun z H5 => tset o i z H5 fun H6 => D.nx σ H6
/-- o[i], by values -/
def PGet (X : Cx) (t : V → V → Hp → VK → Prop) : Prop :=
  ∀ (pins : List (Addr × Obj)) (s : Shared) (σ : St) (H : Hp) (o i : V) (ov iv : Value) (Q : VK), Inv X pins σ H s → RelV o ov → RelV i iv → t o i H Q →
    wpAny (model X.prog X.w) X.A (getItem ov iv) (EP X pins σ Q) X.xe s
theorem ps_augS {o i e : Expr} {to ti te : TE} {tget : V → V → Hp → VK → Prop} {tip : TIp} {tset : TSet} {op : Operator} {tpos : Pos} (ho : PE X o to) (hi : PE X i ti) (hg : PGet X tget) (he : PE X e te) (hp : PIp X op tip) (hs : PSet X tset)
    (ha : ∀ ov iv new, augStore i ov iv new = (do holding [new, ov, iv] (setItem ov iv new); release [new, ov, iv] []; pure .next) := by intros; rfl) : PS X (.AugAssign (.Subscript o i tpos) op e pos) (tAugS to ti te tget tip tset) := by
  intro pins s σ H D I h
  refine wpAny_AugAssign_SubscriptAny (thn (ho pins s σ H _ I h) fun ov s1 ⟨x1, H1, I1, r1, q1⟩ => ?_) ha
  refine thn (hi pins s1 σ H1 _ I1 q1) fun iv s2 ⟨x2, H2, I2, r2, q2⟩ => ?_
  refine thn (hg pins s2 σ H2 x1 x2 ov iv _ I2 r1 r2 q2) fun old s3 ⟨x3, H3, I3, r3, q3⟩ => ?_
  refine thn (he pins s3 σ H3 _ I3 q3) fun v s4 ⟨x4, H4, I4, r4, q4⟩ => ?_
  refine thn (hp pins s4 σ H4 x3 x4 old v _ I4 r3 r4 q4) fun new s5 ⟨x5, H5, I5, r5, q5⟩ => ?_
  exact thn (hs pins s5 σ H5 x1 x2 x5 ov iv new _ I5 r1 r2 r5 q5) fun _ s6 ⟨H6, I6, q6⟩ => ⟨σ, H6, I6, q6⟩
/-- ints -/
def ipI (f : Int → Int → Int) : TIp := fun x y H Q => ∃ i j, x = .int i ∧ y = .int j ∧ Q (.int (f i j)) H
theorem ip_add : PIp X .Add (ipI fun i j => i + j) := by
  intro pins s σ H x y v u Q I r1 r2 h
  obtain ⟨i, j, e1, e2, q⟩ := h
  subst e1; subst e2
  obtain ⟨t, rfl⟩ := r1
  obtain ⟨t', rfl⟩ := r2
  exact iadd_int ⟨.int _, H, I.tok _, ⟨_, rfl⟩, q⟩
theorem ip_sub : PIp X .Sub (ipI fun i j => i - j) := by
  intro pins s σ H x y v u Q I r1 r2 h
  obtain ⟨i, j, e1, e2, q⟩ := h
  subst e1; subst e2
  obtain ⟨t, rfl⟩ := r1
  obtain ⟨t', rfl⟩ := r2
  exact isub_int ⟨.int _, H, I.tok _, ⟨_, rfl⟩, q⟩
end

/-! ### while -/
section
variable {X : Cx} {pos : Pos}
/-- the invariant W with its measure -/
def tWhile (c : TT) (tb : TS) : TS := fun D σ H => ∃ W : Nat → St → Hp → Prop, (∃ m, W m σ H) ∧ ∀ m σ H, W m σ H →
  c σ H fun b H1 => if b = true then ∃ N : St → Hp → Prop, (∀ σ' H', N σ' H' → ∃ m', m' < m ∧ W m' σ' H') ∧ tb { D with nx := N, ct := N, bk := D.nx } σ H1 else D.nx σ H1
theorem ps_while {c : Expr} {body : List Stmt} {tc : TT} {tb : TS} (hp : PassesOwn (model X.prog X.w) X.A X.env X.xe) (hc : PT X c tc) (hb : PSs X body tb) : PS X (.While c body [] pos) (tWhile tc tb) := by
  intro pins s σ H D I h
  obtain ⟨W, ⟨m0, w0⟩, turn⟩ := h
  refine wpAny_While (codeAny_whileLoop (fun n s' => ∃ σ' H', Inv X pins σ' H' s' ∧ W n σ' H') ?_ m0 ⟨σ, H, I, w0⟩)
  rintro n s1 ⟨σ1, H1, I1, w1⟩
  refine wpAny_passesOwn hp (thn (hc pins s1 σ1 H1 _ I1 (turn n σ1 H1 w1)) fun b s2 ⟨H2, I2, q2⟩ => ?_)
  cases b with
  | true =>
    obtain ⟨N, hN, q2⟩ := q2
    rw [if_pos rfl]
    refine wpAny_passesOwn hp (thn (hb pins s2 σ1 H2 _ I2 q2) fun f s3 q3 => ?_)
    cases f with
    | next =>
      obtain ⟨σ3, H3, I3, n3⟩ := q3
      obtain ⟨m', hm, w3⟩ := hN σ3 H3 n3
      exact ⟨m', hm, σ3, H3, I3, w3⟩
    | cont =>
      obtain ⟨σ3, H3, I3, n3⟩ := q3
      obtain ⟨m', hm, w3⟩ := hN σ3 H3 n3
      exact ⟨m', hm, σ3, H3, I3, w3⟩
    | brk => exact q3
    | ret v => exact q3
  | false =>
    rw [if_neg Bool.false_ne_true]
    exact wpAny_execs_nil ⟨σ1, H2, I2, q2⟩
end

/-! ### what a loop or a comprehension walks -/
/-- at turn i: it yields x (the heap may grow), or it stops -/
structure It where
  go : Nat → Hp → Prop
  yld : Nat → Hp → V → Hp → Prop
  stop : Nat → Hp → Prop
/-- the iterator's own objects may turn: they are not the frame's, not pinned, younger than the entry (or a comprehension's own) -/
def FpOk (X : Cx) (pins : List (Addr × Obj)) (H : Hp) (b : Addr) : Prop :=
  H b = none ∧ b ≠ X.env.locals ∧ b ∉ X.fs ∧ (b ∈ X.ex ∨ X.s₀.heap.objs.size ≤ b) ∧ (∀ x c, X.env.cells.lookup x = some c → c ≠ b) ∧ ∀ p ∈ X.pn ++ pins, p.1 ≠ b
theorem Inv.fpOk {X : Cx} {pins : List (Addr × Obj)} {σ : St} {H H' : Hp} {s : Shared} {b : Addr} (I : Inv X pins σ H s) (hb : s.heap.objs.size ≤ b) (hn : H' b = none) : FpOk X pins H' b := by
  refine ⟨hn, Nat.ne_of_gt (Nat.lt_of_lt_of_le I.lt hb), I.nofs hb, .inr (Nat.le_trans I.sz hb), fun x c e z => ?_, fun p hp z => ?_⟩
  · obtain ⟨v, q⟩ := I.cell x c e
    exact absurd (Nat.lt_of_lt_of_le q.lt (by rw [z]; exact hb)) (Nat.lt_irrefl _)
  · exact absurd (Nat.lt_of_lt_of_le (Heap.lt_size (I.pin p hp).1) (by rw [z]; exact hb)) (Nat.lt_irrefl _)
structure Turn (P : Program) (w : World) (K : PySem.W.Frag) (tg : Expr) (J : It) (fp : List Addr) (it : Addr) (tn : Nat → Heap → Prop) : Prop where
  mem : it ∈ fp
  obj : ∀ i h, tn i h → ∀ b ∈ fp, ∃ o, h.get? b = some o ∧ ∀ v, o.data ≠ .cell v
  keep : ∀ i h h', tn i h → (∀ b ∈ fp, ∀ o, h.get? b = some o → h'.get? b = some o) → tn i h'
  item : ∀ (X : Cx), X.prog = P → X.w = w → X.K = K → X.calm = true → ∀ (i : Nat) (pins : List (Addr × Obj)) (s : Shared) (σ : St) (H : Hp) (E : Value → Shared → Prop), Inv X pins σ H s → (∀ b ∈ fp, FpOk X pins H b) → tn i s.heap → J.go i H →
    wpAny (model P w) X.A (pyNext (.ref it)) (fun r s1 => ∃ u, r = some u ∧
      wpAny (model P w) X.A (letOwnedTupleGo tg (.ref it) u) (fun _ s2 => ∃ x H', Inv X pins σ H' s2 ∧ RelV x u ∧ J.yld i H x H' ∧ tn (i + 1) s2.heap ∧ ∀ b ∈ fp, H' b = none) E s1) E s
  done : ∀ (X : Cx), X.prog = P → X.w = w → X.K = K → X.calm = true → ∀ (i : Nat) (pins : List (Addr × Obj)) (s : Shared) (σ : St) (H : Hp) (E : Value → Shared → Prop), Inv X pins σ H s → (∀ b ∈ fp, FpOk X pins H b) → tn i s.heap → J.stop i H →
    wpAny (model P w) X.A (pyNext (.ref it)) (fun r s1 => r = none ∧ Inv X pins σ H s1) E s
  self : ∀ (A : Around) (i : Nat) (s : Shared) (Q : Value → Shared → Prop) (E : Value → Shared → Prop), tn i s.heap → Q (.ref it) s → wpAny (model P w) A (pyIter (.ref it)) Q E s
abbrev TI := St → Hp → (It → Hp → Prop) → Prop
/-- an iterator has come -/
def PIE (X : Cx) (pins : List (Addr × Obj)) (σ : St) (tg : Expr) (R : It → Hp → Prop) (itv : Value) (s2 : Shared) : Prop :=
  ∃ (it : Addr) (fp : List Addr) (tn : Nat → Heap → Prop) (J : It) (H' : Hp), itv = .ref it ∧ Inv X pins σ H' s2 ∧ Turn X.prog X.w X.K tg J fp it tn ∧ tn 0 s2.heap ∧ (∀ b ∈ fp, FpOk X pins H' b) ∧ R J H'
def PI (X : Cx) (tg iter : Expr) (wi : TI) : Prop :=
  ∀ (pins : List (Addr × Obj)) (s : Shared) (σ : St) (H : Hp) (R : It → Hp → Prop), Inv X pins σ H s → wi σ H R →
    wpAny (model X.prog X.w) X.A (eval iter X.env) (fun v s1 => wpAny (model X.prog X.w) X.A (pyIter v) (PIE X pins σ tg R) X.xe s1) X.xe s

/-- the step ahead of the store is nothing for an iterator that keeps no tuple -/
theorem go_of {M : Model} {A : Around} {E : Value → Shared → Prop} {s : Shared} {tg : Expr} {it : Addr} {u : Value} {o : Obj} {n : String} {vs : Array Value} {Q : Unit → Shared → Prop} (ho : s.heap.get? it = some o) (hc : o.cls = .type n) (hd : o.data = .fields vs)
    (hn : ["enumerate", "zip", "dict_itemiterator", "dict_reverseitemiterator", "odict_iterator", "itertools.zip_longest", "itertools.pairwise"].contains n = false) (hQ : Q () s) : wpAny M A (letOwnedTupleGo tg (.ref it) u) Q E s := by
  unfold letOwnedTupleGo
  cases tg <;> first
    | exact wpAny_pure hQ
    | (cases u <;> first
        | exact wpAny_pure hQ
        | (refine wpAny_bind (wpAny_load ho ?_)
           rw [hc, hd]
           show wpAny M A (if (["enumerate", "zip", "dict_itemiterator", "dict_reverseitemiterator", "odict_iterator", "itertools.zip_longest", "itertools.pairwise"].contains n && vs[0]? == some (rawInt _)) = true then _ else _) Q E s
           rw [if_neg (by intro h; rw [hn, Bool.false_and] at h; cases h)]
           exact wpAny_pure hQ))

/-- the list at a, as it stands at each turn (a loop may append to it) -/
def Itl (K : PySem.W.Frag) (a : Addr) : It :=
  ⟨fun i H => ∃ xs x, SqL K H a xs ∧ xs[i]? = some x, fun i H x H' => H' = H ∧ ∀ xs, SqL K H a xs → xs[i]? = some x, fun i H => ∃ xs, SqL K H a xs ∧ xs.length ≤ i⟩
def Itt (K : PySem.W.Frag) (a : Addr) : It :=
  ⟨fun i H => ∃ xs x, SqT K H a xs ∧ xs[i]? = some x, fun i H x H' => H' = H ∧ ∀ xs, SqT K H a xs → xs[i]? = some x, fun i H => ∃ xs, SqT K H a xs ∧ xs.length ≤ i⟩
/-- lo, lo + 1, .. (n of them) -/
def Itr (lo : Int) (n : Nat) : It := ⟨fun i _ => i < n, fun i H x H' => H' = H ∧ x = .int (lo + i), fun i _ => n ≤ i⟩
theorem turn_list {P : Program} {w : World} {K : PySem.W.Frag} {tg : Expr} (a it : Addr) : Turn P w K tg (Itl K a) [it] it (fun i h => h.IsListIter it a i) where
  mem := by simp
  obj := fun i h st b hb => by
    have e : b = it := by simpa using hb
    subst e
    obtain ⟨o, e, c, d⟩ := st
    exact ⟨o, e, fun v z => by rw [d] at z; cases z⟩
  keep := fun i h h' st k => st.at fun o e => k it (by simp) o e
  item := by
    intro X hP hw hK hc i pins s σ H E I hf st hg
    subst hP hw hK
    obtain ⟨xs, x, hq, hx⟩ := hg
    obtain ⟨its, rv, p, hz⟩ := I.list hq
    obtain ⟨u, hu, ru⟩ := rv.get hx
    obtain ⟨f0, f1, f2, f3, f4, f5⟩ := hf it (by simp)
    refine wpAny_pyNext_list_item st p.isList (x := u) (by simpa using hu) fun h' st' sb => ?_
    have I1 : Inv X pins σ H { s with heap := h' } := I.turned (t' := s.toks) (fun b o hb e => (sb.2 b hb).trans e) f0 f1 f3 f4 f5
    obtain ⟨o, e, c, d⟩ := id st'
    exact ⟨u, rfl, go_of (s := { s with heap := h' }) e c d (by decide) ⟨x, H, I1, ru, ⟨rfl, fun ys hy => by rw [I.list_inj hy hq]; exact hx⟩, st', fun b hb => (hf b hb).1⟩⟩
  done := by
    intro X hP hw hK hc i pins s σ H E I hf st hg
    subst hP hw hK
    obtain ⟨xs, hq, hx⟩ := hg
    obtain ⟨its, rv, p, hz⟩ := I.list hq
    obtain ⟨f0, f1, f2, f3, f4, f5⟩ := hf it (by simp)
    have hl := rv.length
    exact wpAny_pyNext_list_end (I.ok.hd hc) st p.isList (by simp; omega) fun h' eb => ⟨rfl, I.turned (t' := s.toks) (fun b o hb e => eb b o hb e) f0 f1 f3 f4 f5⟩
  self := fun _ _ _ _ _ st h => wpAny_pyIter_listiter st h
theorem turn_tuple {P : Program} {w : World} {K : PySem.W.Frag} {tg : Expr} (a it : Addr) : Turn P w K tg (Itt K a) [it] it (fun i h => h.IsTupleIter it a i) where
  mem := by simp
  obj := fun i h st b hb => by
    have e : b = it := by simpa using hb
    subst e
    obtain ⟨o, e, c, d⟩ := st
    exact ⟨o, e, fun v z => by rw [d] at z; cases z⟩
  keep := fun i h h' st k => st.at fun o e => k it (by simp) o e
  item := by
    intro X hP hw hK hc i pins s σ H E I hf st hg
    subst hP hw hK
    obtain ⟨xs, x, hq, hx⟩ := hg
    obtain ⟨its, rv, p, hz⟩ := I.tuple hq
    obtain ⟨u, hu, ru⟩ := rv.get hx
    obtain ⟨f0, f1, f2, f3, f4, f5⟩ := hf it (by simp)
    refine wpAny_pyNext_tuple_item st (show s.heap.IsTuple a its.toArray from p) (x := u) (by simpa using hu) fun h' st' sb => ?_
    have I1 : Inv X pins σ H { s with heap := h' } := I.turned (t' := s.toks) (fun b o hb e => (sb.2 b hb).trans e) f0 f1 f3 f4 f5
    obtain ⟨o, e, c, d⟩ := id st'
    exact ⟨u, rfl, go_of (s := { s with heap := h' }) e c d (by decide) ⟨x, H, I1, ru, ⟨rfl, fun ys hy => by rw [I.tuple_inj hy hq]; exact hx⟩, st', fun b hb => (hf b hb).1⟩⟩
  done := by
    intro X hP hw hK hc i pins s σ H E I hf st hg
    subst hP hw hK
    obtain ⟨xs, hq, hx⟩ := hg
    obtain ⟨its, rv, p, hz⟩ := I.tuple hq
    obtain ⟨f0, f1, f2, f3, f4, f5⟩ := hf it (by simp)
    have hl := rv.length
    exact wpAny_pyNext_tuple_end (I.ok.hd hc) st (show s.heap.IsTuple a its.toArray from p) (by simp; omega) fun h' eb => ⟨rfl, I.turned (t' := s.toks) (fun b o hb e => eb b o hb e) f0 f1 f3 f4 f5⟩
  self := fun _ _ _ _ _ st h => wpAny_pyIter_tupleiter st h
theorem turn_range {P : Program} {w : World} {K : PySem.W.Frag} {tg : Expr} (it : Addr) (lo : Int) (n : Nat) : Turn P w K tg (Itr lo n) [it] it (fun i h => IsRangeIter h it (lo + (i : Nat) * 1) ((n : Int) - (i : Nat)) 1) where
  mem := by simp
  obj := fun i h st b hb => by
    have e : b = it := by simpa using hb
    subst e
    exact ⟨_, st, fun v z => by
      have z' : Data.fields _ = Data.cell v := z
      cases z'⟩
  keep := fun i h h' st k => k it (by simp) _ st
  item := by
    intro X hP hw hK hc i pins s σ H E I hf st hg
    subst hP hw hK
    obtain ⟨f0, f1, f2, f3, f4, f5⟩ := hf it (by simp)
    have W := Walks.range (prog := X.prog) (w := X.w) (I.ok.hd hc) it lo 1 n
    refine W.item i s _ _ hg st fun v h' tk hv st' kk => ?_
    obtain ⟨t, rfl⟩ := hv
    have I1 : Inv X pins σ H { s with heap := h', toks := tk } := I.turned (fun b o hb e => kk b o (by simpa using hb) e) f0 f1 f3 f4 f5
    refine ⟨_, rfl, go_of (s := { s with heap := h', toks := tk }) (n := "range_iterator") st' rfl rfl (by decide) ⟨.int (lo + i), H, I1, ⟨t, ?_⟩, ⟨rfl, rfl⟩, st', fun b hb => (hf b hb).1⟩⟩
    rw [Int.mul_one]
  done := by
    intro X hP hw hK hc i pins s σ H E I hf st hg
    subst hP hw hK
    obtain ⟨f0, f1, f2, f3, f4, f5⟩ := hf it (by simp)
    exact wpAny_pyNext_range_end (I.ok.hd hc) st (by have : n ≤ i := hg; omega) fun h' eb => ⟨rfl, I.turned (t' := s.toks) (fun b o hb e => eb b o hb e) f0 f1 f3 f4 f5⟩
  self := fun _ _ _ _ _ st h => wpAny_pyIter_rangeiter st h
end L2

namespace L2
open PySem PySem.Spec PyProof.Rows
section
variable {X : Cx} {tg : Expr}
def iList (K : PySem.W.Frag) (tl : TE) : TI := fun σ H R => tl σ H fun x H1 => ∃ a, x = .ref a ∧ (∃ xs, SqL K H1 a xs) ∧ R (Itl K a) H1
def iTup (K : PySem.W.Frag) (tl : TE) : TI := fun σ H R => tl σ H fun x H1 => ∃ a, x = .ref a ∧ (∃ xs, SqT K H1 a xs) ∧ R (Itt K a) H1
theorem pi_list {l : Expr} {tl : TE} (hl : PE X l tl) : PI X tg l (iList X.K tl) := by
  intro pins s σ H R I h
  refine thn (hl pins s σ H _ I h) fun v s1 ⟨x, H1, I1, r1, q1⟩ => ?_
  obtain ⟨a, e, ⟨xs, hq⟩, q⟩ := q1
  subst e
  cases r1
  obtain ⟨its, rv, p, hz⟩ := I1.list hq
  refine wpAny_pyIter_list p.isList ?_
  refine ⟨s1.heap.objs.size, [s1.heap.objs.size], _, _, H1, rfl, I1.kept (t' := s1.toks) fun b o e => Heap.get?_push_of_some _ e, turn_list a _, ⟨_, Heap.get?_push_size _ rfl, rfl, rfl⟩, fun b hb => ?_, q⟩
  have e : b = s1.heap.objs.size := by simpa using hb
  subst e
  exact I1.fpOk (Nat.le_refl _) (I1.hok.fresh (Nat.le_refl _))
theorem pi_tup {l : Expr} {tl : TE} (hl : PE X l tl) : PI X tg l (iTup X.K tl) := by
  intro pins s σ H R I h
  refine thn (hl pins s σ H _ I h) fun v s1 ⟨x, H1, I1, r1, q1⟩ => ?_
  obtain ⟨a, e, ⟨xs, hq⟩, q⟩ := q1
  subst e
  cases r1
  obtain ⟨its, rv, p, hz⟩ := I1.tuple hq
  refine wpAny_pyIter_tuple (show s1.heap.IsTuple a its.toArray from p) ?_
  refine ⟨s1.heap.objs.size, [s1.heap.objs.size], _, _, H1, rfl, I1.kept (t' := s1.toks) fun b o e => Heap.get?_push_of_some _ e, turn_tuple a _, ⟨_, Heap.get?_push_size _ rfl, rfl, rfl⟩, fun b hb => ?_, q⟩
  have e : b = s1.heap.objs.size := by simpa using hb
  subst e
  exact I1.fpOk (Nat.le_refl _) (I1.hok.fresh (Nat.le_refl _))
/-- a range object just made, walked -/
theorem range_it {pins : List (Addr × Obj)} {σ : St} {H : Hp} {s : Shared} {R : It → Hp → Prop} {E : Value → Shared → Prop} {lo hi : Int} {t u v : Tok} {tk : Nat} (I : Inv X pins σ H s) (h1 : -(2 ^ 62) ≤ lo) (h2 : lo < 2 ^ 62) (h3 : -(2 ^ 62) ≤ hi) (h4 : hi < 2 ^ 62)
    (q : R (Itr lo (hi - lo).toNat) H) : wpAny (model X.prog X.w) X.A (pyIter (.ref s.heap.objs.size)) (PIE X pins σ tg R) E { s with heap := s.heap.push { cls := .type "range", data := .fields #[.int lo t, .int hi u, .int 1 v] }, toks := tk } := by
  refine wpAny_pyIter_range (IsRange.new ..) (small_one h1 h2 h3 h4) ?_
  have I1 : Inv X pins σ H { s with heap := s.heap.push { cls := .type "range", data := .fields #[.int lo t, .int hi u, .int 1 v] }, toks := tk } := I.kept fun b o e => Heap.get?_push_of_some _ e
  refine ⟨(s.heap.push { cls := .type "range", data := .fields #[.int lo t, .int hi u, .int 1 v] }).objs.size, [(s.heap.push { cls := .type "range", data := .fields #[.int lo t, .int hi u, .int 1 v] }).objs.size], _, _, H, rfl,
    I1.kept (t' := tk) fun b o e => Heap.get?_push_of_some _ e, turn_range _ lo (hi - lo).toNat, ?_, fun b hb => ?_, q⟩
  · have e1 : lo + ((0 : Nat) : Int) * 1 = lo := by simp
    have e2 : (((hi - lo).toNat : Nat) : Int) - ((0 : Nat) : Int) = Builtin.Range.rangeSize lo hi 1 := by rw [rangeSize_one]; split <;> omega
    show IsRangeIter _ _ (lo + ((0 : Nat) : Int) * 1) ((((hi - lo).toNat : Nat) : Int) - ((0 : Nat) : Int)) 1
    rw [e1, e2]
    exact Heap.get?_push_size _ rfl
  · have e : b = (s.heap.push { cls := .type "range", data := .fields #[.int lo t, .int hi u, .int 1 v] }).objs.size := by simpa using hb
    subst e
    exact I1.fpOk (Nat.le_refl _) (I1.hok.fresh (Nat.le_refl _))
def iRng1 (ta : TA) : TI := fun σ H R => ta σ H fun vs H1 => ∃ j : Int, vs = [.int j] ∧ -(2 ^ 62) ≤ j ∧ j < 2 ^ 62 ∧ R (Itr 0 j.toNat) H1
def iRng2 (ta : TA) : TI := fun σ H R => ta σ H fun vs H1 => ∃ i j : Int, vs = [.int i, .int j] ∧ (-(2 ^ 62) ≤ i ∧ i < 2 ^ 62 ∧ -(2 ^ 62) ≤ j ∧ j < 2 ^ 62) ∧ R (Itr i (j - i).toNat) H1
theorem pi_range1 {a : Expr} {ta : TA} {p pos : Pos} (hg : Gl X "range") (hm : X.mg "range" = none) (ha : PA X [a] ta) (hs : starEach [a] X.env = [(false, eval a X.env)] := by rfl) : PI X tg (.Call (.Name "range" p) [a] [] pos) (iRng1 ta) := by
  intro pins s σ H R I h
  refine Call_ (ld_blt I hg hm boot_range (PyProof.Rows.callWith_type1 (thn (ha pos pins s σ H _ I h) fun us s1 ⟨vs, H1, I1, r1, q1⟩ => ?_) hs rfl))
  obtain ⟨j, e, q1, q2, q⟩ := q1
  subst e
  cases r1 with
  | cons r rr =>
    cases rr
    obtain ⟨t, rfl⟩ := r
    exact call_range_1 (range_it I1 (by omega) (by omega) q1 q2 (by simpa using q))
theorem pi_range2 {a b : Expr} {ta : TA} {p pos : Pos} (hg : Gl X "range") (hm : X.mg "range" = none) (ha : PA X [a, b] ta) (hs : starEach [a, b] X.env = [(false, eval a X.env), (false, eval b X.env)] := by rfl) (hs2 : starEach [b] X.env = [(false, eval b X.env)] := by rfl) :
    PI X tg (.Call (.Name "range" p) [a, b] [] pos) (iRng2 ta) := by
  intro pins s σ H R I h
  refine Call_ (ld_blt I hg hm boot_range (PyProof.Rows.callWith_type1 (thn (ha pos pins s σ H _ I h) fun us s1 ⟨vs, H1, I1, r1, q1⟩ => ?_) (by rw [hs, hs2]) (by rw [hs2]; rfl)))
  obtain ⟨i, j, e, ⟨q1, q2, q3, q4⟩, q⟩ := q1
  subst e
  cases r1 with
  | cons r rr =>
    cases rr with
    | cons r' rr =>
      cases rr
      obtain ⟨t, rfl⟩ := r
      obtain ⟨t', rfl⟩ := r'
      exact call_range_2 (range_it I1 q1 q2 q3 q4 q)

/-! ### for -/
/-- W: the invariant by the turn and a measure; N: what the body is to reach -/
def tFor (wi : TI) (g : TG) (tb : TS) : TS := fun D σ H => wi σ H fun J H1 => ∃ W : Nat → Nat → St → Hp → Prop, (∃ m, W 0 m σ H1) ∧ ∀ i m σ H, W i m σ H →
  (J.stop i H ∧ D.nx σ H) ∨ (J.go i H ∧ ∃ N : St → Hp → Prop, (∀ σ' H', N σ' H' → ∃ m', m' < m ∧ W (i + 1) m' σ' H') ∧ ∀ x H', J.yld i H x H' → g x σ H' fun σ2 H2 => tb { D with nx := N, ct := N, bk := D.nx } σ2 H2)
/-- the records at fp as they stand -/
def pinsAt (fp : List Addr) (h : Heap) : List (Addr × Obj) := fp.filterMap fun b => (h.get? b).map fun o => (b, o)
theorem mem_pinsAt {fp : List Addr} {h : Heap} {b : Addr} {o : Obj} (hb : b ∈ fp) (e : h.get? b = some o) : (b, o) ∈ pinsAt fp h := List.mem_filterMap.mpr ⟨b, hb, by rw [e]; rfl⟩
theorem of_pinsAt {fp : List Addr} {h : Heap} {p : Addr × Obj} (hp : p ∈ pinsAt fp h) : p.1 ∈ fp ∧ h.get? p.1 = some p.2 := by
  obtain ⟨b, hb, e⟩ := List.mem_filterMap.mp hp
  cases q : h.get? b with
  | none => rw [q] at e; cases e
  | some o =>
    rw [q] at e
    have e' : (b, o) = p := Option.some.inj e
    subst e'
    exact ⟨hb, q⟩
theorem Inv.pinned {pins : List (Addr × Obj)} {σ : St} {H : Hp} {s : Shared} {fp : List Addr} (I : Inv X pins σ H s) (hf : ∀ b ∈ fp, FpOk X pins H b) (ho : ∀ b ∈ fp, ∃ o, s.heap.get? b = some o ∧ ∀ v, o.data ≠ .cell v) : Inv X (pins ++ pinsAt fp s.heap) σ H s :=
  I.pins_of fun p hp => (List.mem_append.mp hp).elim (fun z => I.pin p (List.mem_append_right _ z)) fun z => by
    obtain ⟨hb, e⟩ := of_pinsAt z
    obtain ⟨f0, f1, f2, _⟩ := hf p.1 hb
    obtain ⟨o, e', d⟩ := ho p.1 hb
    rw [e] at e'; cases e'
    exact ⟨e, f0, f1, f2, d⟩
theorem Inv.unpinned {pins pl : List (Addr × Obj)} {σ : St} {H : Hp} {s : Shared} (I : Inv X (pins ++ pl) σ H s) : Inv X pins σ H s := I.pins_of fun p hp => I.pin p (List.mem_append_right _ (List.mem_append_left _ hp))
theorem ps_for {iter : Expr} {body : List Stmt} {wi : TI} {g : TG} {tb : TS} {pos : Pos} (hp : PassesOwn (model X.prog X.w) X.A X.env X.xe) (hc : X.calm = true) (hi : PI X tg iter wi) (hg : PG X tg g) (hb : PSs X body tb)
    (hs : ∀ x, foldedSetIterable iter X.env x = pure x := by intro _; rfl) : PS X (.For tg iter body [] pos) (tFor wi g tb) := by
  intro pins s σ H D I h
  refine wpAny_For (thn (hi pins s σ H _ I h) fun v s1 h1 => thn h1 fun itv s2 h2 => ?_) hs
  obtain ⟨it, fp, tn, J, H2, e, I2, T, st2, f2, W, ⟨m0, w0⟩, turn⟩ := h2
  subst e
  -- what stays true of the iterator's objects through the loop
  have stat : ∀ {H' : Hp}, (∀ b ∈ fp, H' b = none) → ∀ b ∈ fp, FpOk X pins H' b := fun hn b hb => ⟨hn b hb, (f2 b hb).2⟩
  refine codeAny_forLoop_any (fun n s' => ∃ i σ' H', Inv X pins σ' H' s' ∧ tn i s'.heap ∧ (∀ b ∈ fp, H' b = none) ∧ W i n σ' H') ?_ m0 ⟨0, σ, H2, I2, st2, fun b hb => (f2 b hb).1, w0⟩
  rintro n s3 ⟨i, σ3, H3, I3, st3, fr3, w3⟩
  rcases turn i n σ3 H3 w3 with ⟨stop, qn⟩ | ⟨go, N, hN, step⟩
  · refine wpAny_passesOwn hp (thn (T.done X rfl rfl rfl hc i pins s3 σ3 H3 X.xe I3 (stat fr3) st3 stop) fun r s4 ⟨hr, I4⟩ => ?_)
    subst hr
    exact wpAny_execs_nil ⟨σ3, H3, I4, qn⟩
  · refine wpAny_passesOwn hp (thn (T.item X rfl rfl rfl hc i pins s3 σ3 H3 X.xe I3 (stat fr3) st3 go) fun r s4 ⟨u, hr, h4⟩ => ?_)
    subst hr
    refine wpAny_passesOwn hp (thn h4 fun _ s5 ⟨x, H5, I5, r5, y5, st5, fr5⟩ => ?_)
    have I5' := I5.pinned (stat fr5) (T.obj _ _ st5)
    refine wpAny_passesOwn hp (thn (hg _ s5 σ3 H5 x u _ I5' r5 (step x H5 y5)) fun _ s6 ⟨σ6, H6, I6, q6⟩ => ?_)
    refine wpAny_passesOwn hp (thn (hb _ s6 σ6 H6 _ I6 q6) fun f s7 q7 => ?_)
    have again : ∀ {σ7 : St} {H7 : Hp}, Inv X (pins ++ pinsAt fp s5.heap) σ7 H7 s7 → N σ7 H7 → ∃ m, m < n ∧ ∃ i σ' H', Inv X pins σ' H' s7 ∧ tn i s7.heap ∧ (∀ b ∈ fp, H' b = none) ∧ W i m σ' H' := fun {σ7 H7} I7 n7 => by
      obtain ⟨m', hm, w7⟩ := hN σ7 H7 n7
      refine ⟨m', hm, i + 1, σ7, H7, I7.unpinned, T.keep _ _ _ st5 fun b hb o e => (I7.pin (b, o) (List.mem_append_right _ (List.mem_append_right _ (mem_pinsAt hb e)))).1, fun b hb => ?_, w7⟩
      obtain ⟨o, e, d⟩ := T.obj _ _ st5 b hb
      exact (I7.pin (b, o) (List.mem_append_right _ (List.mem_append_right _ (mem_pinsAt hb e)))).2.1
    cases f with
    | next => obtain ⟨σ7, H7, I7, n7⟩ := q7; exact again I7 n7
    | cont => obtain ⟨σ7, H7, I7, n7⟩ := q7; exact again I7 n7
    | brk => obtain ⟨σ7, H7, I7, q7⟩ := q7; exact ⟨σ7, H7, I7.unpinned, q7⟩
    | ret v => obtain ⟨x7, σ7, H7, I7, r7, q7⟩ := q7; exact ⟨x7, σ7, H7, I7.unpinned, r7, q7⟩
end

/-! ### the forms one uses -/
/-- over a list that the body leaves as it is -/
theorem for_list {K : PySem.W.Frag} {a : Addr} {xs : List V} {g : TG} {tb : TS} {D : Ends} {σ : St} {H : Hp} (Pv : Nat → St → Hp → Prop) (h0 : Pv 0 σ H) (hl : ∀ i σ H, i ≤ xs.length → Pv i σ H → SqL K H a xs)
    (hs : ∀ i x σ H, xs[i]? = some x → Pv i σ H → g x σ H fun σ2 H2 => tb { D with nx := Pv (i + 1), ct := Pv (i + 1), bk := D.nx } σ2 H2) (hd : ∀ σ H, Pv xs.length σ H → D.nx σ H) :
    ∃ W : Nat → Nat → St → Hp → Prop, (∃ m, W 0 m σ H) ∧ ∀ i m σ H, W i m σ H →
      ((Itl K a).stop i H ∧ D.nx σ H) ∨ ((Itl K a).go i H ∧ ∃ N : St → Hp → Prop, (∀ σ' H', N σ' H' → ∃ m', m' < m ∧ W (i + 1) m' σ' H') ∧ ∀ x H', (Itl K a).yld i H x H' → g x σ H' fun σ2 H2 => tb { D with nx := N, ct := N, bk := D.nx } σ2 H2) := by
  refine ⟨fun i m σ H => m = xs.length - i ∧ i ≤ xs.length ∧ Pv i σ H, ⟨xs.length, by simp, Nat.zero_le _, h0⟩, ?_⟩
  rintro i m σ H ⟨rfl, hi, p⟩
  have q := hl i σ H hi p
  by_cases hlt : i < xs.length
  · refine .inr ⟨⟨xs, xs[i], q, by simp [hlt]⟩, Pv (i + 1), fun σ' H' p' => ⟨xs.length - (i + 1), by omega, rfl, hlt, p'⟩, fun x H' y => ?_⟩
    obtain ⟨e, y⟩ := y
    subst e
    exact hs i x σ _ (y xs q) p
  · have e : i = xs.length := by omega
    subst e
    exact .inl ⟨⟨xs, q, Nat.le_refl _⟩, hd σ H p⟩
theorem for_tup {K : PySem.W.Frag} {a : Addr} {xs : List V} {g : TG} {tb : TS} {D : Ends} {σ : St} {H : Hp} (Pv : Nat → St → Hp → Prop) (h0 : Pv 0 σ H) (hl : ∀ i σ H, i ≤ xs.length → Pv i σ H → SqT K H a xs)
    (hs : ∀ i x σ H, xs[i]? = some x → Pv i σ H → g x σ H fun σ2 H2 => tb { D with nx := Pv (i + 1), ct := Pv (i + 1), bk := D.nx } σ2 H2) (hd : ∀ σ H, Pv xs.length σ H → D.nx σ H) :
    ∃ W : Nat → Nat → St → Hp → Prop, (∃ m, W 0 m σ H) ∧ ∀ i m σ H, W i m σ H →
      ((Itt K a).stop i H ∧ D.nx σ H) ∨ ((Itt K a).go i H ∧ ∃ N : St → Hp → Prop, (∀ σ' H', N σ' H' → ∃ m', m' < m ∧ W (i + 1) m' σ' H') ∧ ∀ x H', (Itt K a).yld i H x H' → g x σ H' fun σ2 H2 => tb { D with nx := N, ct := N, bk := D.nx } σ2 H2) := by
  refine ⟨fun i m σ H => m = xs.length - i ∧ i ≤ xs.length ∧ Pv i σ H, ⟨xs.length, by simp, Nat.zero_le _, h0⟩, ?_⟩
  rintro i m σ H ⟨rfl, hi, p⟩
  have q := hl i σ H hi p
  by_cases hlt : i < xs.length
  · refine .inr ⟨⟨xs, xs[i], q, by simp [hlt]⟩, Pv (i + 1), fun σ' H' p' => ⟨xs.length - (i + 1), by omega, rfl, hlt, p'⟩, fun x H' y => ?_⟩
    obtain ⟨e, y⟩ := y
    subst e
    exact hs i x σ _ (y xs q) p
  · have e : i = xs.length := by omega
    subst e
    exact .inl ⟨⟨xs, q, Nat.le_refl _⟩, hd σ H p⟩
theorem for_range {lo : Int} {n : Nat} {g : TG} {tb : TS} {D : Ends} {σ : St} {H : Hp} (Pv : Nat → St → Hp → Prop) (h0 : Pv 0 σ H)
    (hs : ∀ i σ H, i < n → Pv i σ H → g (.int (lo + i)) σ H fun σ2 H2 => tb { D with nx := Pv (i + 1), ct := Pv (i + 1), bk := D.nx } σ2 H2) (hd : ∀ σ H, Pv n σ H → D.nx σ H) :
    ∃ W : Nat → Nat → St → Hp → Prop, (∃ m, W 0 m σ H) ∧ ∀ i m σ H, W i m σ H →
      ((Itr lo n).stop i H ∧ D.nx σ H) ∨ ((Itr lo n).go i H ∧ ∃ N : St → Hp → Prop, (∀ σ' H', N σ' H' → ∃ m', m' < m ∧ W (i + 1) m' σ' H') ∧ ∀ x H', (Itr lo n).yld i H x H' → g x σ H' fun σ2 H2 => tb { D with nx := N, ct := N, bk := D.nx } σ2 H2) := by
  refine ⟨fun i m σ H => m = n - i ∧ i ≤ n ∧ Pv i σ H, ⟨n, by simp, Nat.zero_le _, h0⟩, ?_⟩
  rintro i m σ H ⟨rfl, hi, p⟩
  by_cases hlt : i < n
  · refine .inr ⟨hlt, Pv (i + 1), fun σ' H' p' => ⟨n - (i + 1), by omega, rfl, hlt, p'⟩, fun x H' y => ?_⟩
    obtain ⟨e, y⟩ := y
    subst e y
    exact hs i σ _ hlt p
  · have e : i = n := by omega
    subst e
    exact .inl ⟨Nat.le_refl _, hd σ H p⟩
/-- while, by a word and a measure of the state -/
theorem while_by {c : TT} {tb : TS} {D : Ends} {σ : St} {H : Hp} (Pv : St → Hp → Prop) (μ : St → Hp → Nat) (h0 : Pv σ H)
    (hs : ∀ σ H, Pv σ H → c σ H fun b H1 => if b = true then tb { D with nx := fun σ' H' => Pv σ' H' ∧ μ σ' H' < μ σ H, ct := fun σ' H' => Pv σ' H' ∧ μ σ' H' < μ σ H, bk := D.nx } σ H1 else D.nx σ H1)
    (mono : ∀ σ H Q Q', (∀ b H1, Q b H1 → Q' b H1) → c σ H Q → c σ H Q') : tWhile c tb D σ H := by
  refine ⟨fun m σ H => m = μ σ H ∧ Pv σ H, ⟨_, rfl, h0⟩, ?_⟩
  rintro m σ H ⟨rfl, p⟩
  refine mono σ H _ _ (fun b H1 q => ?_) (hs σ H p)
  cases b with
  | true => exact ⟨_, fun σ' H' ⟨p', l⟩ => ⟨_, l, rfl, p'⟩, q⟩
  | false => exact q
end L2

namespace L2
open PySem PySem.Spec PyProof.Rows

abbrev R2 := V → V → Hp → VK → Prop
/-- a two-place operation on values: f is binaryOp op, inplaceOp op or compareOp op -/
def OpR (X : Cx) (f : Value → Value → Sem Value) (r : R2) : Prop :=
  ∀ (pins : List (Addr × Obj)) (s : Shared) (σ : St) (H : Hp) (x y : V) (v u : Value) (Q : VK), Inv X pins σ H s → RelV x v → RelV y u → r x y H Q →
    wpAny (model X.prog X.w) X.A (f v u) (EP X pins σ Q) X.xe s
/-- a one-place operation -/
def UnR (X : Cx) (f : Value → Sem Value) (r : V → Hp → VK → Prop) : Prop :=
  ∀ (pins : List (Addr × Obj)) (s : Shared) (σ : St) (H : Hp) (x : V) (v : Value) (Q : VK), Inv X pins σ H s → RelV x v → r x H Q →
    wpAny (model X.prog X.w) X.A (f v) (EP X pins σ Q) X.xe s
/-- a call of a value that is known (a builtin, a type) with values -/
def CallR (X : Cx) (f : Value) (r : List V → Hp → VK → Prop) : Prop :=
  ∀ (pins : List (Addr × Obj)) (s : Shared) (σ : St) (H : Hp) (xs : List V) (us : List Value) (Q : VK), Inv X pins σ H s → Vals xs us → r xs H Q →
    wpAny (model X.prog X.w) X.A (call f us) (EP X pins σ Q) X.xe s
/-- a value's truth -/
def TruR (X : Cx) (r : V → Hp → (Bool → Hp → Prop) → Prop) : Prop :=
  ∀ (pins : List (Addr × Obj)) (s : Shared) (σ : St) (H : Hp) (x : V) (v : Value) (Q : Bool → Hp → Prop), Inv X pins σ H s → RelV x v → r x H Q →
    wpAny (model X.prog X.w) X.A (truthy v) (TP X pins σ Q) X.xe s

def tOp (r : R2) (ta tb : TE) : TE := fun σ H Q => ta σ H fun x H1 => tb σ H1 fun y H2 => r x y H2 Q
def tUn (r : V → Hp → VK → Prop) (ta : TE) : TE := fun σ H Q => ta σ H fun x H1 => r x H1 Q
/-- ints in, under C, and a value out -/
def rI (C : Int → Int → Prop) (g : Int → Int → V) : R2 := fun x y H Q => ∃ i j, x = .int i ∧ y = .int j ∧ C i j ∧ Q (g i j) H
def rI0 (g : Int → Int → V) : R2 := fun x y H Q => ∃ i j, x = .int i ∧ y = .int j ∧ Q (g i j) H
def rU (g : Int → V) : V → Hp → VK → Prop := fun x H Q => ∃ i, x = .int i ∧ Q (g i) H

section
variable {X : Cx} {a b c : Expr} {ta tb tc : TE} {pos : Pos}

theorem binT (ha : PE X a ta) (hb : PE X b tb) {pins : List (Addr × Obj)} {s : Shared} {σ : St} {H : Hp} {R : V → V → Hp → Prop} (I : Inv X pins σ H s)
    (h : ta σ H fun x H1 => tb σ H1 fun y H2 => R x y H2) {Q : Value → Shared → Prop} {f : Value → Value → Sem Value}
    (hf : ∀ v u s2 x y H2, Inv X pins σ H2 s2 → RelV x v → RelV y u → R x y H2 → wpAny (model X.prog X.w) X.A (f v u) Q X.xe s2) :
    wpAny (model X.prog X.w) X.A (eval a X.env) (fun v s₁ => wpAny (model X.prog X.w) X.A (eval b X.env) (fun u s₂ => wpAny (model X.prog X.w) X.A (f v u) Q X.xe s₂) X.xe s₁) X.xe s := by
  refine thn (ha pins s σ H _ I h) fun v s1 ⟨x, H1, I1, r1, q1⟩ => ?_
  refine thn (hb pins s1 σ H1 _ I1 q1) fun u s2 ⟨y, H2, I2, r2, q2⟩ => ?_
  exact hf v u s2 x y H2 I2 r1 r2 q2

theorem pe_op {op : Operator} {r : R2} (ho : OpR X (binaryOp op) r) (ha : PE X a ta) (hb : PE X b tb) : PE X (.BinOp a op b pos) (tOp r ta tb) := by
  intro pins s σ H Q I h
  exact wpAny_BinOp (binT ha hb I h fun v u s2 x y H2 I2 rx ry q => ho pins s2 σ H2 x y v u Q I2 rx ry q)
theorem pe_un {op : UnaryOp} {r : V → Hp → VK → Prop} (ho : UnR X (unaryOp op) r) (ha : PE X a ta) : PE X (.UnaryOp op a pos) (tUn r ta) := by
  intro pins s σ H Q I h
  exact UnaryOp_ (thn (ha pins s σ H _ I h) fun v s1 ⟨x, H1, I1, r1, q1⟩ => ho pins s1 σ H1 x v Q I1 r1 q1)
/-- a op= e at a name: the name's slot i -/
theorem augR {op : Operator} {r : R2} (ho : OpR X (inplaceOp op) r) {pins : List (Addr × Obj)} {s : Shared} {σ : St} {H : Hp} {x y : V} {v u : Value} {Q : VK} (I : Inv X pins σ H s)
    (rx : RelV x v) (ry : RelV y u) (q : r x y H Q) : wpAny (model X.prog X.w) X.A (inplaceOp op v u) (EP X pins σ Q) X.xe s := ho pins s σ H x y v u Q I rx ry q

/-! ### ints -/
theorem opI {f : Value → Value → Sem Value} {C : Int → Int → Prop} {g : Int → Int → Int}
    (rule : ∀ (i j : Int) (t u : Tok) (s : Shared) (Q : Value → Shared → Prop) (E : Value → Shared → Prop), C i j → Q (.int (g i j) s.toks) { s with toks := s.toks + 1 } → wpAny (model X.prog X.w) X.A (f (.int i t) (.int j u)) Q E s) :
    OpR X f (rI C fun i j => .int (g i j)) := by
  intro pins s σ H x y v u Q I rx ry h
  obtain ⟨i, j, rfl, rfl, hc, q⟩ := h
  obtain ⟨t, rfl⟩ := rx
  obtain ⟨t', rfl⟩ := ry
  exact rule i j t t' s _ _ hc ⟨.int (g i j), H, I.tok _, ⟨_, rfl⟩, q⟩
theorem opI0 {f : Value → Value → Sem Value} {g : Int → Int → Int}
    (rule : ∀ (i j : Int) (t u : Tok) (s : Shared) (Q : Value → Shared → Prop) (E : Value → Shared → Prop), Q (.int (g i j) s.toks) { s with toks := s.toks + 1 } → wpAny (model X.prog X.w) X.A (f (.int i t) (.int j u)) Q E s) :
    OpR X f (rI0 fun i j => .int (g i j)) := by
  intro pins s σ H x y v u Q I rx ry h
  obtain ⟨i, j, rfl, rfl, q⟩ := h
  obtain ⟨t, rfl⟩ := rx
  obtain ⟨t', rfl⟩ := ry
  exact rule i j t t' s _ _ ⟨.int (g i j), H, I.tok _, ⟨_, rfl⟩, q⟩
theorem opB0 {f : Value → Value → Sem Value} {g : Int → Int → Bool}
    (rule : ∀ (i j : Int) (t u : Tok) (s : Shared) (Q : Value → Shared → Prop) (E : Value → Shared → Prop), Q (.bool (g i j)) s → wpAny (model X.prog X.w) X.A (f (.int i t) (.int j u)) Q E s) :
    OpR X f (rI0 fun i j => .bl (g i j)) := by
  intro pins s σ H x y v u Q I rx ry h
  obtain ⟨i, j, rfl, rfl, q⟩ := h
  obtain ⟨t, rfl⟩ := rx
  obtain ⟨t', rfl⟩ := ry
  exact rule i j t t' s _ _ ⟨.bl (g i j), H, I, rfl, q⟩

def CDiv (i j : Int) : Prop := 0 < j ∧ j < 1073741824
def CDivN (i j : Int) : Prop := j ≠ 0 ∧ j.natAbs < 1073741824
def CPow (i j : Int) : Prop := 0 ≤ j ∧ j ≤ 1000000 ∧ i.natAbs < 2 ^ 64
def CMul (i j : Int) : Prop := (-(2 ^ 64) < i ∧ i < 2 ^ 64) ∨ (-(2 ^ 64) < j ∧ j < 2 ^ 64)
theorem CMul.ok {i j : Int} (h : CMul i j) : IntMulOk i j := by
  rcases h with ⟨h1, h2⟩ | ⟨h1, h2⟩
  · exact .of_left (intBits_le_64 h1 h2)
  · exact .of_right (intBits_le_64 h1 h2)
theorem two_pow_nn (k : Nat) : (0 : Int) ≤ 2 ^ k := by
  rw [two_pow_cast]
  exact Int.natCast_nonneg _

theorem op_add : OpR X (binaryOp .Add) (rI0 fun i j => .int (i + j)) := opI0 fun _ _ _ _ _ _ _ q => add_int q
theorem op_sub : OpR X (binaryOp .Sub) (rI0 fun i j => .int (i - j)) := opI0 fun _ _ _ _ _ _ _ q => sub_int q
theorem op_mul : OpR X (binaryOp .Mult) (rI CMul fun i j => .int (i * j)) := opI fun _ _ _ _ _ _ _ hc q => mul_int q hc.ok
/-- // by a positive divisor -/
theorem op_fdiv : OpR X (binaryOp .FloorDiv) (rI CDiv fun i j => .int (i / j)) := opI fun i j _ _ _ _ _ hc q => by
  have h1 : (0 : Int) < j := hc.1
  have h2 : j < 1073741824 := hc.2
  exact floordiv_int (by omega) (by rw [Int.fdiv_eq_ediv_of_nonneg i (by omega)]; exact q) (.inl (PyProof.noPylong_small (by omega)))
theorem op_fdivN : OpR X (binaryOp .FloorDiv) (rI CDivN fun i j => .int (i.fdiv j)) := opI fun _ _ _ _ _ _ _ hc q => floordiv_int hc.1 q (.inl (PyProof.noPylong_small hc.2))
/-- % by a positive divisor of any size -/
theorem op_mod : OpR X (binaryOp .Mod) (rI (fun _ j => 0 < j) fun i j => .int (i % j)) := opI fun i j _ _ _ _ _ hc q => by
  have h1 : (0 : Int) < j := hc
  exact mod_int' (by omega) (by rw [Int.fmod_eq_emod_of_nonneg i (by omega)]; exact q)
theorem op_modN : OpR X (binaryOp .Mod) (rI (fun _ j => j ≠ 0) fun i j => .int (i.fmod j)) := opI fun _ _ _ _ _ _ _ hc q => mod_int' hc q
theorem op_pow : OpR X (binaryOp .Pow) (rI CPow fun i j => .int (i ^ j.toNat)) := opI fun _ _ _ _ _ _ _ hc q => pow_int_small hc.1 hc.2.1 hc.2.2 q
theorem op_shl : OpR X (binaryOp .LShift) (rI CPow fun i j => .int (i * 2 ^ j.toNat)) := opI fun _ _ _ _ _ _ _ hc q => lshift_int_small hc.1 hc.2.1 hc.2.2 q
theorem op_shr : OpR X (binaryOp .RShift) (rI (fun _ j => 0 ≤ j) fun i j => .int (i / 2 ^ j.toNat)) := opI fun i j _ _ _ _ _ hc q =>
  rshift_int hc (by rw [Int.fdiv_eq_ediv_of_nonneg i (two_pow_nn _)]; exact q)
theorem op_and : OpR X (binaryOp .BitAnd) (rI0 fun i j => .int (Builtin.bitAnd i j)) := opI0 fun _ _ _ _ _ _ _ q => and_int q
theorem op_or : OpR X (binaryOp .BitOr) (rI0 fun i j => .int (Builtin.bitOr i j)) := opI0 fun _ _ _ _ _ _ _ q => or_int q
theorem op_xor : OpR X (binaryOp .BitXor) (rI0 fun i j => .int (Builtin.bitXor i j)) := opI0 fun _ _ _ _ _ _ _ q => xor_int q

theorem iop_add : OpR X (inplaceOp .Add) (rI0 fun i j => .int (i + j)) := opI0 fun _ _ _ _ _ _ _ q => iadd_int q
theorem iop_sub : OpR X (inplaceOp .Sub) (rI0 fun i j => .int (i - j)) := opI0 fun _ _ _ _ _ _ _ q => isub_int q
theorem iop_mul : OpR X (inplaceOp .Mult) (rI CMul fun i j => .int (i * j)) := opI fun _ _ _ _ _ _ _ hc q => imul_int q hc.ok
theorem iop_fdiv : OpR X (inplaceOp .FloorDiv) (rI CDiv fun i j => .int (i / j)) := opI fun i j _ _ _ _ _ hc q => by
  have h1 : (0 : Int) < j := hc.1
  have h2 : j < 1073741824 := hc.2
  exact ifloordiv_int (by omega) (by rw [Int.fdiv_eq_ediv_of_nonneg i (by omega)]; exact q) (.inl (PyProof.noPylong_small (by omega)))
theorem iop_mod : OpR X (inplaceOp .Mod) (rI (fun _ j => 0 < j) fun i j => .int (i % j)) := opI fun i j _ _ _ _ _ hc q => by
  have h1 : (0 : Int) < j := hc
  exact imod_int (by omega) (by rw [Int.fmod_eq_emod_of_nonneg i (by omega)]; exact q)
theorem iop_shl : OpR X (inplaceOp .LShift) (rI CPow fun i j => .int (i * 2 ^ j.toNat)) := opI fun _ _ _ _ _ _ _ hc q => ilshift_int_small hc.1 hc.2.1 hc.2.2 q
theorem iop_shr : OpR X (inplaceOp .RShift) (rI (fun _ j => 0 ≤ j) fun i j => .int (i / 2 ^ j.toNat)) := opI fun i j _ _ _ _ _ hc q =>
  irshift_int hc (by rw [Int.fdiv_eq_ediv_of_nonneg i (two_pow_nn _)]; exact q)
theorem iop_and : OpR X (inplaceOp .BitAnd) (rI0 fun i j => .int (Builtin.bitAnd i j)) := opI0 fun _ _ _ _ _ _ _ q => iand_int q
theorem iop_or : OpR X (inplaceOp .BitOr) (rI0 fun i j => .int (Builtin.bitOr i j)) := opI0 fun _ _ _ _ _ _ _ q => ior_int q
theorem iop_xor : OpR X (inplaceOp .BitXor) (rI0 fun i j => .int (Builtin.bitXor i j)) := opI0 fun _ _ _ _ _ _ _ q => ixor_int q

theorem unI {f : Value → Sem Value} {g : Int → Int}
    (rule : ∀ (i : Int) (t : Tok) (s : Shared) (Q : Value → Shared → Prop) (E : Value → Shared → Prop), Q (.int (g i) s.toks) { s with toks := s.toks + 1 } → wpAny (model X.prog X.w) X.A (f (.int i t)) Q E s) :
    UnR X f (rU fun i => .int (g i)) := by
  intro pins s σ H x v Q I rx h
  obtain ⟨i, rfl, q⟩ := h
  obtain ⟨t, rfl⟩ := rx
  exact rule i t s _ _ ⟨.int (g i), H, I.tok _, ⟨_, rfl⟩, q⟩
theorem un_neg : UnR X (unaryOp .USub) (rU fun i => .int (-i)) := unI fun _ _ _ _ _ q => neg_int q
theorem un_inv : UnR X (unaryOp .Invert) (rU fun i => .int (Builtin.bitNot i)) := unI fun _ _ _ _ _ q => invert_int q

/-! ### bools among ints: n += (a < b) -/
theorem op_add_ib : OpR X (binaryOp .Add) (fun x y H Q => ∃ i k, x = .int i ∧ y = .bl k ∧ Q (.int (i + b2i k)) H) := by
  intro pins s σ H x y v u Q I rx ry h
  obtain ⟨i, k, rfl, rfl, q⟩ := h
  obtain ⟨t, rfl⟩ := rx
  cases ry
  exact add_int_bool ⟨.int (i + b2i k), H, I.tok _, ⟨_, rfl⟩, q⟩
end

/-! ### comparisons -/
/-- the scalars that == tells apart as data does -/
def scal : V → V → Bool
  | .non, .non => true | .non, .int _ => true | .int _, .non => true | .non, .bl _ => true | .bl _, .non => true | .non, .str _ => true | .str _, .non => true
  | .int _, .int _ => true | .bl _, .bl _ => true | .str _, .str _ => true | .byt _, .byt _ => true
  | .int _, .str _ => true | .str _, .int _ => true | .bl _, .str _ => true | .str _, .bl _ => true
  | _, _ => false
def rEq : R2 := fun x y H Q => scal x y = true ∧ Q (.bl (decide (x = y))) H
def rNe : R2 := fun x y H Q => scal x y = true ∧ Q (.bl (!decide (x = y))) H

theorem dec_int {i j : Int} : decide (V.int i = V.int j) = (i == j) := by
  rw [Bool.eq_iff_iff]
  simp
theorem dec_bl {i j : Bool} : decide (V.bl i = V.bl j) = (i == j) := by
  rw [Bool.eq_iff_iff]
  simp
theorem dec_str {i j : Str} : decide (V.str i = V.str j) = (i == j) := by
  rw [Bool.eq_iff_iff]
  simp
theorem dec_byt {i j : Array UInt8} : decide (V.byt i = V.byt j) = (i.toList == j.toList) := by
  rw [Bool.eq_iff_iff]
  cases i
  cases j
  simp

section
variable {X : Cx} {a b c : Expr} {ta tb tc : TE} {pos : Pos}
theorem fin_bl {pins : List (Addr × Obj)} {σ : St} {H : Hp} {s : Shared} {Q : VK} {k k' : Bool} (I : Inv X pins σ H s) (q : Q (.bl k) H) (e : k = k') : EP X pins σ Q (.bool k') s := by
  subst e
  exact ⟨.bl k, H, I, rfl, q⟩
theorem op_eq : OpR X (compareOp .Eq) rEq := by
  intro pins s σ H x y v u Q I rx ry h
  obtain ⟨hs, q⟩ := h
  cases x with
  | non =>
    cases rx
    cases y with
    | non => cases ry; exact PySem.EqNone.eq_none_none (fin_bl I q (by simp))
    | bl j => cases ry; exact PySem.EqNone.eq_none_bool (fin_bl I q (by simp))
    | int j => obtain ⟨t', rfl⟩ := ry; exact PySem.EqNone.eq_none_int (fin_bl I q (by simp))
    | str j => obtain ⟨t', rfl⟩ := ry; exact PySem.EqNone.eq_none_str (fin_bl I q (by simp))
    | _ => exact absurd (show false = true from hs) Bool.false_ne_true
  | bl i =>
    cases rx
    cases y with
    | non => cases ry; exact PySem.EqNone.eq_bool_none (fin_bl I q (by simp))
    | bl j => cases ry; exact eq_bool (fin_bl I q dec_bl)
    | str j => obtain ⟨t', rfl⟩ := ry; exact PySem.EqMixed.eq_bool_str (fin_bl I q (by simp))
    | _ => exact absurd (show false = true from hs) Bool.false_ne_true
  | int i =>
    obtain ⟨t, rfl⟩ := rx
    cases y with
    | non => cases ry; exact PySem.EqNone.eq_int_none (fin_bl I q (by simp))
    | int j => obtain ⟨t', rfl⟩ := ry; exact eq_int (fin_bl I q dec_int)
    | str j => obtain ⟨t', rfl⟩ := ry; exact PySem.EqMixed.eq_int_str (fin_bl I q (by simp))
    | _ => exact absurd (show false = true from hs) Bool.false_ne_true
  | str i =>
    obtain ⟨t, rfl⟩ := rx
    cases y with
    | non => cases ry; exact PySem.EqNone.eq_str_none (fin_bl I q (by simp))
    | bl j => cases ry; exact PySem.EqMixed.eq_str_bool (fin_bl I q (by simp))
    | int j => obtain ⟨t', rfl⟩ := ry; exact PySem.EqMixed.eq_str_int (fin_bl I q (by simp))
    | str j => obtain ⟨t', rfl⟩ := ry; exact eq_str (fin_bl I q dec_str)
    | _ => exact absurd (show false = true from hs) Bool.false_ne_true
  | byt i =>
    obtain ⟨t, rfl⟩ := rx
    cases y with
    | byt j => obtain ⟨t', rfl⟩ := ry; exact PySem.W.eq_bytes (fin_bl I q dec_byt)
    | _ => exact absurd (show false = true from hs) Bool.false_ne_true
  | _ => cases y <;> exact absurd (show false = true from hs) Bool.false_ne_true
theorem op_ne : OpR X (compareOp .NotEq) rNe := by
  intro pins s σ H x y v u Q I rx ry h
  obtain ⟨hs, q⟩ := h
  cases x with
  | non =>
    cases rx
    cases y with
    | non => cases ry; exact PySem.EqNone.ne_none_none (fin_bl I q (by simp))
    | bl j => cases ry; exact PySem.EqNone.ne_none_bool (fin_bl I q (by simp))
    | int j => obtain ⟨t', rfl⟩ := ry; exact PySem.EqNone.ne_none_int (fin_bl I q (by simp))
    | str j => obtain ⟨t', rfl⟩ := ry; exact PySem.EqNone.ne_none_str (fin_bl I q (by simp))
    | _ => exact absurd (show false = true from hs) Bool.false_ne_true
  | bl i =>
    cases rx
    cases y with
    | non => cases ry; exact PySem.EqNone.ne_bool_none (fin_bl I q (by simp))
    | bl j => cases ry; exact ne_bool (fin_bl I q (congrArg not dec_bl))
    | str j => obtain ⟨t', rfl⟩ := ry; exact PySem.EqMixed.ne_bool_str (fin_bl I q (by simp))
    | _ => exact absurd (show false = true from hs) Bool.false_ne_true
  | int i =>
    obtain ⟨t, rfl⟩ := rx
    cases y with
    | non => cases ry; exact PySem.EqNone.ne_int_none (fin_bl I q (by simp))
    | int j => obtain ⟨t', rfl⟩ := ry; exact ne_int (fin_bl I q (congrArg not dec_int))
    | str j => obtain ⟨t', rfl⟩ := ry; exact PySem.EqMixed.ne_int_str (fin_bl I q (by simp))
    | _ => exact absurd (show false = true from hs) Bool.false_ne_true
  | str i =>
    obtain ⟨t, rfl⟩ := rx
    cases y with
    | non => cases ry; exact PySem.EqNone.ne_str_none (fin_bl I q (by simp))
    | bl j => cases ry; exact PySem.EqMixed.ne_str_bool (fin_bl I q (by simp))
    | int j => obtain ⟨t', rfl⟩ := ry; exact PySem.EqMixed.ne_str_int (fin_bl I q (by simp))
    | str j => obtain ⟨t', rfl⟩ := ry; exact ne_str (fin_bl I q (congrArg not dec_str))
    | _ => exact absurd (show false = true from hs) Bool.false_ne_true
  | byt i =>
    obtain ⟨t, rfl⟩ := rx
    cases y with
    | byt j => obtain ⟨t', rfl⟩ := ry; exact PySem.W.ne_bytes (fin_bl I q (congrArg not dec_byt))
    | _ => exact absurd (show false = true from hs) Bool.false_ne_true
  | _ => cases y <;> exact absurd (show false = true from hs) Bool.false_ne_true

theorem op_lt : OpR X (compareOp .Lt) (rI0 fun i j => .bl (decide (i < j))) := opB0 fun _ _ _ _ _ _ _ q => lt_int q
theorem op_le : OpR X (compareOp .LtE) (rI0 fun i j => .bl (decide (i ≤ j))) := opB0 fun _ _ _ _ _ _ _ q => le_int q
theorem op_gt : OpR X (compareOp .Gt) (rI0 fun i j => .bl (decide (j < i))) := opB0 fun _ _ _ _ _ _ _ q => gt_int q
theorem op_ge : OpR X (compareOp .GtE) (rI0 fun i j => .bl (decide (j ≤ i))) := opB0 fun _ _ _ _ _ _ _ q => ge_int q
theorem op_lt_str : OpR X (compareOp .Lt) (fun x y H Q => ∃ i j, x = .str i ∧ y = .str j ∧ Q (.bl (decide (i.cps.toList < j.cps.toList))) H) := by
  intro pins s σ H x y v u Q I rx ry h
  obtain ⟨i, j, rfl, rfl, q⟩ := h
  obtain ⟨t, rfl⟩ := rx
  obtain ⟨t', rfl⟩ := ry
  exact lt_str (fin_bl I q rfl)
/-- the one string within the other -/
theorem op_in_str : OpR X (compareOp .In) (fun x y H Q => ∃ i j, x = .str i ∧ y = .str j ∧ Q (.bl (!(Builtin.Str.occurrences j i 0 j.length 1).isEmpty)) H) := by
  intro pins s σ H x y v u Q I rx ry h
  obtain ⟨i, j, rfl, rfl, q⟩ := h
  obtain ⟨t, rfl⟩ := rx
  obtain ⟨t', rfl⟩ := ry
  exact in_str (fin_bl I q rfl)

/-- is None, is not None: the right side a value none -/
theorem op_isN : OpR X (compareOp .Is) (fun x y H Q => y = .non ∧ Q (.bl (decide (x = .non))) H) := by
  intro pins s σ H x y v u Q I rx ry h
  obtain ⟨rfl, q⟩ := h
  cases ry
  refine is_none_gen (fin_bl I q ?_)
  cases x <;> first
    | (cases rx; rfl)
    | (obtain ⟨t, rfl⟩ := rx; rfl)
theorem op_notN : OpR X (compareOp .IsNot) (fun x y H Q => y = .non ∧ Q (.bl (!decide (x = .non))) H) := by
  intro pins s σ H x y v u Q I rx ry h
  obtain ⟨rfl, q⟩ := h
  cases ry
  refine isnot_none_gen (fin_bl I q ?_)
  cases x <;> first
    | (cases rx; rfl)
    | (obtain ⟨t, rfl⟩ := rx; rfl)

theorem op_notin_str : OpR X (compareOp .NotIn) (fun x y H Q => ∃ i j, x = .str i ∧ y = .str j ∧ Q (.bl (!(!(Builtin.Str.occurrences j i 0 j.length 1).isEmpty))) H) := by
  intro pins s σ H x y v u Q I rx ry h
  obtain ⟨i, j, rfl, rfl, q⟩ := h
  obtain ⟨t, rfl⟩ := rx
  obtain ⟨t', rfl⟩ := ry
  exact notIn_str (fin_bl I q rfl)
/-- is, is not of two objects that are tracked lists or instances -/
def isObj : HO → Bool
  | .lst _ => true
  | .ins _ _ _ => true
  | _ => false
theorem obj_there {pins : List (Addr × Obj)} {s : Shared} {σ : St} {H : Hp} {a : Addr} {o : HO} (I : Inv X pins σ H s) (h : H a = some o) (p : isObj o = true) : ∃ ob, s.heap.get? a = some ob ∧ ob.cls ≠ .type "tuple" := by
  cases o with
  | lst xs =>
    obtain ⟨_, its, n, _, e⟩ : xs.length ≤ sizeLine ∧ ∃ (its : List Value) (n : Nat), Vals xs its ∧ s.heap.get? a = some { cls := .type "list", data := .seq its.toArray n } := I.hok a _ h
    exact ⟨_, e, (by show Value.type "list" ≠ .type "tuple"; decide +kernel)⟩
  | ins C dx fs =>
    have x := I.hok a _ h
    obtain ⟨_, _, _, e, _⟩ := x
    exact ⟨_, e, (by show Value.ref C ≠ .type "tuple"; exact fun z => by cases z)⟩
  | _ => exact absurd (show false = true from p) Bool.false_ne_true
theorem op_is_ref : OpR X (compareOp .Is) (fun x y H Q => ∃ a b oa ob, x = .ref a ∧ y = .ref b ∧ H a = some oa ∧ isObj oa = true ∧ H b = some ob ∧ isObj ob = true ∧ Q (.bl (decide (a = b))) H) := by
  intro pins s σ H x y v u Q I rx ry h
  obtain ⟨a, b, oa, ob, rfl, rfl, ha, pa, hb, pb, q⟩ := h
  cases rx
  cases ry
  obtain ⟨o1, e1, n1⟩ := obj_there I ha pa
  obtain ⟨o2, e2, _⟩ := obj_there I hb pb
  by_cases z : a = b
  · subst z
    exact wpAny_is_ref_self (fin_bl I q (by simp))
  · exact wpAny_is_ref_other z e1 e2 n1 (fin_bl I q (by simp [z]))
theorem op_isnot_ref : OpR X (compareOp .IsNot) (fun x y H Q => ∃ a b oa ob, x = .ref a ∧ y = .ref b ∧ H a = some oa ∧ isObj oa = true ∧ H b = some ob ∧ isObj ob = true ∧ Q (.bl (!decide (a = b))) H) := by
  intro pins s σ H x y v u Q I rx ry h
  obtain ⟨a, b, oa, ob, rfl, rfl, ha, pa, hb, pb, q⟩ := h
  cases rx
  cases ry
  obtain ⟨o1, e1, n1⟩ := obj_there I ha pa
  obtain ⟨o2, e2, _⟩ := obj_there I hb pb
  by_cases z : a = b
  · subst z
    exact wpAny_isNot_ref_self (fin_bl I q (by simp))
  · exact wpAny_isNot_ref_other z e1 e2 n1 (fin_bl I q (by simp [z]))

/-- two rules for one operation: by cases -/
theorem OpR.or {f : Value → Value → Sem Value} {r r' : R2} (h : OpR X f r) (h' : OpR X f r') : OpR X f (fun x y H Q => r x y H Q ∨ r' x y H Q) := by
  intro pins s σ H x y v u Q I rx ry q
  rcases q with q | q
  · exact h pins s σ H x y v u Q I rx ry q
  · exact h' pins s σ H x y v u Q I rx ry q

theorem nomark (b : Expr) {op : CmpOp} (h : op ≠ .In := by decide) (h2 : op ≠ .NotIn := by decide) : behindInMarks op b = false := by
  have e1 : (op == CmpOp.In) = false := by cases op <;> first | rfl | exact absurd rfl h
  have e2 : (op == CmpOp.NotIn) = false := by cases op <;> first | rfl | exact absurd rfl h2
  cases b <;> simp [behindInMarks, e1, e2]
/-- a comparison as a value; hm: nomark b, or (for in, not in) by with_unfolding_all rfl -/
theorem pe_cmpR {op : CmpOp} {r : R2} (ho : OpR X (compareOp op) r) (ha : PE X a ta) (hb : PE X b tb) (hm : behindInMarks op b = false) : PE X (.Compare a [op] [b] pos) (tOp r ta tb) := by
  intro pins s σ H Q I h
  exact wpAny_Compare1 (binT ha hb I h fun v u s2 x y H2 I2 rx ry q => ho pins s2 σ H2 x y v u Q I2 rx ry q) hm
/-- a reading of a value as a test -/
def tTest (t : TE) : TT := fun σ H Q => t σ H fun x H' => ∃ k, x = .bl k ∧ Q k H'
theorem pt_cmpR {op : CmpOp} {r : R2} (ho : OpR X (compareOp op) r) (ha : PE X a ta) (hb : PE X b tb) (hm : behindInMarks op b = false) : PT X (.Compare a [op] [b] pos) (tTest (tOp r ta tb)) := by
  intro pins s σ H Q I h
  refine wpAny_isTrue_Compare1 (thn (ha pins s σ H _ I h) fun v s1 ⟨x, H1, I1, r1, q1⟩ => thn (hb pins s1 σ H1 _ I1 q1) fun u s2 ⟨y, H2, I2, r2, q2⟩ =>
    thn (ho pins s2 σ H2 x y v u _ I2 r1 r2 q2) fun c s3 ⟨z, H3, I3, r3, k, e, q3⟩ => ?_) hm
  subst e
  cases r3
  exact wpAny_truthy_bool ⟨H3, I3, q3⟩
/-- a op1 b op2 c -/
def tChain (r r' : R2) (ta tb tc : TE) : TE := fun σ H Q => ta σ H fun x H1 => tb σ H1 fun y H2 => r x y H2 fun z H3 => ∃ k, z = .bl k ∧
  (if k = true then tc σ H3 fun w' H4 => r' y w' H4 Q else Q (.bl false) H3)
theorem pe_chain {op op' : CmpOp} {r r' : R2} (ho : OpR X (compareOp op) r) (ho' : OpR X (compareOp op') r') (ha : PE X a ta) (hb : PE X b tb) (hc : PE X c tc)
    (hm : lastMarks [op, op'] [b, c] = false := by with_unfolding_all rfl) : PE X (.Compare a [op, op'] [b, c] pos) (tChain r r' ta tb tc) := by
  intro pins s σ H Q I h
  refine Compare_chain (thn (ha pins s σ H _ I h) fun v s1 ⟨x, H1, I1, r1, q1⟩ => chain_link (thn (hb pins s1 σ H1 _ I1 q1) fun u s2 ⟨y, H2, I2, r2, q2⟩ =>
    thn (ho pins s2 σ H2 x y v u _ I2 r1 r2 q2) fun d s3 ⟨z, H3, I3, r3, k, e, q3⟩ => ?_)) hm
  subst e
  cases r3
  refine wpAny_truthy_bool ?_
  cases k with
  | false => exact ite_ff ⟨.bl false, H3, I3, rfl, q3⟩
  | true => exact ite_tt (chain_last (thn (hc pins s3 σ H3 _ I3 q3) fun w' s4 ⟨z', H4, I4, r4, q4⟩ => ho' pins s4 σ H4 y z' u w' Q I4 r2 r4 q4))
theorem pt_chain {op op' : CmpOp} {r r' : R2} (ho : OpR X (compareOp op) r) (ho' : OpR X (compareOp op') r') (ha : PE X a ta) (hb : PE X b tb) (hc : PE X c tc)
    (hm : lastMarks [op, op'] [b, c] = false := by with_unfolding_all rfl) : PT X (.Compare a [op, op'] [b, c] pos) (tTest (tChain r r' ta tb tc)) := by
  intro pins s σ H Q I h
  refine isTrue_chain (thn (ha pins s σ H _ I h) fun v s1 ⟨x, H1, I1, r1, q1⟩ => test_link (thn (hb pins s1 σ H1 _ I1 q1) fun u s2 ⟨y, H2, I2, r2, q2⟩ =>
    thn (ho pins s2 σ H2 x y v u _ I2 r1 r2 q2) fun d s3 ⟨z, H3, I3, r3, k, e, q3⟩ => ?_)) hm
  subst e
  cases r3
  refine wpAny_truthy_bool ?_
  cases k with
  | false =>
    obtain ⟨k', e', q'⟩ := q3
    cases e'
    exact ite_ff ⟨H3, I3, q'⟩
  | true =>
    refine ite_tt (test_last (thn (hc pins s3 σ H3 _ I3 q3) fun w' s4 ⟨z', H4, I4, r4, q4⟩ => thn (ho' pins s4 σ H4 y z' u w' _ I4 r2 r4 q4) fun d' s5 ⟨z2, H5, I5, r5, k2, e2, q5⟩ => ?_))
    subst e2
    cases r5
    exact wpAny_truthy_bool ⟨H5, I5, q5⟩

/-! ### truth -/
/-- a value's truth by the abstract heap -/
def TruV (K : PySem.W.Frag) (x : V) (H : Hp) (k : Bool) : Prop :=
  match x with
  | .non => k = false
  | .bl b => k = b
  | .int i => k = (i != 0)
  | .str y => y.length ≤ sizeLine ∧ k = ((y.length : Int) != 0)
  | .byt y => y.size ≤ sizeLine ∧ k = ((y.size : Int) != 0)
  | .ref p => (∃ xs, SqL K H p xs ∧ k = !xs.isEmpty) ∨ (∃ xs, SqT K H p xs ∧ k = !xs.isEmpty) ∨ ∃ kvs, H p = some (.dK kvs) ∧ k = !kvs.isEmpty
  | _ => False
theorem isEmpty_kv {κ : Type} {kvs : List (κ × V)} {vs : List (κ × Value)} (r : KV kvs vs) : (!vs.isEmpty) = !kvs.isEmpty := by
  cases r <;> rfl
theorem isEmpty_of {xs : List V} {its : List Value} (r : Vals xs its) : (!its.toArray.isEmpty) = !xs.isEmpty := by
  cases r <;> simp
theorem line63 : (sizeLine : Nat) < 2 ^ 63 := by rw [sizeLine_eq]; decide
theorem tru_ok : TruR X (fun x H Q => ∃ k, TruV X.K x H k ∧ Q k H) := by
  intro pins s σ H x v Q I rx h
  obtain ⟨k, e, q⟩ := h
  have hl := line63
  have hs : sizeLine = 16777216 := sizeLine_eq
  cases x with
  | non =>
    cases rx
    have e' : k = false := e
    subst e'
    exact truthy_none ⟨H, I, q⟩
  | bl b =>
    cases rx
    have e' : k = b := e
    subst e'
    exact wpAny_truthy_bool ⟨H, I, q⟩
  | int i =>
    obtain ⟨t, rfl⟩ := rx
    have e' : k = (i != 0) := e
    subst e'
    exact PySem.P.truthy_int ⟨H, I, q⟩
  | str y =>
    obtain ⟨t, rfl⟩ := rx
    obtain ⟨hy, e'⟩ : y.length ≤ sizeLine ∧ k = ((y.length : Int) != 0) := e
    subst e'
    exact PySem.P.truthy_str (by omega) ⟨H, I.tok _, q⟩
  | byt y =>
    obtain ⟨t, rfl⟩ := rx
    obtain ⟨hy, e'⟩ : y.size ≤ sizeLine ∧ k = ((y.size : Int) != 0) := e
    subst e'
    exact PySem.W.truthy_bytes (by omega) ⟨H, I.tok _, q⟩
  | ref p =>
    cases rx
    have e' : (∃ xs, SqL X.K H p xs ∧ k = !xs.isEmpty) ∨ (∃ xs, SqT X.K H p xs ∧ k = !xs.isEmpty) ∨ ∃ kvs, H p = some (.dK kvs) ∧ k = !kvs.isEmpty := e
    rcases e' with ⟨xs, hx, e'⟩ | ⟨xs, hx, e'⟩ | ⟨kvs, hx, e'⟩
    · subst e'
      obtain ⟨its, r, pl, hz⟩ := I.list hx
      have hlen := r.length
      exact wpAny_truthy_list pl.isList (by simp only [List.size_toArray]; omega) ⟨H, I.tok _, by rw [isEmpty_of r]; exact q⟩
    · subst e'
      obtain ⟨its, r, pl, hz⟩ := I.tuple hx
      have hlen := r.length
      exact truthy_tuple pl (by simp only [List.size_toArray]; omega) ⟨H, I.tok _, by rw [isEmpty_of r]; exact q⟩
    · subst e'
      obtain ⟨hz, hS, vs, r, m⟩ : kvs.length ≤ sizeLine ∧ (p == sysModules) = false ∧ ∃ vs, KV kvs vs ∧ s.heap.DictOf (mixKind X.prog X.w) p vs := I.hok p _ hx
      have hlen : kvs.length = vs.length := Paired.length r
      exact wpAny_truthy_dict hS m (by omega) ⟨H, I.tok _, by rw [isEmpty_kv r]; exact q⟩
  | _ => exact (show False from e).elim
/-- any expression whose test is its value's truth (a name, a call, a subscript, a field ..: he by fun _ => rfl) -/
theorem pt_truth (ha : PE X a ta) (he : ∀ whole, isTrue a X.env whole = (do let v ← whole; standAt a.pos; holding [v] (truthy v))) :
    PT X a (fun σ H Q => ta σ H fun x H' => ∃ k, TruV X.K x H' k ∧ Q k H') := by
  intro pins s σ H Q I h
  exact isTrue_plain (thn (ha pins s σ H _ I h) fun v s1 ⟨x, H1, I1, r1, q1⟩ => tru_ok pins s1 σ H1 x v Q I1 r1 q1) (he _)

/-! ### strs and bytes -/
theorem pe_byt {x : List UInt8} {k : Nat} : PE X (.Constant (.bytes x) k pos) (fun _ H Q => Q (.byt x.toArray) H) := fun _ _ _ H _ I h => PySem.W.Constant_bytes ⟨.byt x.toArray, H, I.tok _, ⟨_, rfl⟩, h⟩
theorem op_add_str : OpR X (binaryOp .Add) (fun x y H Q => ∃ i j, x = .str i ∧ y = .str j ∧ i.length + j.length ≤ sizeLine ∧ Q (.str (i ++ j)) H) := by
  intro pins s σ H x y v u Q I rx ry h
  obtain ⟨i, j, rfl, rfl, hz, q⟩ := h
  obtain ⟨t, rfl⟩ := rx
  obtain ⟨t', rfl⟩ := ry
  exact add_str (fun t' tk => ⟨.str (i ++ j), H, I.tok _, ⟨_, rfl⟩, q⟩) hz
theorem iop_add_str : OpR X (inplaceOp .Add) (fun x y H Q => ∃ i j, x = .str i ∧ y = .str j ∧ i.length + j.length ≤ sizeLine ∧ Q (.str (i ++ j)) H) := by
  intro pins s σ H x y v u Q I rx ry h
  obtain ⟨i, j, rfl, rfl, hz, q⟩ := h
  obtain ⟨t, rfl⟩ := rx
  obtain ⟨t', rfl⟩ := ry
  exact iadd_str (fun t' tk => ⟨.str (i ++ j), H, I.tok _, ⟨_, rfl⟩, q⟩) hz
theorem op_add_byt : OpR X (binaryOp .Add) (fun x y H Q => ∃ i j, x = .byt i ∧ y = .byt j ∧ i.size + j.size ≤ 16777216 ∧ Q (.byt (i ++ j)) H) := by
  intro pins s σ H x y v u Q I rx ry h
  obtain ⟨i, j, rfl, rfl, hz, q⟩ := h
  obtain ⟨t, rfl⟩ := rx
  obtain ⟨t', rfl⟩ := ry
  exact PySem.W.KBy.add_bytes hz (fun t' tk => ⟨.byt (i ++ j), H, I.tok _, ⟨_, rfl⟩, q⟩)

def PlainIxT (b : Expr) : Prop := ∀ o i, subscripted b false o i = operate [o, i] (getItem o i)
/-- s[i], 0 ≤ i < len -/
theorem pe_item_str (ha : PE X a ta) (hb : PE X b tb) (hs : PlainIxT b) :
    PE X (.Subscript a b pos) (tOp (fun x y H Q => ∃ z i c, x = .str z ∧ y = .int i ∧ 0 ≤ i ∧ i < 2 ^ 63 ∧ i < z.length ∧ z.cps[i.toNat]? = some c ∧ Q (.str ⟨#[c]⟩) H) ta tb) := by
  intro pins s σ H Q I h
  refine Subscript_ (binT ha hb I h fun v u s2 x y H2 I2 rx ry q => ?_)
  obtain ⟨z, i, c, rfl, rfl, h0, h63, h1, hc, q⟩ := q
  obtain ⟨t, rfl⟩ := rx
  obtain ⟨t', rfl⟩ := ry
  have e : seqIndex? i z.length = some i.toNat := PySem.StrLaws.seqIndex_nonneg h0 h1
  exact tail_any (typeIs_str s2 z t) slot_str_getitem.lookup (getItem_str (c := c) (by
    have e1 : decide (i < -(2 ^ 63 : Int)) = false := decide_eq_false (by omega)
    have e2 : decide (i ≥ 2 ^ 63) = false := decide_eq_false (by omega)
    rw [e1, e2] <;> rfl) (by rw [e]; exact hc) ⟨.str ⟨#[c]⟩, H2, I2.tok _, ⟨_, rfl⟩, q⟩) (hs _ _)
/-- b[i], 0 ≤ i < len -/
theorem pe_item_byt (ha : PE X a ta) (hb : PE X b tb) (hs : PlainIxT b) :
    PE X (.Subscript a b pos) (tOp (fun x y H Q => ∃ (z : List UInt8) (i : Int), x = .byt z.toArray ∧ y = .int i ∧ z.length ≤ sizeLine ∧ 0 ≤ i ∧ i < z.length ∧ Q (.int ((z.getD i.toNat 0).toNat : Nat)) H) ta tb) := by
  intro pins s σ H Q I h
  refine Subscript_ (binT ha hb I h fun v u s2 x y H2 I2 rx ry q => ?_)
  obtain ⟨z, i, rfl, rfl, hz, h0, h1, q⟩ := q
  obtain ⟨t, rfl⟩ := rx
  obtain ⟨t', rfl⟩ := ry
  have hl : sizeLine = 16777216 := sizeLine_eq
  exact tail_any (PySem.W.typeIs_bytes s2 z.toArray t) PySem.W.FB.slot_bytes_getitem.lookup (PySem.W.getItem_bytes (by omega) h0 h1 ⟨.int ((z.getD i.toNat 0).toNat : Nat), H2, I2.tok _, ⟨_, rfl⟩, q⟩) (hs _ _)

/-! ### scalar builtins, by CallR -/
theorem vals1 {x : V} {us : List Value} (r : Vals [x] us) : ∃ u, us = [u] ∧ RelV x u := by
  cases r with
  | cons r1 r2 => cases r2; exact ⟨_, rfl, r1⟩
theorem vals2 {x y : V} {us : List Value} (r : Vals [x, y] us) : ∃ u w', us = [u, w'] ∧ RelV x u ∧ RelV y w' := by
  cases r with
  | cons r1 r2 =>
    cases r2 with
    | cons r3 r4 => cases r4; exact ⟨_, _, rfl, r1, r3⟩
theorem call_abs : CallR X (.builtin "abs") (fun xs H Q => ∃ i, xs = [.int i] ∧ Q (.int (if i < 0 then -i else i)) H) := by
  intro pins s σ H xs us Q I r h
  obtain ⟨i, rfl, q⟩ := h
  obtain ⟨u, rfl, t, rfl⟩ := vals1 r
  exact call_abs_int fun u tk => ⟨.int (if i < 0 then -i else i), H, I.tok _, ⟨_, rfl⟩, q⟩
theorem call_max2 (hc : X.calm = true) : CallR X (.builtin "max") (fun xs H Q => ∃ i j, xs = [.int i, .int j] ∧ Q (.int (if j > i then j else i)) H) := by
  intro pins s σ H xs us Q I r h
  obtain ⟨i, j, rfl, q⟩ := h
  obtain ⟨u, w', rfl, ⟨t, rfl⟩, ⟨t', rfl⟩⟩ := vals2 r
  refine max_two_ints (I.ok.hd hc) fun h' tk k => ⟨_, H, I.kept k, ?_, q⟩
  by_cases hj : j > i
  · rw [if_pos hj, if_pos hj]; exact ⟨_, rfl⟩
  · rw [if_neg hj, if_neg hj]; exact ⟨_, rfl⟩
theorem call_min2 (hc : X.calm = true) : CallR X (.builtin "min") (fun xs H Q => ∃ i j, xs = [.int i, .int j] ∧ Q (.int (if j < i then j else i)) H) := by
  intro pins s σ H xs us Q I r h
  obtain ⟨i, j, rfl, q⟩ := h
  obtain ⟨u, w', rfl, ⟨t, rfl⟩, ⟨t', rfl⟩⟩ := vals2 r
  refine min_two_ints (I.ok.hd hc) fun h' tk k => ⟨_, H, I.kept k, ?_, q⟩
  by_cases hj : j < i
  · rw [if_pos hj, if_pos hj]; exact ⟨_, rfl⟩
  · rw [if_neg hj, if_neg hj]; exact ⟨_, rfl⟩
theorem call_int1 : CallR X (.type "int") (fun xs H Q => (∃ i, xs = [.int i] ∧ Q (.int i) H) ∨ ∃ k, xs = [.bl k] ∧ Q (.int (if k then 1 else 0)) H) := by
  intro pins s σ H xs us Q I r h
  rcases h with ⟨i, rfl, q⟩ | ⟨k, rfl, q⟩
  · obtain ⟨u, rfl, t, rfl⟩ := vals1 r
    exact call_int_int ⟨.int i, H, I, ⟨_, rfl⟩, q⟩
  · obtain ⟨u, rfl, r1⟩ := vals1 r
    cases r1
    exact call_int_bool ⟨.int (if k then 1 else 0), H, I.tok _, ⟨_, rfl⟩, q⟩
theorem call_bool1 : CallR X (.type "bool") (fun xs H Q => (∃ i, xs = [.int i] ∧ Q (.bl (i != 0)) H) ∨ ∃ k, xs = [.bl k] ∧ Q (.bl k) H) := by
  intro pins s σ H xs us Q I r h
  rcases h with ⟨i, rfl, q⟩ | ⟨k, rfl, q⟩
  · obtain ⟨u, rfl, t, rfl⟩ := vals1 r
    exact call_bool_int ⟨.bl (i != 0), H, I, rfl, q⟩
  · obtain ⟨u, rfl, r1⟩ := vals1 r
    cases r1
    exact call_bool_bool ⟨.bl k, H, I, rfl, q⟩
theorem call_str_int : CallR X (.type "str") (fun xs H Q => ∃ i, xs = [.int i] ∧ i.natAbs.log2 < 1920 ∧ Q (.str (toString i)) H) := by
  intro pins s σ H xs us Q I r h
  obtain ⟨i, rfl, hz, q⟩ := h
  obtain ⟨u, rfl, t, rfl⟩ := vals1 r
  exact PySem.P.str_of_int hz ⟨.str _, H, I.tok _, ⟨_, rfl⟩, q⟩
theorem call_ord : CallR X (.builtin "ord") (fun xs H Q => ∃ x, xs = [.str x] ∧ x.length = 1 ∧ Q (.int (x.cps.getD 0 0 : Nat)) H) := by
  intro pins s σ H xs us Q I r h
  obtain ⟨x, rfl, hz, q⟩ := h
  obtain ⟨u, rfl, t, rfl⟩ := vals1 r
  exact ord_of_one hz ⟨.int _, H, I.tok _, ⟨_, rfl⟩, q⟩
theorem call_chr : CallR X (.builtin "chr") (fun xs H Q => ∃ i, xs = [.int i] ∧ 0 ≤ i ∧ i ≤ 1114111 ∧ Q (.str ⟨#[i.toNat]⟩) H) := by
  intro pins s σ H xs us Q I r h
  obtain ⟨i, rfl, h0, h1, q⟩ := h
  obtain ⟨u, rfl, t, rfl⟩ := vals1 r
  exact chr_of_range h0 h1 ⟨.str _, H, I.tok _, ⟨_, rfl⟩, q⟩
/-- len of a str, a bytes, a list, a tuple -/
def LenV (K : PySem.W.Frag) (x : V) (H : Hp) (n : Nat) : Prop :=
  match x with
  | .str y => y.length ≤ sizeLine ∧ n = y.length
  | .byt y => y.size ≤ sizeLine ∧ n = y.size
  | .ref p => (∃ xs, SqL K H p xs ∧ n = xs.length) ∨ ∃ xs, SqT K H p xs ∧ n = xs.length
  | _ => False
theorem call_len : CallR X (.builtin "len") (fun xs H Q => ∃ x n, xs = [x] ∧ LenV X.K x H n ∧ Q (.int n) H) := by
  intro pins s σ H xs us Q I r h
  obtain ⟨x, n, rfl, e, q⟩ := h
  obtain ⟨u, rfl, rx⟩ := vals1 r
  have hl := line63
  have hs : sizeLine = 16777216 := sizeLine_eq
  cases x with
  | str y =>
    obtain ⟨t, rfl⟩ := rx
    obtain ⟨hy, e'⟩ : y.length ≤ sizeLine ∧ n = y.length := e
    subst e'
    exact len_str (by omega) ⟨.int _, H, I.tok _, ⟨_, rfl⟩, q⟩
  | byt y =>
    obtain ⟨t, rfl⟩ := rx
    obtain ⟨hy, e'⟩ : y.size ≤ sizeLine ∧ n = y.size := e
    subst e'
    exact PySem.W.len_bytes (by omega) ⟨.int _, H, I.tok _, ⟨_, rfl⟩, q⟩
  | ref p =>
    cases rx
    have e' : (∃ xs, SqL X.K H p xs ∧ n = xs.length) ∨ ∃ xs, SqT X.K H p xs ∧ n = xs.length := e
    rcases e' with ⟨xs, hx, e'⟩ | ⟨xs, hx, e'⟩
    · subst e'
      obtain ⟨its, r', pl, hz⟩ := I.list hx
      have hlen := r'.length
      exact Calls.call_len_list pl.isList (by simp only [List.size_toArray]; omega) ⟨.int xs.length, H, I.tok _, ⟨_, by simp only [List.size_toArray]; rw [hlen]⟩, q⟩
    · subst e'
      obtain ⟨its, r', pl, hz⟩ := I.tuple hx
      have hlen := r'.length
      exact len_tuple pl (by simp only [List.size_toArray]; omega) ⟨.int xs.length, H, I.tok _, ⟨_, by simp only [List.size_toArray]; rw [hlen]⟩, q⟩
  | _ => exact (show False from e).elim
/-- divmod: a new tuple -/
theorem call_divmod : CallR X (.builtin "divmod") (fun xs H Q => ∃ i j, xs = [.int i, .int j] ∧ CDiv i j ∧ ∀ p, H p = none → Q (.ref p) (upd H p (.tup [.int (i / j), .int (i % j)]))) := by
  intro pins s σ H xs us Q I r h
  obtain ⟨i, j, rfl, ⟨h1, h2⟩, q⟩ := h
  obtain ⟨u, w', rfl, ⟨t, rfl⟩, ⟨t', rfl⟩⟩ := vals2 r
  refine divmod_int (by omega) ?_ (.inl (PyProof.noPylong_small (by omega)))
  rw [Int.fdiv_eq_ediv_of_nonneg i (by omega), Int.fmod_eq_emod_of_nonneg i (by omega)]
  have hn : H s.heap.objs.size = none := I.hok.fresh (Nat.le_refl _)
  refine ⟨.ref s.heap.objs.size, _, ?_, rfl, q _ hn⟩
  refine I.laid (fun b o e => Heap.get?_push_of_some _ e) (Nat.le_refl _) ⟨by simp only [List.length_cons, List.length_nil]; rw [sizeLine_eq]; decide, [.int (i / j) s.toks, .int (i % j) (s.toks + 1)], .cons ⟨_, rfl⟩ (.cons ⟨_, rfl⟩ .nil), ?_⟩
  exact ⟨_, Heap.get?_push_size s.heap rfl, rfl, 0, rfl⟩
end
end L2

namespace L2
open PySem PySem.Spec PyProof.Rows

/-! ### an instance, its attributes a map -/
structure ObjM (h : Heap) (x dx C : Addr) (mA : Str → Option Value) : Prop where
  obj : h.get? x = some (PySem.W.instObj C dx)
  ns : h.Ns1 dx mA
  ne : dx ≠ x

theorem lookIn_ns {h : Heap} {dx : Addr} {mA : Str → Option Value} (n : h.Ns1 dx mA) : ∃ od, h.get? dx = some od ∧ ∀ name, PySem.W.lookIn name od = some (mA name) := by
  obtain ⟨o, es, ep, ho, hd, hk, _, hm⟩ := n
  refine ⟨o, ho, fun name => ?_⟩
  have e := hm name
  unfold nsFind findBy at e
  rw [← Array.find?_toList] at e
  unfold PySem.W.lookIn
  rw [hd]
  dsimp only
  split
  · rename_i y q
    rw [q] at e
    exact congrArg some e
  · rename_i q
    rw [q] at e
    have a : es.toList.any (·.refKey) = false := by
      rw [List.any_eq_false]
      intro y hy
      obtain ⟨z, t, hkey⟩ := hk y (Array.mem_toList_iff.mp hy)
      simp [DictEntry.refKey, hkey]
    have a' : ¬ es.toList.any (·.refKey) = true := by rw [a]; exact Bool.false_ne_true
    rw [if_neg a']
    exact congrArg some e

theorem ObjM.look {h : Heap} {x dx C : Addr} {mA : Str → Option Value} (I : ObjM h x dx C mA) : ∃ od, PySem.W.InstAt h x (PySem.W.instObj C dx) C (some od) ∧ ∀ name, PySem.W.lookIn name od = some (mA name) :=
  let ⟨od, ho, hl⟩ := lookIn_ns I.ns
  ⟨od, ⟨I.obj, rfl, rfl, ho⟩, hl⟩

section
variable {prog : Program} {w : World} {A : Around} {E : Value → Shared → Prop} {s : Shared} {K : PySem.W.Frag} {x dx C f : Addr} {mA : Str → Option Value} {name : Str} {v : Value}

theorem get_map {expr : Bool} {Q : Value → Shared → Prop} (X : K.In s.heap) (I : ObjM s.heap x dx C mA) (hg : PySem.W.plainGet K C name = true) (hh : PySem.W.hasDictIn K C = true)
    (ha : PySem.W.findIn K (.ref C) name = some none) (hv : mA name = some v) (hv' : PySem.W.handedIn v = true) (h : Q v { s with toks := s.toks + 1 }) :
    wpAny (model prog w) A (getAttr (.ref x) name expr) Q E s := by
  obtain ⟨od, J, hl⟩ := I.look
  exact PySem.W.get_value X J (PySem.W.plainGet_of hg).1 (PySem.W.findObj_own hh ha rfl (by rw [hl, hv])) hv' h

theorem get_const {expr : Bool} {a : Value} {Q : Value → Shared → Prop} (X : K.In s.heap) (I : ObjM s.heap x dx C mA) (hg : PySem.W.plainGet K C name = true) (hh : PySem.W.hasDictIn K C = true)
    (ha : PySem.W.findIn K (.ref C) name = some (some a)) (hn : PySem.W.specialIn K a "__get__" = some none) (hc : PySem.W.copiedNames.contains name = false) (hv : mA name = none) (hv' : PySem.W.handedIn a = true)
    (h : Q a { s with toks := s.toks + 1 }) : wpAny (model prog w) A (getAttr (.ref x) name expr) Q E s := by
  obtain ⟨od, J, hl⟩ := I.look
  exact PySem.W.get_value X J (PySem.W.plainGet_of hg).1 (PySem.W.findObj_cls hh ha hn hv' hc (by rw [hl, hv])) hv' h

theorem get_meth {pl : Sem Bool} {Q : Value × List Value → Shared → Prop} (X : K.In s.heap) (I : ObjM s.heap x dx C mA) (hg : PySem.W.plainGet K C name = true)
    (hf : PySem.W.findIn K (.ref C) name = some (some (.ref f))) (ht : PySem.W.isFn K (.ref f) = true) (hv : mA name = none) (h : Q (.ref f, [.ref x]) s) :
    wpAny (model prog w) A (getMethod (.ref x) name pl) Q E s := by
  obtain ⟨od, J, hl⟩ := I.look
  exact PySem.W.method_fn X J (PySem.W.plainGet_of hg).1 (PySem.W.plainGet_of hg).2 hf (beq_iff_eq.mp ht) (by show (PySem.W.lookIn name od).map (·.isSome) = some false; rw [hl, hv]; rfl) h

theorem set_map {ns : List Str} {Q : Unit → Shared → Prop} (X : K.In s.heap) (I : ObjM s.heap x dx C mA)
    (hs : PySem.W.findIn K (.ref C) "__setattr__" = some (some (.builtin "object.__setattr__"))) (hp : PySem.W.plainOver K C = true) (ht : PySem.W.takerIn K C name = some none) (hh : PySem.W.hasDictIn K C = true)
    (hw : PySem.Within mA ns) (hsz : ns.length ≤ sizeLine)
    (h : ∀ h', ObjM h' x dx C (fun y => if y = name then some v else mA y) → Heap.SameBut dx s.heap h' → Q () { s with heap := h', toks := s.toks + 2 }) :
    wpAny (model prog w) A (setAttr (.ref x) name v) Q E s := by
  obtain ⟨od, J, hl⟩ := I.look
  refine PySem.W.set_plain X J hs (PySem.W.osa_open (s := { s with toks := s.toks + 1 }) (r := none) X J hp ht fun b => ?_)
  obtain ⟨cd, hc, hd'⟩ := PySem.W.any_some hh
  have hx : s.heap.get? x = some ⟨.ref C, some dx, .plain, #[]⟩ := I.obj
  refine wpAny_bind (wpAny_pure (wpAny_bind (wpAny_bind (wpAny_loadPart hx (wpAny_bind (PySem.W.Looks.here (s := { s with toks := s.toks + 1 }) (PySem.W.looks_clsIn X hc) ?_))))))
  rw [hd']
  refine wpAny_pure (a := some dx) (wpAny_bind (wpAny_pure (wpAny_bind ?_)))
  refine wpAny_nsSet1 (s := { s with toks := s.toks + 1 }) I.ns fun h' hn2 hs2 => ?_
  obtain ⟨oD, esD, epD, hoD, hdD, hcD⟩ := hn2.count (PySem.Within.cons name v hw)
  refine wpAny_bind (wpAny_lookBehind hoD (by rw [hdD]; exact pastItsLine_dict (Nat.le_trans hcD (by rw [List.length_cons]; omega))) ?_)
  exact wpAny_pure (h _ ⟨(hs2.2 _ (Ne.symm I.ne)).trans I.obj, hn2, I.ne⟩ hs2)

/-- C(..): the dict at the heap's end, the instance behind it; then its __init__ -/
theorem make_map {R : Result → Shared → Prop} {vs : List Value} {kw : List (Str × Value)} (X : K.In s.heap) (hm : PySem.W.makesIn K C = true)
    (hi : PySem.W.findIn K (.ref C) "__init__" = some (some (.ref f))) (hf : PySem.W.typeIn K (.ref f) = some (.type "function"))
    (h : codeAny (model prog w) (A.under (.builtin "type.__call__" ⟨.ref C :: vs, kw⟩)) (.call (.ref f) ⟨.ref (s.heap.objs.size + 1) :: vs, kw⟩) (PySem.W.InitBack (s.heap.objs.size + 1) R)
      { s with heap := (s.heap.push PySem.W.emptyDict).push (PySem.W.instObj C s.heap.objs.size) }) :
    codeAny (model prog w) A (.call (.ref C) ⟨vs, kw⟩) R s := by
  obtain ⟨hh, g, d, t, os⟩ := s
  exact PySem.W.make_core (PySem.W.makes_of X hm) (PySem.W.looks_findIn X hi) (fun self => PySem.W.bind_fn X self hf) (.inl rfl) h
/-- C() where there is no __init__ but object's -/
theorem make_map0 {R : Result → Shared → Prop} (X : K.In s.heap) (hm : PySem.W.makesIn K C = true)
    (hi : PySem.W.findIn K (.ref C) "__init__" = some (some (.builtin "object.__init__")))
    (hb : ∀ self, PySem.W.Looks (model prog w) s.heap (bindSpecial (.builtin "object.__init__") self) (.builtin "object.__init__", [self]))
    (h : codeAny (model prog w) (A.under (.builtin "type.__call__" ⟨[.ref C], []⟩)) (.call (.builtin "object.__init__") ⟨[.ref (s.heap.objs.size + 1)], []⟩) (PySem.W.InitBack (s.heap.objs.size + 1) R)
      { s with heap := (s.heap.push PySem.W.emptyDict).push (PySem.W.instObj C s.heap.objs.size) }) :
    codeAny (model prog w) A (.call (.ref C) ⟨[], []⟩) R s := by
  obtain ⟨hh, g, d, t, os⟩ := s
  exact PySem.W.make_core (PySem.W.makes_of X hm) (PySem.W.looks_findIn X hi) hb (.inr ⟨rfl, rfl⟩) h
end

/-! ### the attributes as a list of pairs -/
def putF (f : Str) (v : V) : List (Str × V) → List (Str × V)
  | [] => [(f, v)]
  | (g, x) :: r => if g = f then (g, v) :: r else (g, x) :: putF f v r
theorem lookup_putF (f g : Str) (v : V) : ∀ fs : List (Str × V), (putF f v fs).lookup g = if g = f then some v else fs.lookup g
  | [] => by
    show List.lookup g [(f, v)] = _
    by_cases h : g = f
    · have hb : (g == f) = true := beq_iff_eq.mpr h
      simp only [List.lookup, hb, if_pos h]
    · have hb : (g == f) = false := beq_eq_false_iff_ne.mpr h
      simp only [List.lookup, hb, if_neg h]
  | (k, x) :: r => by
    have ih := lookup_putF f g v r
    rw [show putF f v ((k, x) :: r) = (if k = f then (k, v) :: r else (k, x) :: putF f v r) from rfl]
    by_cases hk : k = f
    · rw [if_pos hk]
      by_cases h : g = k
      · have hb : (g == k) = true := beq_iff_eq.mpr h
        simp only [List.lookup, hb, if_pos (h.trans hk)]
      · have hb : (g == k) = false := beq_eq_false_iff_ne.mpr h
        simp only [List.lookup, hb, if_neg (fun e : g = f => h (e.trans hk.symm))]
    · rw [if_neg hk]
      by_cases h : g = k
      · have hb : (g == k) = true := beq_iff_eq.mpr h
        simp only [List.lookup, hb, if_neg (fun e : g = f => hk (h.symm.trans e))]
      · have hb : (g == k) = false := beq_eq_false_iff_ne.mpr h
        simp only [List.lookup, hb]
        exact ih
theorem keys_putF (f : Str) (v : V) : ∀ fs : List (Str × V), f ∈ (putF f v fs).map (·.1) ∧ ∀ g, g ∈ fs.map (·.1) → g ∈ (putF f v fs).map (·.1)
  | [] => ⟨by simp [putF], fun g h => by simp at h⟩
  | (k, x) :: r => by
    obtain ⟨i1, i2⟩ := keys_putF f v r
    rw [show putF f v ((k, x) :: r) = (if k = f then (k, v) :: r else (k, x) :: putF f v r) from rfl]
    by_cases hk : k = f
    · rw [if_pos hk]
      subst hk
      exact ⟨by simp, fun g h => by simpa using h⟩
    · rw [if_neg hk]
      refine ⟨?_, fun g h => ?_⟩
      · rw [List.map_cons]
        exact List.mem_cons_of_mem _ i1
      · rw [List.map_cons] at h ⊢
        rcases List.mem_cons.mp h with e | e
        · exact List.mem_cons.mpr (.inl e)
        · exact List.mem_cons_of_mem _ (i2 g e)
theorem length_putF (f : Str) (v : V) : ∀ fs : List (Str × V), (putF f v fs).length ≤ fs.length + 1
  | [] => by simp [putF]
  | (k, x) :: r => by
    have ih := length_putF f v r
    rw [show putF f v ((k, x) :: r) = (if k = f then (k, v) :: r else (k, x) :: putF f v r) from rfl]
    by_cases hk : k = f
    · rw [if_pos hk, List.length_cons, List.length_cons]; omega
    · rw [if_neg hk, List.length_cons, List.length_cons]; omega

theorem RelO.some_of {v : V} {o : Option Value} (r : RelO (some v) o) : ∃ u, o = some u ∧ RelV v u := by
  cases o with
  | none => exact (show False from r).elim
  | some u => exact ⟨u, rfl, r⟩
theorem RelO.none_of {o : Option Value} (r : RelO none o) : o = none := by
  cases o with
  | none => rfl
  | some u => exact (show False from r).elim
theorem handed_of {v : V} {u : Value} (r : RelV v u) : PySem.W.handedIn u = true := by
  cases v with
  | non => cases (show u = Value.none from r); rfl
  | bl b => cases (show u = Value.bool b from r); rfl
  | int i => obtain ⟨t, e⟩ := (show ∃ t, u = Value.int i t from r); cases e; rfl
  | str x => obtain ⟨t, e⟩ := (show ∃ t, u = Value.str x t from r); cases e; rfl
  | byt b => obtain ⟨t, e⟩ := (show ∃ t, u = Value.bytes b t from r); cases e; rfl
  | flt b => obtain ⟨t, e⟩ := (show ∃ t, u = Value.float b t from r); cases e; rfl
  | ref a => cases (show u = Value.ref a from r); rfl
  | ty n => cases (show u = Value.type n from r); rfl

section
variable {P : Program} {w : World} {H H' : Hp} {h h' : Heap} {a C dx : Addr} {fs fs' : List (Str × V)}
theorem ins_get (hok : HOk P w H h) (e : H a = some (.ins C dx fs)) : ∃ mA, ObjM h a dx C mA ∧ (∀ f, RelO (fs.lookup f) (mA f)) ∧ PySem.Within mA (fs.map (·.1)) ∧ fs.length ≤ 1000 ∧ H dx = some (.own a) := by
  obtain ⟨d, z, ne, ob, mA, n, r, q⟩ := (show ObjOk P w H h a (.ins C dx fs) from hok a _ e)
  exact ⟨mA, ⟨ob, n, ne⟩, r, q, z, d⟩
end

/-! ### what of the text a class must have -/
structure Cls (K : PySem.W.Frag) (C : Addr) : Prop where
  pg : PySem.W.plainGet K C Str.empty = true
  hd : PySem.W.hasDictIn K C = true
  po : PySem.W.plainOver K C = true
  sa : PySem.W.findIn K (.ref C) "__setattr__" = some (some (.builtin "object.__setattr__"))
theorem Cls.get {K : PySem.W.Frag} {C : Addr} (c : Cls K C) (f : Str) : PySem.W.plainGet K C f = true := c.pg
/-- no class of it has the name -/
def NoAttr (K : PySem.W.Frag) (C : Addr) (f : Str) : Prop := PySem.W.findIn K (.ref C) f = some none
theorem NoAttr.taker {K : PySem.W.Frag} {C : Addr} {f : Str} (n : NoAttr K C f) : PySem.W.takerIn K C f = some none := by
  unfold PySem.W.takerIn
  rw [show PySem.W.findIn K (.ref C) f = some none from n]
  rfl
/-- a constant of the class -/
structure Con (K : PySem.W.Frag) (C : Addr) (f : Str) (v : V) (u : Value) : Prop where
  at_ : PySem.W.findIn K (.ref C) f = some (some u)
  rel : RelV v u
  get : PySem.W.specialIn K u "__get__" = some none
  cp : PySem.W.copiedNames.contains f = false
/-- a method: a plain def of the class or of one above it -/
structure Meth (K : PySem.W.Frag) (C : Addr) (m : Str) (f : Addr) : Prop where
  at_ : PySem.W.findIn K (.ref C) m = some (some (.ref f))
  fn : PySem.W.isFn K (.ref f) = true
  kp : PySem.W.keepIn K (.ref f) = true

section
variable {X : Cx} {pins : List (Addr × Obj)} {σ : St} {H : Hp} {s : Shared} {a C dx : Addr} {fs : List (Str × V)} {f : Str} {v : V} {A : Around} {E : Value → Shared → Prop}

theorem getattr_ok {b : Bool} {Q : Value → Shared → Prop} (I : Inv X pins σ H s) (e : H a = some (.ins C dx fs)) (c : Cls X.K C) (n : NoAttr X.K C f) (l : fs.lookup f = some v)
    (h : ∀ u s', Inv X pins σ H s' → RelV v u → Q u s') : wpAny (model X.prog X.w) A (getAttr (.ref a) f b) Q E s := by
  obtain ⟨mA, O, r, _, _, _⟩ := ins_get I.hok e
  obtain ⟨u, hu, ru⟩ := RelO.some_of (v := v) (o := mA f) (by rw [← l]; exact r f)
  exact get_map I.kIn O (c.get f) c.hd n hu (handed_of ru) (h u _ (I.tok _) ru)

theorem getcon_ok {b : Bool} {u : Value} {Q : Value → Shared → Prop} (I : Inv X pins σ H s) (e : H a = some (.ins C dx fs)) (c : Cls X.K C) (k : Con X.K C f v u) (l : fs.lookup f = none)
    (h : ∀ s', Inv X pins σ H s' → Q u s') : wpAny (model X.prog X.w) A (getAttr (.ref a) f b) Q E s := by
  obtain ⟨mA, O, r, _, _, _⟩ := ins_get I.hok e
  have hn : mA f = none := RelO.none_of (by rw [← l]; exact r f)
  exact get_const I.kIn O (c.get f) c.hd k.at_ k.get k.cp hn (handed_of k.rel) (h _ (I.tok _))

theorem getmeth_ok {m : Str} {g : Addr} {pl : Sem Bool} {Q : Value × List Value → Shared → Prop} (I : Inv X pins σ H s) (e : H a = some (.ins C dx fs)) (c : Cls X.K C) (k : Meth X.K C m g) (l : fs.lookup m = none)
    (h : Q (.ref g, [.ref a]) s) : wpAny (model X.prog X.w) A (getMethod (.ref a) m pl) Q E s := by
  obtain ⟨mA, O, r, _, _, _⟩ := ins_get I.hok e
  have hn : mA m = none := RelO.none_of (by rw [← l]; exact r m)
  exact get_meth I.kIn O (c.get m) k.at_ k.fn hn h

theorem setattr_ok {y : V} {u : Value} {Q : Unit → Shared → Prop} (I : Inv X pins σ H s) (e : H a = some (.ins C dx fs)) (c : Cls X.K C) (n : NoAttr X.K C f) (hl : fs.length < 1000) (ry : RelV y u)
    (h : ∀ s', Inv X pins σ (upd H a (.ins C dx (putF f y fs))) s' → Q () s') : wpAny (model X.prog X.w) A (setAttr (.ref a) f u) Q E s := by
  obtain ⟨mA, O, r, wi, _, ho⟩ := ins_get I.hok e
  have hz : (fs.map (·.1)).length ≤ sizeLine := by rw [List.length_map, sizeLine_eq]; omega
  refine set_map I.kIn O c.sa c.po n.taker c.hd wi hz fun h' O' sb => h _ ?_
  have hd : ∃ o, h'.get? dx = some o := let ⟨o, _, _, e', _⟩ := O'.ns; ⟨o, e'⟩
  refine I.write (x := a) (e := dx) (by rw [e]; exact True.intro) (.inr ho) (fun b q hb z => (sb.2 b hb).trans z) hd ?_
  refine ⟨by rw [upd_ne O.ne]; exact ho, ?_, O.ne, O'.obj, _, O'.ns, fun g => ?_, fun g hg => ?_⟩
  · have := length_putF f y fs; omega
  · show RelO ((putF f y fs).lookup g) (if g = f then some u else mA g)
    rw [lookup_putF]
    by_cases q : g = f
    · rw [if_pos q, if_pos q]; exact ry
    · rw [if_neg q, if_neg q]; exact r g
  · by_cases q : g = f
    · rw [q]; exact (keys_putF f y fs).1
    · refine (keys_putF f y fs).2 g (wi g fun z => hg ?_)
      show (if g = f then some u else mA g) = none
      rw [if_neg q]; exact z

/-- a new instance, tracked, without attributes -/
theorem Inv.made (I : Inv X pins σ H s) : Inv X pins σ (upd (upd H s.heap.objs.size (.own (s.heap.objs.size + 1))) (s.heap.objs.size + 1) (.ins C s.heap.objs.size []))
    { s with heap := (s.heap.push PySem.W.emptyDict).push (PySem.W.instObj C s.heap.objs.size) } := by
  have e1 : (s.heap.push PySem.W.emptyDict).get? s.heap.objs.size = some PySem.W.emptyDict := Heap.get?_push_size s.heap rfl
  have e2 : ((s.heap.push PySem.W.emptyDict).push (PySem.W.instObj C s.heap.objs.size)).get? (s.heap.objs.size + 1) = some (PySem.W.instObj C s.heap.objs.size) := by
    have := Heap.get?_push_size (s.heap.push PySem.W.emptyDict) (o := PySem.W.instObj C s.heap.objs.size) rfl
    rwa [Heap.size_push] at this
  have e3 : (s.heap.push PySem.W.emptyDict).Ns s.heap.objs.size (fun _ => none) := ⟨PySem.W.emptyDict, #[], _, e1, rfl, (fun e he => absurd he (by simp)), fun _ => rfl⟩
  have I1 := I.laid (a := s.heap.objs.size) (o := .own (s.heap.objs.size + 1)) (h' := s.heap.push PySem.W.emptyDict) (t' := s.toks) (fun b u q => Heap.get?_push_of_some _ q) (Nat.le_refl _) ⟨_, e1⟩
  refine I1.laid (a := s.heap.objs.size + 1) (o := .ins C s.heap.objs.size []) (t' := s.toks) (fun b u q => Heap.get?_push_of_some _ q) (Nat.le_of_eq (Heap.size_push _ _)) ?_
  have ne : s.heap.objs.size ≠ s.heap.objs.size + 1 := Nat.ne_of_lt (Nat.lt_succ_self _)
  refine ⟨by rw [upd_ne ne, upd_same], Nat.zero_le _, ne, e2, fun _ => none, (Heap.Ns1.of_empty e3).at fun o q => Heap.get?_push_of_some _ q, fun _ => True.intro, fun y hy => absurd rfl hy⟩

/-- e.f where nothing but the object is asked: through attributeBase (super) and the last hold -/
theorem attr_of {prog : Program} {w : World} {env : Env} {e : Expr} {f : Str} {pos : Pos} {s : Shared} {Q : Value → Shared → Prop} (hb : attributeBase e f env (eval e env) = eval e env)
    (h : wpAny (model prog w) A (eval e env) (fun o s₁ => wpAny (model prog w) A (getAttr o f true) Q E s₁) E s) : wpAny (model prog w) A (eval (.Attribute e f pos) env) Q E s :=
  Attribute_any_ h (by rw [arm_eval_Attribute, hb])
end

/-! ### readings and rules -/
/-- e.f, an attribute of the instance -/
def tFld (K : PySem.W.Frag) (ta : TE) (f : Str) : TE := fun σ H Q => ta σ H fun x H1 => ∃ a C dx fs v, x = .ref a ∧ H1 a = some (.ins C dx fs) ∧ Cls K C ∧ NoAttr K C f ∧ fs.lookup f = some v ∧ Q v H1
/-- e.f, a constant of the class -/
def tCon (K : PySem.W.Frag) (ta : TE) (f : Str) : TE := fun σ H Q => ta σ H fun x H1 => ∃ a C dx fs v u, x = .ref a ∧ H1 a = some (.ins C dx fs) ∧ Cls K C ∧ Con K C f v u ∧ fs.lookup f = none ∧ Q v H1
/-- e.f = value -/
def sFld (K : PySem.W.Frag) (ta tv : TE) (f : Str) : TS := fun D σ H => tv σ H fun y H1 => ta σ H1 fun x H2 => ∃ a C dx fs, x = .ref a ∧ H2 a = some (.ins C dx fs) ∧ Cls K C ∧ NoAttr K C f ∧ fs.length < 1000 ∧
  D.nx σ (upd H2 a (.ins C dx (putF f y fs)))
/-- an augmented operator on two values -/
def InOp (X : Cx) (op : Operator) (rd : V → V → Hp → VK → Prop) : Prop :=
  ∀ (pins : List (Addr × Obj)) (s : Shared) (σ : St) (H : Hp) (x y : V) (u v : Value) (Q : VK), Inv X pins σ H s → RelV x u → RelV y v → rd x y H Q → wpAny (model X.prog X.w) X.A (inplaceOp op u v) (EP X pins σ Q) X.xe s
/-- e.f op= value -/
def sFldAug (K : PySem.W.Frag) (ta tv : TE) (rd : V → V → Hp → VK → Prop) (f : Str) : TS := fun D σ H => ta σ H fun x H1 => ∃ a C dx fs v, x = .ref a ∧ H1 a = some (.ins C dx fs) ∧ Cls K C ∧ NoAttr K C f ∧ fs.lookup f = some v ∧
  tv σ H1 fun y H2 => rd v y H2 fun z H3 => ∃ dx' fs', H3 a = some (.ins C dx' fs') ∧ fs'.length < 1000 ∧ D.nx σ (upd H3 a (.ins C dx' (putF f z fs')))

section
variable {X : Cx} {o e value : Expr} {f : Str} {pos pos' tpos : Pos} {ta tv : TE}
theorem pe_fld (he : PE X e ta) (hb : attributeBase e f X.env (eval e X.env) = eval e X.env) : PE X (.Attribute e f pos) (tFld X.K ta f) := by
  intro pins s σ H Q I h
  refine attr_of hb (thn (he pins s σ H _ I h) fun u s1 ⟨x, H1, I1, rx, a, C, dx, fs, v, ex, ea, c, n, l, q⟩ => ?_)
  subst ex
  obtain rfl : u = Value.ref a := rx
  exact getattr_ok I1 ea c n l fun u' s2 I2 ru => ⟨v, H1, I2, ru, q⟩
theorem pe_con (he : PE X e ta) (hb : attributeBase e f X.env (eval e X.env) = eval e X.env) : PE X (.Attribute e f pos) (tCon X.K ta f) := by
  intro pins s σ H Q I h
  refine attr_of hb (thn (he pins s σ H _ I h) fun u s1 ⟨x, H1, I1, rx, a, C, dx, fs, v, u0, ex, ea, c, k, l, q⟩ => ?_)
  subst ex
  obtain rfl : u = Value.ref a := rx
  exact getcon_ok I1 ea c k l fun s2 I2 => ⟨v, H1, I2, k.rel, q⟩
theorem ps_fld (ha : PE X o ta) (hv : PE X value tv) (hs : swapsWith value (some (.Attribute o f pos')) pos.line X.env = pure false) : PS X (.Assign [.Attribute o f pos'] value pos) (sFld X.K ta tv f) := by
  intro pins s σ H D I h
  refine plainObj_wpAny_Assign_Attribute (thn (hv pins s σ H _ I h) fun u s1 ⟨y, H1, I1, ry, q⟩ => thn (ha pins s1 σ H1 _ I1 q) fun ov s2 ⟨x, H2, I2, rx, a, C, dx, fs, ex, ea, c, n, l, q2⟩ => ?_) hs
  subst ex
  obtain rfl : ov = Value.ref a := rx
  exact setattr_ok I2 ea c n l ry fun s3 I3 => ⟨σ, _, I3, q2⟩
theorem ps_fldaug {op : Operator} {rd : V → V → Hp → VK → Prop} (ha : PE X o ta) (hv : PE X value tv) (hop : InOp X op rd) : PS X (.AugAssign (.Attribute o f tpos) op value pos) (sFldAug X.K ta tv rd f) := by
  intro pins s σ H D I h
  refine wpAny_AugAssign_AttributeAny (thn (ha pins s σ H _ I h) fun ov s1 ⟨x, H1, I1, rx, a, C, dx, fs, v, ex, ea, c, n, l, q⟩ => ?_)
  subst ex
  obtain rfl : ov = Value.ref a := rx
  refine getattr_ok I1 ea c n l fun u s2 I2 ru => thn (hv pins s2 σ H1 _ I2 q) fun w3 s3 ⟨y, H2, I3, ry, q3⟩ => thn (hop pins s3 σ H2 v y u w3 _ I3 ru ry q3) fun w4 s4 ⟨z, H3, I4, rz, dx', fs', ea', l', q4⟩ => ?_
  exact setattr_ok I4 ea' c n l' rz fun s5 I5 => ⟨σ, _, I5, q4⟩
def rAdd : V → V → Hp → VK → Prop := fun x y H Q => ∃ i j, x = .int i ∧ y = .int j ∧ Q (.int (i + j)) H
def rSub : V → V → Hp → VK → Prop := fun x y H Q => ∃ i j, x = .int i ∧ y = .int j ∧ Q (.int (i - j)) H
theorem in_add : InOp X .Add rAdd := by
  rintro pins s σ H x y u v Q I rx ry ⟨i, j, rfl, rfl, q⟩
  obtain ⟨t, rfl⟩ := (show ∃ t, u = Value.int i t from rx)
  obtain ⟨t', rfl⟩ := (show ∃ t', v = Value.int j t' from ry)
  exact PyProof.Rows.iadd_int ⟨.int (i + j), H, I.tok _, ⟨_, rfl⟩, q⟩
theorem in_sub : InOp X .Sub rSub := by
  rintro pins s σ H x y u v Q I rx ry ⟨i, j, rfl, rfl, q⟩
  obtain ⟨t, rfl⟩ := (show ∃ t, u = Value.int i t from rx)
  obtain ⟨t', rfl⟩ := (show ∃ t', v = Value.int j t' from ry)
  exact PyProof.Rows.isub_int ⟨.int (i - j), H, I.tok _, ⟨_, rfl⟩, q⟩

/-- what is between an instance and its method: the tree of a method call -/
theorem methcall_of {pl : Sem Bool} {m : Str} {apos : Pos} {args : List Expr} {pins : List (Addr × Obj)} {s : Shared} {σ : St} {H : Hp} {Q : Value → Shared → Prop} {te : TE} (he : PE X e te) (I : Inv X pins σ H s)
    (h : te σ H fun x H1 => ∃ a C dx fs g, x = .ref a ∧ H1 a = some (.ins C dx fs) ∧ Cls X.K C ∧ Meth X.K C m g ∧ fs.lookup m = none ∧
      ∀ s1, Inv X pins σ H1 s1 → wpAny (model X.prog X.w) X.A (callWith pos (.ref g) [.ref a] (backTo pos (starEach args X.env)) (backToKw pos (keywordEach [] X.env))) Q X.xe s1)
    (ht : eval (.Call (.Attribute e m apos) args [] pos) X.env = (do
      let ov ← eval e X.env
      standAt apos.atName
      let (f, first) ← holding [ov] (getMethod ov m pl)
      callWith pos f first (backTo pos (starEach args X.env)) (backToKw pos (keywordEach [] X.env)))) :
    wpAny (model X.prog X.w) X.A (eval (.Call (.Attribute e m apos) args [] pos) X.env) Q X.xe s := by
  refine PySem.W.methodCall_KW (pl := pl) (thn (he pins s σ H _ I h) fun u s1 ⟨x, H1, I1, rx, a, C, dx, fs, g, ex, ea, c, k, l, q⟩ => ?_) ht
  subst ex
  obtain rfl : u = Value.ref a := rx
  exact getmeth_ok I1 ea c k l (q s1 I1)
end

/-! ### isinstance -/
section
variable {X : Cx} {pins : List (Addr × Obj)} {σ : St} {H : Hp} {s : Shared} {A : Around} {E : Value → Shared → Prop} {Q : Value → Shared → Prop} {c : Value} {b : Bool}
/-- the type of a value, as the fragment's deciders take it; for an instance its class -/
inductive TyOf (K : PySem.W.Frag) (H : Hp) : V → Value → Prop where
  | non : TyOf K H .non (.type "NoneType")
  | bl (x : Bool) : TyOf K H (.bl x) (.type "bool")
  | int (i : Int) : TyOf K H (.int i) (.type "int")
  | str (x : Str) : TyOf K H (.str x) (.type "str")
  | flt (x : UInt64) : TyOf K H (.flt x) (.type "float")
  | lst {a : Addr} {xs : List V} (e : H a = some (.lst xs)) : TyOf K H (.ref a) (.type "list")
  | frz {a : Addr} {o : Obj} {xs : List V} (e : H a = some (.frz o (.lst xs))) : TyOf K H (.ref a) (.type "list")
  | tup {a : Addr} {xs : List V} (e : H a = some (.tup xs)) : TyOf K H (.ref a) (.type "tuple")
  | dK {a : Addr} {kvs : List (Key × V)} (e : H a = some (.dK kvs)) : TyOf K H (.ref a) (.type "dict")
  | dT {a : Addr} {kvs : List (List Key × V)} (e : H a = some (.dT kvs)) : TyOf K H (.ref a) (.type "dict")
  | ins {a C dx : Addr} {fs : List (Str × V)} (e : H a = some (.ins C dx fs)) (cl : Cls K C) (ha : PySem.W.findIn K (.ref C) "__class__" = some (some (.builtin "object.__class__")))
      (hn : PySem.W.specialIn K (.builtin "object.__class__") "__get__" = some (some (.builtin "getset_descriptor.__get__"))) (htk : PySem.W.takesIn K (.builtin "object.__class__") = some true)
      (hm : PySem.W.mroIn K C (.type "object") = some true) : TyOf K H (.ref a) (.ref C)
/-- isinstance(x, c) for one class c, a built-in or an own one: kitOne's answer -/
theorem isinst_ok {x : V} {u t : Value} (I : Inv X pins σ H s) (rx : RelV x u) (ty : TyOf X.K H x t) (e : PySem.W.kitOne X.K t c = some b) (h : ∀ tk, Q (.bool b) { s with toks := tk }) :
    wpAny (model X.prog X.w) A (call (.builtin "isinstance") [u, c]) Q E s := by
  cases ty with
  | non => cases (show u = Value.none from rx); exact PySem.W.kia_one PySem.W.kitx_none I.kIn True.intro e (fun z => nomatch z) h
  | bl y => cases (show u = Value.bool y from rx); exact PySem.W.kia_one PySem.W.kitx_bool I.kIn True.intro e (fun z => nomatch z) h
  | int i => obtain ⟨t, q⟩ := (show ∃ t, u = Value.int i t from rx); cases q; exact PySem.W.kia_one PySem.W.kitx_int I.kIn True.intro e (fun z => nomatch z) h
  | str y => obtain ⟨t, q⟩ := (show ∃ t, u = Value.str y t from rx); cases q; exact PySem.W.kia_one PySem.W.kitx_str I.kIn True.intro e (fun z => nomatch z) h
  | flt y => obtain ⟨t, q⟩ := (show ∃ t, u = Value.float y t from rx); cases q; exact PySem.W.kia_one PySem.W.kitx_float I.kIn True.intro e (fun z => nomatch z) h
  | @lst a xs ea =>
    cases (show u = Value.ref a from rx)
    obtain ⟨_, _, n, _, h1⟩ := (show ObjOk X.prog X.w H s.heap a (.lst xs) from I.hok a _ ea)
    exact PySem.W.kia_one PySem.W.kitx_list I.kIn ⟨_, h1, rfl⟩ e (fun z => nomatch z) h
  | @frz a ob xs ea =>
    cases (show u = Value.ref a from rx)
    obtain ⟨_, _, _, n, _, h1⟩ := (show ObjOk X.prog X.w H s.heap a (.frz ob (.lst xs)) from I.hok a _ ea)
    exact PySem.W.kia_one PySem.W.kitx_list I.kIn ⟨_, h1, rfl⟩ e (fun z => nomatch z) h
  | @tup a xs ea =>
    cases (show u = Value.ref a from rx)
    obtain ⟨_, _, _, p⟩ := (show ObjOk X.prog X.w H s.heap a (.tup xs) from I.hok a _ ea)
    obtain ⟨o, h1, h2, _⟩ := p
    exact PySem.W.kia_one PySem.W.kitx_tuple I.kIn ⟨o, h1, h2⟩ e (fun z => nomatch z) h
  | @dK a kvs ea =>
    cases (show u = Value.ref a from rx)
    obtain ⟨_, _, vs, _, p⟩ := (show ObjOk X.prog X.w H s.heap a (.dK kvs) from I.hok a _ ea)
    obtain ⟨o, es, ep, h1, h2, _⟩ := p
    exact PySem.W.kia_one PySem.W.kitx_dict I.kIn ⟨o, h1, h2.1⟩ e (fun z => nomatch z) h
  | @dT a kvs ea =>
    cases (show u = Value.ref a from rx)
    obtain ⟨_, _, xs, _, o, es, ep, h1, h2, _⟩ := (show ObjOk X.prog X.w H s.heap a (.dT kvs) from I.hok a _ ea)
    exact PySem.W.kia_one PySem.W.kitx_dict I.kIn ⟨o, h1, h2.1⟩ e (fun z => nomatch z) h
  | @ins a C dx fs ea cl ha hn htk hm =>
    cases (show u = Value.ref a from rx)
    obtain ⟨mA, O, _⟩ := ins_get I.hok ea
    obtain ⟨od, J, _⟩ := O.look
    exact PySem.W.kia_one (PySem.W.kitx_own (cl.get _) cl.hd ha hn htk hm) I.kIn J e (fun z => nomatch z) h
end
end L2

namespace L2
open PySem PySem.Spec PyProof.Rows

/-! ### room -/
structure Room (k : Nat) (A : Around) : Prop where
  hd : A.handled = none
  dp : A.depth + 3 * k + 5 < recursionLimit
  un : A.units + 16 * k + 200 < cLine
theorem Room.mono {j k : Nat} {A : Around} (r : Room k A) (h : j ≤ k) : Room j A := ⟨r.hd, by have := r.dp; omega, by have := r.un; omega⟩
theorem Room.deeper {k : Nat} {A : Around} (r : Room (k + 1) A) (env : Env) : Room k (A.deeper env) :=
  ⟨r.hd, by have := r.dp; show A.depth + 1 + 3 * k + 5 < _; omega, by have := r.un; show A.units + 3 + 16 * k + 200 < _; omega⟩
theorem Room.in1 {k : Nat} {A : Around} (r : Room (k + 1) A) : Room k A.in1 :=
  ⟨r.hd, by have := r.dp; show A.depth + 3 * k + 5 < _; omega, by have := r.un; show A.units + 1 + 16 * k + 200 < _; omega⟩
theorem make_depth {A : Around} {C : Addr} {us : List Value} {kw : List (Str × Value)} : (A.under (.builtin "type.__call__" ⟨.ref C :: us, kw⟩)).depth = A.depth + 1 := by
  first | rfl | simp [Around.under, Code.weight, Code.isCreation, Code.isGuard, Code.isCaller, Code.frames, Code.isFrame, guardIds]
theorem make_units {A : Around} {C : Addr} {us : List Value} {kw : List (Str × Value)} : (A.under (.builtin "type.__call__" ⟨.ref C :: us, kw⟩)).units = A.units + 1 := by
  first | rfl | simp [Around.under, Code.cUnits, Code.frames, Code.isFrame]
theorem Room.make {k : Nat} {A : Around} (r : Room (k + 1) A) (C : Addr) (us : List Value) (kw : List (Str × Value)) : Room k (A.under (.builtin "type.__call__" ⟨.ref C :: us, kw⟩)) :=
  ⟨r.hd, by have := r.dp; rw [make_depth]; omega, by have := r.un; rw [make_units]; omega⟩
theorem Room.depth {k : Nat} {A : Around} (r : Room k A) : A.depth < recursionLimit := by have := r.dp; omega
theorem Room.units {k : Nat} {A : Around} (r : Room k A) : A.units + 64 < cLine := by have := r.un; omega
theorem Room.units0 {k : Nat} {A : Around} (r : Room k A) : A.units < cLine := by have := r.un; omega

/-! ### argument lists and displays -/
def tNil : TA := fun _ H Q => Q [] H
def tCons (ta : TE) (tr : TA) : TA := fun σ H Q => ta σ H fun x H1 => tr σ H1 fun xs H2 => Q (x :: xs) H2
section
variable {X : Cx} {e : Expr} {es : List Expr} {te : TE} {t : TA} {pos : Pos}
theorem pa_nil : PA X [] tNil := fun _ _ _ _ H Q I h => Calls.spliced_nil ⟨[], H, I, .nil, h⟩
theorem pa_cons (ha : PE X e te) (hr : PA X es t) (hs : starEach (e :: es) X.env = (false, eval e X.env) :: starEach es X.env := by rfl) : PA X (e :: es) (tCons te t) := by
  intro pos pins s σ H Q I h
  rw [hs]
  show wpAny _ _ (spliced ((false, eval e X.env) :: backTo pos (starEach es X.env))) _ _ s
  refine Calls.spliced_cons (thn (ha pins s σ H _ I h) fun u s1 ⟨x, H1, I1, r1, q1⟩ => ?_)
  exact thn (hr pos pins s1 σ H1 _ I1 q1) fun us s2 ⟨xs, H2, I2, r2, q2⟩ => ⟨x :: xs, H2, I2, .cons r1 r2, q2⟩

/-- a tuple, a list of written items -/
def tTup (t : TA) : TE := fun σ H Q => t σ H fun xs H1 => xs.length ≤ sizeLine ∧ ∀ p, H1 p = none → Q (.ref p) (upd H1 p (.tup xs))
def tLst (t : TA) : TE := fun σ H Q => t σ H fun xs H1 => xs.length ≤ sizeLine ∧ ∀ p, H1 p = none → Q (.ref p) (upd H1 p (.lst xs))
theorem pe_tup {x1} (h : PA X es t) : PE X (.Tuple es x1 pos) (tTup t) := by
  intro pins s σ H Q I hq
  refine wpAny_Tuple_spliced (thn (h pos pins s σ H _ I hq) fun us s1 ⟨xs, H1, I1, r, z, q⟩ => ⟨by rw [← r.length]; exact z, ?_⟩)
  have hf : H1 s1.heap.objs.size = none := I1.hok.fresh (Nat.le_refl _)
  refine ⟨.ref s1.heap.objs.size, upd H1 s1.heap.objs.size (.tup xs), I1.laid (t' := s1.toks) (fun b u e => Heap.get?_push_of_some _ e) (Nat.le_refl _) ?_, rfl, q _ hf⟩
  exact ⟨z, us, r, ⟨_, Heap.get?_push_size _ rfl, rfl, _, rfl⟩⟩
theorem pe_lst (h : PA X es t) : PE X (.List es pos) (tLst t) := by
  intro pins s σ H Q I hq
  refine wpAny_List_spliced (thn (h pos pins s σ H _ I hq) fun us s1 ⟨xs, H1, I1, r, z, q⟩ => ⟨by rw [← r.length]; exact z, ?_⟩)
  have hf : H1 s1.heap.objs.size = none := I1.hok.fresh (Nat.le_refl _)
  refine ⟨.ref s1.heap.objs.size, upd H1 s1.heap.objs.size (.lst xs), I1.laid (t' := s1.toks) (fun b u e => Heap.get?_push_of_some _ e) (Nat.le_refl _) ?_, rfl, q _ hf⟩
  exact ⟨z, us, 0, r, Heap.get?_push_size _ rfl⟩
end

/-! ### what a def promises -/
/-- a def's promise: the bound arguments in the parameters' order, the heap, the wanted end, the wanted exception -/
abbrev Sp := List V → Hp → VK → XK → Prop
/-- how an exception lies behind a call (file 08 gives it): the callers' frames, abstract heap and state ahead of the call, the wish, the exception, the state -/
abbrev CXT := List Env → Hp → Shared → XK → Value → Shared → Prop

/-- the state at a call -/
structure Env0 (P : Program) (w : World) (K : PySem.W.Frag) (mg : Str → Option Value) (base : Heap) (A : Around) (outer : List Env) (s : Shared) (H : Hp) : Prop where
  frames : A.frames = some outer
  mod : Mod K mg base
  bs : ∀ b o, base.get? b = some o → s.heap.get? b = some o ∧ H b = none
  bsz : base.objs.size ≤ s.heap.objs.size
  funs : s.heap.FunFrames base outer
  frf : ∀ b ∈ frs outer, H b = none
  hok : HOk P w H s.heap
  bare : AllBare s.gens
/-- a call's end -/
def CE (outer : List Env) (P : Program) (w : World) (H : Hp) (s : Shared) (Q : VK) (u : Value) (s' : Shared) : Prop :=
  ∃ v H', s'.os = s.os ∧ AllBare s'.gens ∧ Un (frs outer) [] H H' s.heap s'.heap ∧ HOk P w H' s'.heap ∧ RelV v u ∧ Q v H'
def CR (CX : CXT) (outer : List Env) (P : Program) (w : World) (H : Hp) (s : Shared) (Q : VK) (E : XK) (r : Result) (s' : Shared) : Prop :=
  match r with
  | .ok (.ret u) => CE outer P w H s Q u s'
  | .ok _ => False
  | .error e => CX outer H s E e s'
structure FnOk (P : Program) (w : World) (K : PySem.W.Frag) (mg : Str → Option Value) (base : Heap) (CX : CXT) (k : Nat) (f : Addr) (fd : FuncData) (ps : List Str) (sp : Sp) : Prop where
  len : ∀ vs H Q E, sp vs H Q E → vs.length = ps.length
  run : ∀ (A : Around) (outer : List Env) (s : Shared) (H : Hp) (args : Args) (us : List Value) (vs : List V) (Q : VK) (E : XK), Room k A → Env0 P w K mg base A outer s H → BindsTo s fd args (ps.zip us) → Vals vs us → sp vs H Q E →
    codeAny (model P w) A (.call (.ref f) args) (CR CX outer P w H s Q E) s
theorem FnOk.mono {P : Program} {w : World} {K : PySem.W.Frag} {mg : Str → Option Value} {base : Heap} {CX : CXT} {j k : Nat} {f : Addr} {fd : FuncData} {ps : List Str} {sp : Sp} (F : FnOk P w K mg base CX j f fd ps sp) (h : j ≤ k) :
    FnOk P w K mg base CX k f fd ps sp := ⟨F.len, fun A outer s H args us vs Q E hr => F.run A outer s H args us vs Q E (hr.mono h)⟩
/-- a weaker promise -/
theorem FnOk.imp {P : Program} {w : World} {K : PySem.W.Frag} {mg : Str → Option Value} {base : Heap} {CX : CXT} {k : Nat} {f : Addr} {fd : FuncData} {ps : List Str} {sp sp' : Sp} (F : FnOk P w K mg base CX k f fd ps sp)
    (h : ∀ vs H Q E, sp' vs H Q E → sp vs H Q E) : FnOk P w K mg base CX k f fd ps sp' :=
  ⟨fun vs H Q E q => F.len vs H Q E (h _ _ _ _ q), fun A outer s H args us vs Q E hr he hb hv hs => F.run A outer s H args us vs Q E hr he hb hv (h _ _ _ _ hs)⟩

theorem Env0.make {P : Program} {w : World} {K : PySem.W.Frag} {mg : Str → Option Value} {base : Heap} {A : Around} {outer : List Env} {s : Shared} {H : Hp} (e : Env0 P w K mg base A outer s H) (C : Addr) (us : List Value) (kw : List (Str × Value)) :
    Env0 P w K mg base (A.under (.builtin "type.__call__" ⟨.ref C :: us, kw⟩)) outer s H := ⟨by first | exact e.frames | (simpa [Around.under, Code.envs, Code.isFrame, pushEnvs] using e.frames), e.mod, e.bs, e.bsz, e.funs, e.frf, e.hok, e.bare⟩
theorem Env0.in1 {P : Program} {w : World} {K : PySem.W.Frag} {mg : Str → Option Value} {base : Heap} {A : Around} {outer : List Env} {s : Shared} {H : Hp} (e : Env0 P w K mg base A outer s H) :
    Env0 P w K mg base A.in1 outer s H := ⟨e.frames, e.mod, e.bs, e.bsz, e.funs, e.frf, e.hok, e.bare⟩

section
variable {X : Cx} {pins : List (Addr × Obj)} {σ : St} {H : Hp} {s s' : Shared}
/-- from a body: what a callee wants -/
theorem Inv.env0 (I : Inv X pins σ H s) : Env0 X.prog X.w X.K X.mg X.base X.A X.stack s H :=
  ⟨I.ok.frames, I.ok.mod, I.bs, Nat.le_trans I.ok.bsz I.sz, I.stack, I.stkFree, I.hok, I.bare⟩
/-- behind a call -/
theorem Inv.after {Q : VK} {u : Value} (I : Inv X pins σ H s) (h : CE X.stack X.prog X.w H s Q u s') : EP X pins σ Q u s' := by
  obtain ⟨v, H', os, bare, un, hok, r, q⟩ := h
  obtain ⟨hh, g, d, t, os'⟩ := s'
  obtain rfl : os' = s.os := os
  exact ⟨v, H', I.call (h' := hh) (g' := g) (d' := d) (t' := t) (ch := []) un hok bare (fun b z => absurd z (by simp)), r, q⟩
end

/-! ### calls -/
/-- f(..): the written arguments, then the defaults dvs; E: what is wanted of an exception -/
def tCall (sp : Sp) (dvs : List V) (E : XK) (t : TA) : TE := fun σ H Q => t σ H fun vs H1 => sp (vs ++ dvs) H1 Q E
/-- o.m(..) of an instance of the class at C -/
def tMeth (C : Addr) (m : Str) (sp : Sp) (dvs : List V) (E : XK) (ta : TE) (t : TA) : TE := fun σ H Q => ta σ H fun x H1 => ∃ a dx fs, x = .ref a ∧ H1 a = some (.ins C dx fs) ∧ fs.lookup m = none ∧
  t σ H1 fun vs H2 => sp (x :: (vs ++ dvs)) H2 Q E
/-- C(..): a new instance and its dict, then __init__ -/
def tMake (C : Addr) (sp : Sp) (dvs : List V) (E : XK) (t : TA) : TE := fun σ H Q => t σ H fun vs H1 => ∀ x dx, H1 x = none → H1 dx = none → dx ≠ x →
  sp (.ref x :: (vs ++ dvs)) (upd (upd H1 dx (.own x)) x (.ins C dx [])) (fun v H2 => v = .non ∧ Q (.ref x) H2) E

/-- how the parameters are bound: us the positional arguments, kw the keywords' values by name, ds the defaults that fill up -/
def Binds (K : PySem.W.Frag) (fd : FuncData) (ps : List Str) (ds : List Value) : Prop :=
  ∀ (s : Shared) (us : List Value), K.In s.heap → (us ++ ds).length = ps.length → BindsTo s fd ⟨us, []⟩ (ps.zip (us ++ ds))
/-- every parameter is given -/
theorem Binds.all {K : PySem.W.Frag} {fd : FuncData} {ps : List Str} (h : ∀ us : List Value, us.length = ps.length → bindArgs fd ⟨us, []⟩ = pure (ps.zip us)) : Binds K fd ps [] := fun s us _ hl => by
  rw [List.append_nil] at hl ⊢
  exact .of_eq (h us hl)

/-- an exception of a callee reaches what this body wants of exceptions -/
def Passes (CX : CXT) (X : Cx) (E : XK) : Prop := ∀ (pins : List (Addr × Obj)) (σ : St) (H : Hp) (s : Shared) (e : Value) (s' : Shared), Inv X pins σ H s → CX X.stack H s E e s' → X.xe e s'

section
variable {X : Cx} {CX : CXT} {k : Nat} {f C : Addr} {fd : FuncData} {ps : List Str} {sp : Sp} {dvs : List V} {ds : List Value} {E : XK} {x m : Str} {p pos apos : Pos} {e o : Expr} {es : List Expr} {ta : TE} {t : TA}

/-- the callee runs -/
theorem run_fn {pins : List (Addr × Obj)} {σ : St} {H : Hp} {s : Shared} {Q : VK} {us : List Value} {vs : List V} (F : FnOk X.prog X.w X.K X.mg X.base CX k f fd ps sp) (hr : Room k X.A) (hb : Binds X.K fd ps ds) (hd : Vals dvs ds) (hx : Passes CX X E)
    (I : Inv X pins σ H s) (r : Vals vs us) (h : sp (vs ++ dvs) H Q E) : wpAny (model X.prog X.w) X.A (call (.ref f) us) (EP X pins σ Q) X.xe s := by
  have r2 : Vals (vs ++ dvs) (us ++ ds) := r.append hd
  have hl : (us ++ ds).length = ps.length := by rw [← r2.length]; exact F.len _ _ _ _ h
  refine wpAny_call (codeAny_mono (F.run X.A X.stack s H ⟨us, []⟩ (us ++ ds) (vs ++ dvs) Q E hr I.env0 (hb s us I.kIn hl) r2 h) fun r s' hq => ?_)
  cases r with
  | error e => exact hx pins σ H s e s' I hq
  | ok fl =>
    cases fl with
    | ret u => exact I.after hq
    | next => exact False.elim hq
    | brk => exact False.elim hq
    | cont => exact False.elim hq

theorem pe_call (F : FnOk X.prog X.w X.K X.mg X.base CX k f fd ps sp) (hr : Room k X.A) (hg : Gl X x) (hm : X.mg x = some (.ref f)) (hk : PySem.W.keepIn X.K (.ref f) = true) (hb : Binds X.K fd ps ds) (hd : Vals dvs ds) (hx : Passes CX X E)
    (ha : PA X (e :: es) t) (hdb : (x == ("__debug__" : Str)) = false := by decide) (he : starEach (e :: es) X.env = (false, eval e X.env) :: starEach es X.env := by rfl) (hpl : (backTo pos (starEach es X.env)).any (·.1) = false := by rfl) :
    PE X (.Call (.Name x p) (e :: es) [] pos) (tCall sp dvs E t) := by
  intro pins s σ H Q I h
  refine wpAny_Call_Name_kw (ld_glob I hg hm ?_ hdb)
  refine PySem.W.callWith_K (h₀ := X.base) I.ok.mod.kin hk (thn (ha pos pins s σ H _ I h) fun us s1 ⟨vs, H1, I1, r, q⟩ => ⟨I1.kIn, ?_⟩) he hpl
  exact run_fn F hr hb hd hx I1 r q
theorem pe_call0 (F : FnOk X.prog X.w X.K X.mg X.base CX k f fd ps sp) (hr : Room k X.A) (hg : Gl X x) (hm : X.mg x = some (.ref f)) (hk : PySem.W.keepIn X.K (.ref f) = true) (hb : Binds X.K fd ps ds) (hd : Vals dvs ds) (hx : Passes CX X E)
    (hdb : (x == ("__debug__" : Str)) = false := by decide) : PE X (.Call (.Name x p) [] [] pos) (tCall sp dvs E tNil) := by
  intro pins s σ H Q I h
  refine wpAny_Call_Name_kw (ld_glob I hg hm ?_ hdb)
  exact PySem.W.callWith_K0 I.kIn hk (run_fn (us := []) F hr hb hd hx I .nil h)

/-- o.m(e, ..) -/
theorem pe_meth {pl : Sem Bool} (he : PE X o ta) (c : Cls X.K C) (hm : Meth X.K C m f) (F : FnOk X.prog X.w X.K X.mg X.base CX k f fd ps sp) (hr : Room k X.A) (hb : Binds X.K fd ps ds) (hd : Vals dvs ds) (hx : Passes CX X E) (ha : PA X (e :: es) t)
    (hst : starEach (e :: es) X.env = (false, eval e X.env) :: starEach es X.env := by rfl) (hpl : (backTo pos (starEach es X.env)).any (·.1) = false := by rfl)
    (ht : eval (.Call (.Attribute o m apos) (e :: es) [] pos) X.env = (do
      let ov ← eval o X.env
      standAt apos.atName
      let (f, first) ← holding [ov] (getMethod ov m pl)
      callWith pos f first (backTo pos (starEach (e :: es) X.env)) (backToKw pos (keywordEach [] X.env))) := by rfl) :
    PE X (.Call (.Attribute o m apos) (e :: es) [] pos) (tMeth C m sp dvs E ta t) := by
  intro pins s σ H Q I h
  refine PySem.W.methodCall_KW (pl := pl) (thn (he pins s σ H _ I h) fun u s1 ⟨x, H1, I1, rx, a, dx, fs, ex, ea, l, q⟩ => ?_) ht
  subst ex
  obtain rfl : u = Value.ref a := rx
  refine getmeth_ok I1 ea c hm l ?_
  refine PySem.W.callWith_K (first := [.ref a]) (h₀ := X.base) I.ok.mod.kin hm.kp (thn (ha pos pins s1 σ H1 _ I1 q) fun us s2 ⟨vs, H2, I2, r, q2⟩ => ⟨I2.kIn, ?_⟩) hst hpl
  exact run_fn (us := .ref a :: us) (vs := .ref a :: vs) F hr hb hd hx I2 (.cons rfl r) q2
/-- o.m() -/
theorem pe_meth0 {pl : Sem Bool} (he : PE X o ta) (c : Cls X.K C) (hm : Meth X.K C m f) (F : FnOk X.prog X.w X.K X.mg X.base CX k f fd ps sp) (hr : Room k X.A) (hb : Binds X.K fd ps ds) (hd : Vals dvs ds) (hx : Passes CX X E)
    (ht : eval (.Call (.Attribute o m apos) [] [] pos) X.env = (do
      let ov ← eval o X.env
      standAt apos.atName
      let (f, first) ← holding [ov] (getMethod ov m pl)
      callWith pos f first (backTo pos (starEach [] X.env)) (backToKw pos (keywordEach [] X.env))) := by rfl) :
    PE X (.Call (.Attribute o m apos) [] [] pos) (tMeth C m sp dvs E ta tNil) := by
  intro pins s σ H Q I h
  refine PySem.W.methodCall_KW (pl := pl) (thn (he pins s σ H _ I h) fun u s1 ⟨x, H1, I1, rx, a, dx, fs, ex, ea, l, q⟩ => ?_) ht
  subst ex
  obtain rfl : u = Value.ref a := rx
  refine getmeth_ok I1 ea c hm l ?_
  exact PySem.W.callWith_K0 (first := [.ref a]) I1.kIn hm.kp (run_fn (us := [.ref a]) (vs := [.ref a]) F hr hb hd hx I1 (.cons rfl .nil) q)

/-- what a class must have to be made -/
structure Mk (K : PySem.W.Frag) (C f : Addr) : Prop where
  makes : PySem.W.makesIn K C = true
  init : PySem.W.findIn K (.ref C) "__init__" = some (some (.ref f))
  fn : PySem.W.isFn K (.ref f) = true
  kp : PySem.W.keepIn K (.ref C) = true

theorem run_make {pins : List (Addr × Obj)} {σ : St} {H : Hp} {s : Shared} {Q : VK} {us : List Value} {vs : List V} (M : Mk X.K C f) (F : FnOk X.prog X.w X.K X.mg X.base CX k f fd ps sp) (hr : Room (k + 1) X.A) (hb : Binds X.K fd ps ds) (hd : Vals dvs ds)
    (hx : Passes CX X E) (I : Inv X pins σ H s) (r : Vals vs us)
    (h : ∀ x dx, H x = none → H dx = none → dx ≠ x → sp (.ref x :: (vs ++ dvs)) (upd (upd H dx (.own x)) x (.ins C dx [])) (fun v H2 => v = .non ∧ Q (.ref x) H2) E) :
    wpAny (model X.prog X.w) X.A (call (.ref C) us) (EP X pins σ Q) X.xe s := by
  have hq := h (s.heap.objs.size + 1) s.heap.objs.size (I.hok.fresh (Nat.le_succ _)) (I.hok.fresh (Nat.le_refl _)) (Nat.ne_of_lt (Nat.lt_succ_self _))
  have I2 := Inv.made (C := C) I
  have r2 : Vals (V.ref (s.heap.objs.size + 1) :: (vs ++ dvs)) (Value.ref (s.heap.objs.size + 1) :: (us ++ ds)) := .cons rfl (r.append hd)
  have hl : (Value.ref (s.heap.objs.size + 1) :: us ++ ds).length = ps.length := by
    have e := r2.length
    rw [F.len _ _ _ _ hq] at e
    exact e.symm
  refine wpAny_call (make_map (f := f) I.kIn M.makes M.init (beq_iff_eq.mp M.fn) (codeAny_mono (F.run _ X.stack _ _ ⟨Value.ref (s.heap.objs.size + 1) :: us, []⟩ (Value.ref (s.heap.objs.size + 1) :: (us ++ ds)) _ _ E (hr.make C us [])
    (I2.env0.make C us []) (hb _ (Value.ref (s.heap.objs.size + 1) :: us) I2.kIn hl) r2 hq) fun r s' hq' => ?_))
  cases r with
  | error e => exact hx pins σ _ _ e s' I2 hq'
  | ok fl =>
    cases fl with
    | ret u =>
      obtain ⟨v, H', I3, rv, ev, q3⟩ := I2.after hq'
      subst ev
      exact ⟨rv, ⟨V.ref (s.heap.objs.size + 1), H', I3, rfl, q3⟩⟩
    | next => exact False.elim hq'
    | brk => exact False.elim hq'
    | cont => exact False.elim hq'
theorem pe_make (M : Mk X.K C f) (F : FnOk X.prog X.w X.K X.mg X.base CX k f fd ps sp) (hr : Room (k + 1) X.A) (hg : Gl X x) (hm : X.mg x = some (.ref C)) (hb : Binds X.K fd ps ds) (hd : Vals dvs ds) (hx : Passes CX X E)
    (ha : PA X (e :: es) t) (hdb : (x == ("__debug__" : Str)) = false := by decide) (he : starEach (e :: es) X.env = (false, eval e X.env) :: starEach es X.env := by rfl) (hpl : (backTo pos (starEach es X.env)).any (·.1) = false := by rfl) :
    PE X (.Call (.Name x p) (e :: es) [] pos) (tMake C sp dvs E t) := by
  intro pins s σ H Q I h
  refine wpAny_Call_Name_kw (ld_glob I hg hm ?_ hdb)
  refine PySem.W.callWith_K (h₀ := X.base) I.ok.mod.kin M.kp (thn (ha pos pins s σ H _ I h) fun us s1 ⟨vs, H1, I1, r, q⟩ => ⟨I1.kIn, ?_⟩) he hpl
  exact run_make M F hr hb hd hx I1 r q
theorem pe_make0 (M : Mk X.K C f) (F : FnOk X.prog X.w X.K X.mg X.base CX k f fd ps sp) (hr : Room (k + 1) X.A) (hg : Gl X x) (hm : X.mg x = some (.ref C)) (hb : Binds X.K fd ps ds) (hd : Vals dvs ds) (hx : Passes CX X E)
    (hdb : (x == ("__debug__" : Str)) = false := by decide) : PE X (.Call (.Name x p) [] [] pos) (tMake C sp dvs E tNil) := by
  intro pins s σ H Q I h
  refine wpAny_Call_Name_kw (ld_glob I hg hm ?_ hdb)
  exact PySem.W.callWith_K0 I.kIn M.kp (run_make (us := []) M F hr hb hd hx I .nil h)
end

/-! ### keywords -/
/-- the values of the keywords, from the left -/
def PK (X : Cx) (kws : List Keyword) (t : TA) : Prop :=
  ∀ (pos : Pos) (pins : List (Addr × Obj)) (s : Shared) (σ : St) (H : Hp) (Q : List V → Hp → Prop), Inv X pins σ H s → t σ H Q → wpAny (model X.prog X.w) X.A (evalAll ((backToKw pos (keywordEach kws X.env)).map (·.2))) (AP X pins σ Q) X.xe s
section
variable {X : Cx} {CX : CXT} {k : Nat} {f C : Addr} {fd : FuncData} {ps ks : List Str} {sp : Sp} {E : XK} {x m : Str} {p pos apos kpos : Pos} {e o : Expr} {es : List Expr} {kws : List Keyword} {te ta : TE} {t tk : TA} {nm : Option Str}
theorem pk_nil : PK X [] tNil := fun _ _ _ _ H Q I h => wpAny_evalAll_nil ⟨[], H, I, .nil, h⟩
theorem pk_cons (ha : PE X e te) (hr : PK X kws t) : PK X (⟨nm, e, kpos⟩ :: kws) (tCons te t) := by
  intro pos pins s σ H Q I h
  show wpAny _ _ (evalAll ((do let v ← eval e X.env; standAt pos; pure v) :: (backToKw pos (keywordEach kws X.env)).map (·.2))) _ _ s
  refine wpAny_evalAll_cons (wpAny_bind (thn (ha pins s σ H _ I h) fun u s1 ⟨x, H1, I1, r1, q1⟩ => wpAny_bind (wpAny_standAt (wpAny_pure ?_))))
  exact thn (hr pos pins s1 σ H1 _ I1 q1) fun us s2 ⟨xs, H2, I2, r2, q2⟩ => ⟨x :: xs, H2, I2, .cons r1 r2, q2⟩

/-- how a call with keywords binds: g puts the positional values us and the keywords' values ws (names ks) in the parameters' order, defaults among them -/
structure KBinds (K : PySem.W.Frag) (fd : FuncData) (ps ks : List Str) (g : List Value → List Value → List Value) (gV : List V → List V → List V) : Prop where
  to : ∀ (s : Shared) (us ws : List Value), K.In s.heap → (g us ws).length = ps.length → BindsTo s fd ⟨us, ks.zip ws⟩ (ps.zip (g us ws))
  rel : ∀ {vs : List V} {us : List Value} {zs : List V} {ws : List Value}, Vals vs us → Vals zs ws → Vals (gV vs zs) (g us ws)
def tCallK (sp : Sp) (gV : List V → List V → List V) (E : XK) (t tk : TA) : TE := fun σ H Q => t σ H fun vs H1 => tk σ H1 fun zs H2 => sp (gV vs zs) H2 Q E
variable {g : List Value → List Value → List Value} {gV : List V → List V → List V}
theorem run_fnk {pins : List (Addr × Obj)} {σ : St} {H : Hp} {s : Shared} {Q : VK} {us ws : List Value} {vs zs : List V} (F : FnOk X.prog X.w X.K X.mg X.base CX k f fd ps sp) (hr : Room k X.A) (hb : KBinds X.K fd ps ks g gV) (hx : Passes CX X E)
    (I : Inv X pins σ H s) (r : Vals vs us) (rz : Vals zs ws) (h : sp (gV vs zs) H Q E) : wpAny (model X.prog X.w) X.A (call (.ref f) us (ks.zip ws)) (EP X pins σ Q) X.xe s := by
  have r2 := hb.rel r rz
  have hl : (g us ws).length = ps.length := by rw [← r2.length]; exact F.len _ _ _ _ h
  refine wpAny_call (codeAny_mono (F.run X.A X.stack s H ⟨us, ks.zip ws⟩ (g us ws) (gV vs zs) Q E hr I.env0 (hb.to s us ws I.kIn hl) r2 h) fun r s' hq => ?_)
  cases r with
  | error e => exact hx pins σ H s e s' I hq
  | ok fl =>
    cases fl with
    | ret u => exact I.after hq
    | next => exact False.elim hq
    | brk => exact False.elim hq
    | cont => exact False.elim hq
/-- f(e, .., k = v, ..) -/
theorem pe_callK (F : FnOk X.prog X.w X.K X.mg X.base CX k f fd ps sp) (hr : Room k X.A) (hg : Gl X x) (hm : X.mg x = some (.ref f)) (hk : PySem.W.keepIn X.K (.ref f) = true) (hb : KBinds X.K fd ps ks g gV) (hx : Passes CX X E)
    (ha : PA X (e :: es) t) (hkw : PK X kws tk) (hall : (backToKw pos (keywordEach kws X.env)).all (·.1.isSome) = true := by rfl) (hks : (backToKw pos (keywordEach kws X.env)).filterMap (·.1) = ks := by rfl)
    (hdb : (x == ("__debug__" : Str)) = false := by decide) (he : starEach (e :: es) X.env = (false, eval e X.env) :: starEach es X.env := by rfl)
    (hpl : ((backTo pos (starEach (e :: es) X.env)).any (·.1) || (backToKw pos (keywordEach kws X.env)).any (·.1.isNone)) = false := by rfl) :
    PE X (.Call (.Name x p) (e :: es) kws pos) (tCallK sp gV E t tk) := by
  intro pins s σ H Q I h
  refine wpAny_Call_Name_kw (ld_glob I hg hm ?_ hdb)
  refine PySem.W.callWith_KW (h₀ := X.base) I.ok.mod.kin hk hall (thn (ha pos pins s σ H _ I h) fun us s1 ⟨vs, H1, I1, r, q⟩ => ?_) hpl he
  refine thn (hkw pos pins s1 σ H1 _ I1 q) fun ws s2 ⟨zs, H2, I2, rz, q2⟩ => ⟨I2.kIn, ?_⟩
  rw [hks]
  exact run_fnk F hr hb hx I2 r rz q2
end

/-! ### a def's body keeps its promise -/
/-- names: the parameters first -/
structure FnScope (N P : List Str) (sc : Scope) : Prop where
  kind : sc.kind = .function
  co : sc.isCoroutine = false
  gen : sc.isGenerator = false
  nd : N.Nodup
  pre : N.take P.length = P
  par : ∀ x ∈ P, sc.names.lookup x = some .local ∨ sc.names.lookup x = some .cell
  nofree : ∀ y ∈ sc.names, y.2 ≠ .free

theorem bindL_out {kindOf : Str → Option NameKind} {x : Str} : ∀ {binds : List (Str × Value)} {m : Str → Option Value}, (∀ v, (x, v) ∉ binds) → bindL kindOf binds m x = m x
  | [], _, _ => rfl
  | (n, v) :: r, m, h => by
    unfold bindL
    rw [bindL_out fun w hw => h w (List.mem_cons_of_mem _ hw)]
    split
    · have : x ≠ n := by rintro rfl; exact h v List.mem_cons_self
      simp [this]
    · rfl
theorem bindC_out {kindOf : Str → Option NameKind} {x : Str} : ∀ {binds : List (Str × Value)} {m : Str → Option Value}, (∀ v, (x, v) ∉ binds) → bindC kindOf binds m x = m x
  | [], _, _ => rfl
  | (n, v) :: r, m, h => by
    unfold bindC
    rw [bindC_out fun w hw => h w (List.mem_cons_of_mem _ hw)]
    split
    · rfl
    · have : x ≠ n := by rintro rfl; exact h v List.mem_cons_self
      simp [this]
theorem bindL_get {kindOf : Str → Option NameKind} {x : Str} {v : Value} : ∀ {P : List Str} {vs : List Value} {i : Nat} {m : Str → Option Value}, P.Nodup → P[i]? = some x → vs[i]? = some v → kindOf x = some .local →
    bindL kindOf (P.zip vs) m x = some v
  | [], _, _, _, _, h, _, _ => by simp at h
  | _ :: _, [], _, _, _, _, h, _ => by simp at h
  | p :: P, w :: vs, 0, m, nd, h1, h2, hk => by
    simp at h1 h2; subst h1; subst h2
    show bindL kindOf ((p, w) :: P.zip vs) m p = _
    unfold bindL
    rw [bindL_out fun v hv => (List.nodup_cons.mp nd).1 (List.of_mem_zip hv).1, if_pos hk]
    simp
  | p :: P, w :: vs, i + 1, m, nd, h1, h2, hk => by
    show bindL kindOf ((p, w) :: P.zip vs) m x = _
    unfold bindL
    exact bindL_get (i := i) (List.nodup_cons.mp nd).2 (by simpa using h1) (by simpa using h2) hk
theorem bindC_get {kindOf : Str → Option NameKind} {x : Str} {v : Value} : ∀ {P : List Str} {vs : List Value} {i : Nat} {m : Str → Option Value}, P.Nodup → P[i]? = some x → vs[i]? = some v → kindOf x ≠ some .local →
    bindC kindOf (P.zip vs) m x = some v
  | [], _, _, _, _, h, _, _ => by simp at h
  | _ :: _, [], _, _, _, _, h, _ => by simp at h
  | p :: P, w :: vs, 0, m, nd, h1, h2, hk => by
    simp at h1 h2; subst h1; subst h2
    show bindC kindOf ((p, w) :: P.zip vs) m p = _
    unfold bindC
    rw [bindC_out fun v hv => (List.nodup_cons.mp nd).1 (List.of_mem_zip hv).1, if_neg hk]
    simp
  | p :: P, w :: vs, i + 1, m, nd, h1, h2, hk => by
    show bindC kindOf ((p, w) :: P.zip vs) m x = _
    unfold bindC
    exact bindC_get (i := i) (List.nodup_cons.mp nd).2 (by simpa using h1) (by simpa using h2) hk

/-- the names' values at the entry -/
def start (N : List Str) (vs : List V) : St := vs.map some ++ List.replicate (N.length - vs.length) none

/-- the context of a def's body, at its entry; an exception leaves the frame, then lies as CX says -/
def cxOf (CX : CXT) (P : Program) (w : World) (K : PySem.W.Frag) (mg : Str → Option Value) (base : Heap) (N : List Str) (qual : Str) (scope : Scope) (f : Addr) (cd : Value) (A : Around) (outer : List Env) (s : Shared) (H : Hp) (E : XK) : Cx where
  prog := P
  w := w
  K := K
  mg := mg
  base := base
  A := A.deeper (envOfC qual scope s.heap.objs.size f cd)
  N := N
  s₀ := s
  H₀ := H
  env := envOfC qual scope s.heap.objs.size f cd
  outer := outer
  stack := envOfC qual scope s.heap.objs.size f cd :: outer
  ex := []
  calm := true
  fn := fun _ => true
  pn := []
  xe := fun e s' => wpAny (model P w) (A.deeper (envOfC qual scope s.heap.objs.size f cd)) (leaving (envOfC qual scope s.heap.objs.size f cd) e) (fun _ s'' => CX outer H s E e s'') (fun e' s'' => CX outer H s E e' s'') s'

theorem cell_has {sc : Scope} {n : Nat} {x : Str} (h : sc.names.lookup x = some .cell) : ∃ c, (cellsFrom n sc.names []).lookup x = some c := by
  have q := PySem.W.cellsFrom_some sc.names n [] (.inl h)
  exact Option.isSome_iff_exists.mp q

theorem inv_start {CX : CXT} {P : Program} {w : World} {K : PySem.W.Frag} {mg : Str → Option Value} {base : Heap} {N ps : List Str} {qual : Str} {scope : Scope} {f : Addr} {cd : Value} {A : Around} {outer : List Env} {s s1 : Shared} {H : Hp} {E : XK} {us : List Value} {vs : List V}
    (S : FnScope N ps scope) (hd : A.handled = none) (e0 : Env0 P w K mg base A outer s H) (hl : vs.length = ps.length) (r : Vals vs us)
    (x : InCallC s s.heap.objs.size (bindL (envOfC qual scope s.heap.objs.size f cd).kindOf (ps.zip us) fun _ => none) (cellsFrom (s.heap.objs.size + 1) scope.names []) (bindC (envOfC qual scope s.heap.objs.size f cd).kindOf (ps.zip us) fun _ => none) s1) :
    Inv (cxOf CX P w K mg base N qual scope f cd A outer s H E) [] (start N vs) H s1 := by
  have hpl : ps.length ≤ N.length := by have := congrArg List.length S.pre; rw [List.length_take] at this; omega
  obtain ⟨h1, tk, rfl, hk⟩ := x.done
  have noA : ∀ b : Addr, b ∉ (cxOf CX P w K mg base N qual scope f cd A outer s H E).ex := fun b z => absurd (show b ∈ ([] : List Addr) from z) (by simp)
  refine ⟨⟨e0.mod, S.kind, rfl, rfl, Nat.le_refl _, fun y z c h1 h2 => ?_, fun y hy => ?_, fun y c _ h => ?_, fun _ => hd, Around.frames_deeper e0.frames, .inr ⟨rfl, rfl⟩, fun b z => absurd z (noA b), e0.bs, e0.bsz, fun b _ _ => noA b, fun b z => absurd z (noA b), e0.funs, e0.frf⟩,
    rfl, e0.bare, Un.kept hk, ⟨_, x.toInCall.ns, fun i y v h1 h2 h3 => ?_⟩, fun y c h => ⟨_, x.cell y c h⟩, e0.hok.fresh (Nat.le_refl _), fun y c h => ?_, fun p hp => absurd (show p ∈ ([] : List (Addr × Obj)) from hp) (by simp), e0.hok.kept hk, ?_⟩
  · exact name_of_addr x.apart (PySem.mem_of_lookup h1) (PySem.mem_of_lookup h2)
  · have hy : scope.names.lookup y = some .cell ∨ scope.names.lookup y = some .free := hy
    rcases hy with hy | hy
    · exact cell_has hy
    · exact absurd rfl (S.nofree _ (PySem.mem_of_lookup hy))
  · exact Nat.le_of_lt (x.above y c (PySem.mem_of_lookup h))
  · have hi : i < vs.length := by
      unfold start at h2
      by_cases hi : i < vs.length
      · exact hi
      · rw [List.getElem?_append_right (by simpa using hi)] at h2
        rw [List.getElem?_replicate] at h2
        split at h2 <;> cases h2
    have ha : vs[i]? = some v := by
      unfold start at h2
      rw [List.getElem?_append_left (by simpa using hi), List.getElem?_map] at h2
      cases e : vs[i]? with
      | none => rw [e] at h2; cases h2
      | some a => rw [e] at h2; cases h2; rfl
    obtain ⟨u, hu, rv⟩ := r.get ha
    have hp : ps[i]? = some y := by
      rw [← S.pre, List.getElem?_take_of_lt (by omega)]; exact h1
    have ndP : ps.Nodup := by rw [← S.pre]; exact S.nd.sublist (List.take_sublist _ _)
    refine ⟨u, rv, ?_⟩
    rcases S.par y (List.mem_of_getElem? hp) with k | k
    · exact .inl ⟨k, bindL_get ndP hp hu k⟩
    · obtain ⟨c, e⟩ := cell_has (n := s.heap.objs.size + 1) k
      refine .inr ⟨.inl k, c, e, ?_⟩
      have q := x.cell y c e
      rw [bindC_get ndP hp hu (by show scope.names.lookup y ≠ _; rw [k]; decide)] at q
      exact q
  · exact e0.hok.fresh (Nat.le_of_lt (x.above y c (PySem.mem_of_lookup h)))
  · unfold start
    show _ = N.length
    rw [List.length_append, List.length_map, List.length_replicate]
    omega

/-- THE RULE: a def (or a method) of the text, by its body. The body's reading t is chosen for each entry; it is run at the parameters' values -/
theorem fn_of {CX : CXT} {P : Program} {w : World} {K : PySem.W.Frag} {mg : Str → Option Value} {base : Heap} {k : Nat} {f : Addr} {name qual : Str} {params : Arguments} {body : List Stmt} {scope : Scope} {dV kV doc pm cdv ct oc : Value} {an od : Option Addr}
    {osl : Array (Option Value)} {N ps : List Str} {sp : Sp} (lk : K.lookup f = some ⟨oc, od, .func (PySem.W.fnOf name qual params body scope dV kV doc pm an cdv ct), osl⟩) (hcd : PySem.W.codeIn K cdv qual = true) (S : FnScope N ps scope)
    (len : ∀ vs H Q E, sp vs H Q E → vs.length = ps.length)
    (hbody : ∀ (A : Around) (outer : List Env) (s : Shared) (H : Hp) (vs : List V) (Q : VK) (E : XK), Room k (A.deeper (envOfC qual scope s.heap.objs.size f cdv)) → sp vs H Q E →
      ∃ t, PSs (cxOf CX P w K mg base N qual scope f cdv A outer s H E) body t ∧ t { nx := fun _ H' => Q .non H', rt := Q } (start N vs) H) :
    FnOk P w K mg base CX (k + 1) f (PySem.W.fnOf name qual params body scope dV kV doc pm an cdv ct) ps sp := by
  refine ⟨len, fun A outer s H args us vs Q E hr e0 hb r hsp => ?_⟩
  have hl := len _ _ _ _ hsp
  have KX : K.In s.heap := e0.mod.kin.keeps fun b o e => (e0.bs b o e).1
  have lim : s.heap.NoLimit := e0.mod.nolimit.keeps fun b o e => (e0.bs b o e).1
  have hkind : ∀ y ∈ ps.zip us, scope.names.lookup y.1 = some .local ∨ (scope.names.lookup y.1 = some .cell ∧ ((cellsFrom (s.heap.objs.size + 1) scope.names []).lookup y.1).isSome = true) := fun ⟨n, v⟩ hy => by
    rcases S.par n (List.of_mem_zip hy).1 with q | q
    · exact .inl q
    · exact .inr ⟨q, PySem.W.cellsFrom_some _ _ _ (.inl q)⟩
  refine codeAny_call_function hr.depth (KX _ _ lk) rfl S.co S.gen rfl (PySem.W.codeRec_of KX hcd) (hb _ _ _ _ ?_)
  refine wpAny_newFunctionEnv_cells S.kind hkind fun env he s1 x => ?_
  subst he
  refine ⟨lim.keeps x.toInCall.keep, codeAny_func ?_⟩
  obtain ⟨t, ht, hq⟩ := hbody A outer s H vs Q E (hr.deeper _) hsp
  have I : Inv (cxOf CX P w K mg base N qual scope f cdv A outer s H E) [] (start N vs) H s1 := inv_start S hr.hd e0 hl r x
  refine wpAny_mono (ht [] s1 (start N vs) H _ I hq) (fun fl s' hs => ?_) fun e s' hs => hs
  have fin : ∀ {σ' : St} {H' : Hp} {v : V} {u : Value}, Inv (cxOf CX P w K mg base N qual scope f cdv A outer s H E) [] σ' H' s' → RelV v u → Q v H' → CE outer P w H s Q u s' :=
    fun {σ' H' v u} J rv q => ⟨v, H', J.os, J.bare, J.base, J.hok, rv, q⟩
  cases fl with
  | ret u =>
    obtain ⟨v, σ', H', J, rv, q⟩ := hs
    exact fin J rv q
  | next =>
    obtain ⟨σ', H', J, q⟩ := hs
    exact fin (v := V.non) (u := Value.none) J rfl q
  | brk =>
    obtain ⟨_, _, _, q⟩ := hs
    exact False.elim q
  | cont =>
    obtain ⟨_, _, _, q⟩ := hs
    exact False.elim q
end L2

namespace L2
open PySem PySem.Spec PyProof.Rows
section
variable {X : Cx} {x : Str} {p pos : Pos} {e : Expr} {es : List Expr} {t : TA} {id T : String} {r : List V → Hp → VK → Prop}

def tCB (r : List V → Hp → VK → Prop) (t : TA) : TE := fun σ H Q => t σ H fun vs H1 => r vs H1 Q
/-- f(e, ..), f a built-in function -/
theorem pe_callB (hc : CallR X (.builtin id) r) (hg : Gl X x) (hm : X.mg x = none) (hv : bootBuiltins x = some (.builtin id)) (ha : PA X (e :: es) t) (hn : x ≠ "__name__" := by decide) (hdb : (x == ("__debug__" : Str)) = false := by decide)
    (he : starEach (e :: es) X.env = (false, eval e X.env) :: starEach es X.env := by rfl) (hpl : (backTo pos (starEach es X.env)).any (·.1) = false := by rfl) : PE X (.Call (.Name x p) (e :: es) [] pos) (tCB r t) := by
  intro pins s σ H Q I h
  refine wpAny_Call_Name_kw (ld_blt I hg hm hv ?_ hn hdb)
  exact PyProof.Rows.callWith_builtin1 (thn (ha pos pins s σ H _ I h) fun us s1 ⟨vs, H1, I1, r1, q1⟩ => hc pins s1 σ H1 vs us Q I1 r1 q1) he hpl
/-- T(e, ..), T a built-in type -/
theorem pe_callTy (hc : CallR X (.type T) r) (hg : Gl X x) (hm : X.mg x = none) (hv : bootBuiltins x = some (.type T)) (ha : PA X (e :: es) t) (hn : x ≠ "__name__" := by decide) (hdb : (x == ("__debug__" : Str)) = false := by decide)
    (he : starEach (e :: es) X.env = (false, eval e X.env) :: starEach es X.env := by rfl) (hpl : (backTo pos (starEach es X.env)).any (·.1) = false := by rfl) : PE X (.Call (.Name x p) (e :: es) [] pos) (tCB r t) := by
  intro pins s σ H Q I h
  refine wpAny_Call_Name_kw (ld_blt I hg hm hv ?_ hn hdb)
  exact PyProof.Rows.callWith_type1 (thn (ha pos pins s σ H _ I h) fun us s1 ⟨vs, H1, I1, r1, q1⟩ => hc pins s1 σ H1 vs us Q I1 r1 q1) he hpl
/-- T() -/
theorem pe_callTy0 (hc : CallR X (.type T) r) (hg : Gl X x) (hm : X.mg x = none) (hv : bootBuiltins x = some (.type T)) (hn : x ≠ "__name__" := by decide) (hdb : (x == ("__debug__" : Str)) = false := by decide) :
    PE X (.Call (.Name x p) [] [] pos) (tCB r tNil) := by
  intro pins s σ H Q I h
  refine wpAny_Call_Name_kw (ld_blt I hg hm hv ?_ hn hdb)
  exact PyProof.Rows.callWith_type0 (hc pins s σ H [] [] Q I .nil h)
end
end L2

namespace HT
open PySem PyProof.Rows

/-- t < u of tuples of ints -/
def lexLt : List Int → List Int → Bool
  | [], [] => false
  | [], _ :: _ => true
  | _ :: _, [] => false
  | x :: xs, y :: ys => if x = y then lexLt xs ys else decide (x < y)
theorem lexLt_cons (x y : Int) (xs ys : List Int) : lexLt (x :: xs) (y :: ys) = if x = y then lexLt xs ys else decide (x < y) := rfl
theorem lexLt_nil_nil : lexLt [] [] = false := rfl
theorem lexLt_nil_cons (y : Int) (ys : List Int) : lexLt [] (y :: ys) = true := rfl
theorem lexLt_cons_nil (x : Int) (xs : List Int) : lexLt (x :: xs) [] = false := rfl

theorem eqAt_int (A : Around) (s : Shared) (a : Int) (t : Tok) (c : Int) (u : Tok) : ∃ e, SeqAt.EqAt A s (.int a t) (.int c u) e ∧ (e = true ↔ a = c) :=
  ⟨(a == c), SeqAt.EqAt.int_int a t c u, by simp⟩
theorem rcLt_int (A : Around) (s : Shared) (a : Int) (t : Tok) (c : Int) (u : Tok) (prog : Program) (w : World) (E : Value → Shared → Prop) (Q : Value → Shared → Prop) (h : Q (.bool (decide (a < c))) s) :
    wpAny (model prog w) A (richCompare .Lt (.int a t) (.int c u)) Q E s :=
  (PyProof.Rows.lt_int h : wpAny (model prog w) A (compareOp .Lt (.int a t) (.int c u)) Q E s)

section
open PySem.SeqAt
open PySem.AutoSeq1 (wpAny_loadPart')
open PySem.MeetsSeq PySem.MeetsSeq2 PySem.MeetsSeq3

theorem tuple_lt_ints (l b : Addr) (items items2 : Array Value) (n n2 : Nat) (dd dd2 : Option Addr) (sl sl2 : Array (Option Value)) (ns ms : List Int) (hi : IntsAre items.toList ns) (hj : IntsAre items2.toList ms) :
    Meets (Builtin.«tuple.__lt__» ⟨[.ref l, .ref b], []⟩)
      (fun _ R s => s.heap.get? l = some { cls := .type "tuple", dict := dd, data := .seq items n, slots := sl } ∧ s.heap.get? b = some { cls := .type "tuple", dict := dd2, data := .seq items2 n2, slots := sl2 } ∧
        R (.ok (.ret (.bool (lexLt ns ms)))) s) :=
  .of_wp fun prog w A R s h => by
    obtain ⟨hp, g, d, tk, os⟩ := s; obtain ⟨hl, hb, h⟩ := h
    have f2 := AutoSeq1.sub_tuple_tuple
    have z1 : items.size = ns.length := by rw [← hi.length]; simp
    have z2 : items2.size = ms.length := by rw [← hj.length]; simp
    wp_walk using wpAny_loadPart' hl, wpAny_loadPart' hb, wpAny_forIn_list _ (fun rest b s' => b.1 = none ∧ s' = ⟨hp, g, d, tk, os⟩ ∧ ∃ (vs ws : List Value) (ns' ms' : List Int), rest = vs.zip ws ∧
      IntsAre vs ns' ∧ IntsAre ws ms' ∧ ns'.length + items2.size = ms'.length + items.size ∧ R (.ok (.ret (.bool (lexLt ns' ms')))) ⟨hp, g, d, tk, os⟩) _
    case turn =>
      rintro ⟨y, x⟩ rest b s' ⟨hb', rfl, vs, ws, ns', ms', hz, hvi, hwi, hlen, hR⟩
      cases hvi with
      | nil => rw [List.zip_nil_left] at hz; cases hz
      | cons a t hvi' =>
        cases hwi with
        | nil => rw [List.zip_nil_right] at hz; cases hz
        | cons c u hwi' =>
          rw [List.zip_cons_cons] at hz
          injection hz with hyx hrest
          injection hyx with hy hx
          subst hy hx
          rw [lexLt_cons] at hR
          simp only [List.length_cons] at hlen
          obtain ⟨e, he, hiff⟩ := eqAt_int A.in1 ⟨hp, g, d, tk, os⟩ a t c u
          refine wpAny_bind (he prog w _ _ ?_)
          cases e with
          | true =>
            rw [if_pos (hiff.mp rfl)] at hR
            wp_walk
            exact ⟨rfl, rfl, _, _, _, _, hrest, hvi', hwi', by omega, hR⟩
          | false =>
            rw [if_neg (fun q => absurd (hiff.mpr q) Bool.false_ne_true)] at hR
            have hri := rcLt_int A.in1 ⟨hp, g, d, tk, os⟩ a t c u prog w
            wp_walk using hri
            exact ⟨_, rfl, by simpa using hR⟩
    case fin =>
      rintro ⟨b1, b2⟩ s' ⟨hb', rfl, vs, ws, ns', ms', hz, hvi, hwi, hlen, hR⟩
      simp only at hb'
      subst hb'
      have hv : lexLt ns' ms' = decide (items.size < items2.size) := by
        cases hvi with
        | nil =>
          cases hwi with
          | nil =>
            simp only [List.length_nil] at hlen
            rw [lexLt_nil_nil]
            exact (decide_eq_false (by omega)).symm
          | cons c u hw =>
            simp only [List.length_nil, List.length_cons] at hlen
            rw [lexLt_nil_cons]
            exact (decide_eq_true (by omega)).symm
        | cons a t hv =>
          cases hwi with
          | nil =>
            simp only [List.length_nil, List.length_cons] at hlen
            rw [lexLt_cons_nil]
            exact (decide_eq_false (by omega)).symm
          | cons c u hw =>
            rw [List.zip_cons_cons] at hz
            cases hz
      rw [hv] at hR
      wp_walk
      exact ⟨_, rfl, by simpa [Builtin.Tuple.tupleCompareSizes] using hR⟩
    case h =>
      exact ⟨rfl, rfl, items.toList, items2.toList, ns, ms, rfl, hi, hj, by omega, h⟩
end

section
variable {prog : Program} {w : World} {A : Around} {E : Value → Shared → Prop} {s : Shared}

theorem lt_tupInts {l b : Addr} {items items2 : Array Value} {ns ms : List Int} {Q : Value → Shared → Prop} (hl : IsTup s.heap l items) (hb : IsTup s.heap b items2) (hi : IntsAre items.toList ns) (hj : IntsAre items2.toList ms)
    (hu : A.units < cLine) (h : Q (.bool (lexLt ns ms)) s) : wpAny (model prog w) A (compareOp .Lt (.ref l) (.ref b)) Q E s := by
  obtain ⟨⟨cls, dd, data, sl⟩, ho, hc, n, hd⟩ := id hl
  obtain ⟨⟨cls2, dd2, data2, sl2⟩, ho2, hc2, n2, hd2⟩ := id hb
  simp only at hc hd hc2 hd2
  subst hc hd hc2 hd2
  exact richCompare_meets_room (op := .Lt) ⟨_, ho, rfl⟩ ⟨_, ho2, rfl⟩ PySem.F.slot_tuple_lt PySem.F.entry_tuple_lt (PySem.F.args_tuple_lt_2 _ _) (tuple_lt_ints l b items items2 n n2 dd dd2 sl sl2 ns ms hi hj)
    ⟨ho, ho2, show Value.bool (lexLt ns ms) ≠ Value.notImplemented ∧ Q (.bool (lexLt ns ms)) s from ⟨(fun x => nomatch x), h⟩⟩ hu

/-- t + u, t not empty -/
theorem cat_tup {t b : Addr} {vs ws : List Value} {Q : Value → Shared → Prop} (ht : IsTup s.heap t vs.toArray) (hb : IsTup s.heap b ws.toArray) (hv : vs ≠ [])
    (h1 : ws = [] → Q (.ref t) s) (h2 : ws ≠ [] → Q (.ref s.heap.objs.size) { s with heap := s.heap.push { cls := .type "tuple", data := .seq (vs ++ ws).toArray } })
    (hsz : vs.length + ws.length ≤ sizeLine) : wpAny (model prog w) A (binaryOp .Add (.ref t) (.ref b)) Q E s := by
  obtain ⟨⟨cls, dd, data, sl⟩, ho, hc, n, hd⟩ := id ht
  obtain ⟨⟨cls2, dd2, data2, sl2⟩, ho2, hc2, n2, hd2⟩ := id hb
  simp only at hc hd hc2 hd2
  subst hc hd hc2 hd2
  have e : vs.toArray ++ ws.toArray = (vs ++ ws).toArray := by simp
  by_cases hw : ws = []
  · exact concat_meets ⟨_, ho, rfl⟩ ⟨_, ho2, rfl⟩ noFill_tuple_add seq_tuple_add PySem.F.slot_tuple_add PySem.F.entry_tuple_add (PySem.F.args_tuple_add_2 _ _)
      (tuple_addW1 t b vs.toArray ws.toArray n n2 dd dd2 sl sl2 (by simpa using hv) (by simp [hw])) ⟨ho, ho2, h1 hw⟩
  · refine concat_meets ⟨_, ho, rfl⟩ ⟨_, ho2, rfl⟩ noFill_tuple_add seq_tuple_add PySem.F.slot_tuple_add PySem.F.entry_tuple_add (PySem.F.args_tuple_add_2 _ _)
      (tuple_addW2 t b vs.toArray ws.toArray n n2 dd dd2 sl sl2 (by simpa using hv) (by simpa using hw) (by rw [List.size_toArray, List.size_toArray]; exact hsz)) ⟨ho, ho2, ?_⟩
    rw [e]
    exact h2 hw

/-! ### t[a:b], not the whole -/
/-- a slice's bound as a place among n (d where it is left out) -/
def sIx (n d : Nat) : Option Int → Nat
  | none => d
  | some v => if v < 0 then (v + (n : Int)).toNat else min v.toNat n
theorem sIx_none (n d : Nat) : sIx n d none = d := rfl
theorem sIx_nat (n d k : Nat) : sIx n d (some (k : Int)) = min k n := by
  show (if (k : Int) < 0 then ((k : Int) + (n : Int)).toNat else min (k : Int).toNat n) = min k n
  rw [if_neg (by omega), Int.toNat_natCast]
theorem sIx_le (n d : Nat) (hd : d ≤ n) (o : Option Int) : sIx n d o ≤ n := by
  cases o with
  | none => exact hd
  | some v =>
    show (if v < 0 then (v + (n : Int)).toNat else min v.toNat n) ≤ n
    by_cases hv : v < 0
    · rw [if_pos hv]; omega
    · rw [if_neg hv]; exact Nat.min_le_right _ _
theorem clip_eq (v : Int) (n d : Nat) : (if v < 0 then max (v + (n : Int)) 0 else min v (n : Int)) = ((sIx n d (some v) : Nat) : Int) := by
  show (if v < 0 then max (v + (n : Int)) 0 else min v (n : Int)) = (((if v < 0 then (v + (n : Int)).toNat else min v.toNat n) : Nat) : Int)
  by_cases hv : v < 0
  · simp only [if_pos hv]; omega
  · simp only [if_neg hv]; omega
theorem adjust_gen (lo hi : Option Int) (n : Nat) : Builtin.Slice.sliceAdjust lo hi 1 (n : Int) = (((sIx n 0 lo : Nat) : Int), ((sIx n n hi : Nat) : Int)) := by
  have h1 : ¬ ((1 : Int) < 0) := by omega
  unfold Builtin.Slice.sliceAdjust
  simp only [h1, if_false]
  refine Prod.ext ?_ ?_
  · cases lo with
    | none => rfl
    | some v => exact clip_eq v n 0
  · cases hi with
    | none => rfl
    | some v => exact clip_eq v n n
theorem places_gen (i j : Nat) : Builtin.Slice.slicePlaces (i : Int) (j : Int) 1 = j - i := by
  unfold Builtin.Slice.slicePlaces
  have h1 : (1 : Int) > 0 := by omega
  simp only [h1, if_true, Int.ediv_one]
  split <;> omega
theorem slicePart_ {v : Value} {o : Option Int} {Q : Option Int → Shared → Prop} (p : IsPart v o) (h : Q o s) : wpAny (model prog w) A (Builtin.Slice.slicePartIndex v) Q E s := by
  cases p with
  | none => exact slicePart_none h
  | int i t => exact slicePart_int h
theorem sliceApplied_gen {sl : Addr} {vl vu : Value} {lo hi : Option Int} {n : Nat} {Q : Int × Int × Nat → Shared → Prop} (hs : s.heap.IsSliceOf sl vl vu .none) (pl : IsPart vl lo) (pu : IsPart vu hi)
    (h : Q (((sIx n 0 lo : Nat) : Int), 1, sIx n n hi - sIx n 0 lo) s) : wpAny (model prog w) A (Builtin.Slice.sliceApplied (.ref sl) (pure (n : Int))) Q E s := by
  obtain ⟨os, hos, hcs, hds⟩ := id hs
  unfold Builtin.Slice.sliceApplied Builtin.Slice.sliceFields
  refine wpAny_bind (wpAny_bind (wpAny_field hos hds (x := vl) rfl (wpAny_bind (wpAny_field hos hds (x := vu) rfl (wpAny_bind (wpAny_field hos hds (x := .none) rfl (wpAny_pure ?_)))))))
  refine wpAny_bind (slicePart_none ?_)
  show wpAny _ _ (if ((1 : Int) == 0) = true then _ else _) _ _ s
  rw [if_neg (by decide)]
  refine wpAny_bind (slicePart_ pl (wpAny_bind (slicePart_ pu (wpAny_bind (wpAny_pure ?_)))))
  show wpAny _ _ (match Builtin.Slice.sliceAdjust lo hi 1 (n : Int) with | (lo, hi) => pure (lo, (1 : Int), Builtin.Slice.slicePlaces lo hi 1)) _ _ s
  rw [adjust_gen lo hi n]
  show wpAny _ _ (pure (((sIx n 0 lo : Nat) : Int), (1 : Int), Builtin.Slice.slicePlaces ((sIx n 0 lo : Nat) : Int) ((sIx n n hi : Nat) : Int) 1)) _ _ s
  rw [places_gen]
  exact wpAny_pure h
theorem pick_gen (xs : Array Value) (i k : Nat) : ((List.range k).filterMap fun (m : Nat) => xs[((i : Int) + (m : Int) * 1).toNat]?).toArray = ((xs.toList.drop i).take k).toArray := by
  have e : (fun (m : Nat) => xs[((i : Int) + (m : Int) * 1).toNat]?) = fun m => xs[i + m]? := by
    funext m
    have : ((i : Int) + (m : Int) * 1).toNat = i + m := by omega
    rw [this]
  rw [e]
  have := pick_run xs i k
  rw [List.filterMap_map] at this
  have e2 : ((fun x => xs[x]?) ∘ fun x => i + x) = fun m => xs[i + m]? := rfl
  rw [e2] at this
  rw [this]

theorem getItem_tuple_cut {t sl : Addr} {items : Array Value} {vl vu : Value} {lo hi : Option Int} {Q : Value → Shared → Prop} (ht : IsTup s.heap t items) (hs : s.heap.IsSliceOf sl vl vu .none) (pl : IsPart vl lo) (pu : IsPart vu hi)
    (hw : ¬ (sIx items.size 0 lo = 0 ∧ sIx items.size items.size hi = items.size))
    (h : Q (.ref s.heap.objs.size) { s with heap := s.heap.push { cls := .type "tuple", data := .seq ((items.toList.drop (sIx items.size 0 lo)).take (sIx items.size items.size hi - sIx items.size 0 lo)).toArray } })
    (hsz : items.size ≤ sizeLine) : wpAny (model prog w) A (getItem (.ref t) (.ref sl)) Q E s := by
  have htake : sizeOk (.seq ((items.toList.drop (sIx items.size 0 lo)).take (sIx items.size items.size hi - sIx items.size 0 lo)).toArray) := by
    show ((items.toList.drop (sIx items.size 0 lo)).take (sIx items.size items.size hi - sIx items.size 0 lo)).toArray.size ≤ sizeLine
    rw [List.size_toArray, List.length_take, List.length_drop, Array.length_toList]
    omega
  have hj : sIx items.size items.size hi ≤ items.size := sIx_le _ _ (Nat.le_refl _) hi
  obtain ⟨os, hos, hcs, hds⟩ := id hs
  have hTs : s.TypeIs (.ref sl) "slice" := ⟨os, hos, hcs⟩
  unfold getItem
  try with_reducible refine wpAny_holding ?_
  first | refine wpAny_bind (wpAny_pure ?_) | skip
  refine wpAny_bind (wpAny_sequenceKey ht.typeIs (by decide) ?_)
  refine wpAny_bind (wpAny_callSpecial?_slot (name := Str.ofString "__getitem__") ht.typeIs PyProof.Rows.slot_tuple_getitem
    (wpAny_call_entry PyProof.Rows.slot_tuple_getitem ht.typeIs entry_tuple_getitem ?_ (args_tuple_getitem _ _)))
  show wpAny _ _ (Builtin.Tuple.tupleItemsOf (.ref t) >>= _) _ _ s
  refine wpAny_bind (tupleItemsOf_ ht ?_)
  refine wpAny_bind (wpAny_typeOf hTs ?_)
  rw [if_pos (by decide)]
  refine wpAny_bind (sliceApplied_gen hs pl pu ?_)
  have hno : ¬ ((((sIx items.size 0 lo : Nat) : Int) == 0 && (1 : Int) == 1 && (sIx items.size items.size hi - sIx items.size 0 lo) == items.size) = true) := by
    intro q
    rw [Bool.and_eq_true, Bool.and_eq_true] at q
    have q1 : ((sIx items.size 0 lo : Nat) : Int) = 0 := eq_of_beq q.1.1
    have q2 : sIx items.size items.size hi - sIx items.size 0 lo = items.size := eq_of_beq q.2
    exact hw ⟨by omega, by omega⟩
  show wpAny _ _ (if (((sIx items.size 0 lo : Nat) : Int) == 0 && (1 : Int) == 1 && (sIx items.size items.size hi - sIx items.size 0 lo) == items.size) = true then _ else _) _ _ s
  rw [if_neg hno, pick_gen]
  first
    | exact wpAny_bind (m := Builtin.Tuple.tupleExact _) (wpAny_newObj_type (wpAny_pure ⟨_, rfl, wpAny_pure h⟩) htake)
    | exact wpAny_bind (m := Builtin.Tuple.tupleExact _) (wpAny_newObj_type (wpAny_bind (wpAny_pure (wpAny_pure ⟨_, rfl, wpAny_pure h⟩))) htake)
    | exact wpAny_bind (wpAny_bind (m := Builtin.Tuple.tupleExact _) (wpAny_newObj_type (wpAny_pure (wpAny_pure ⟨_, rfl, wpAny_pure h⟩)) htake))
    | exact wpAny_bind (wpAny_bind (m := Builtin.Tuple.tupleExact _) (wpAny_newObj_type (wpAny_pure ⟨_, rfl, wpAny_pure h⟩) htake))
end
end HT

namespace L2
open PySem PySem.Spec PyProof.Rows

/-! ### the parts of a slice -/
abbrev TO := St → Hp → (Option Int → Hp → Prop) → Prop
/-- a slice's part (left out, or an int) -/
def PO (X : Cx) (e : Option Expr) (t : TO) : Prop :=
  ∀ (pins : List (Addr × Obj)) (s : Shared) (σ : St) (H : Hp) (Q : Option Int → Hp → Prop), Inv X pins σ H s → t σ H Q →
    wpAny (model X.prog X.w) X.A (evalPart e X.env) (fun u s' => ∃ o H', Inv X pins σ H' s' ∧ IsPart u o ∧ Q o H') X.xe s
def tNoPart : TO := fun _ H Q => Q none H
def tPart (t : TE) : TO := fun σ H Q => t σ H fun x H1 => ∃ i, x = .int i ∧ Q (some i) H1

theorem intsAre_of {ns : List Int} : ∀ {us : List Value}, Vals (ns.map V.int) us → IntsAre us ns := by
  induction ns with
  | nil => intro us r; rw [List.map_nil] at r; cases r; exact .nil
  | cons n ns ih =>
    intro us r
    rw [List.map_cons] at r
    cases r with
    | cons r1 r2 =>
      obtain ⟨t, e⟩ := r1
      subst e
      exact .cons n t (ih r2)

section
variable {X : Cx} {e : Expr} {te : TE} {lo hi : Option Expr} {tl th : TO} {pos p2 : Pos}

theorem po_none : PO X none tNoPart := by
  intro pins s σ H Q I h
  rw [evalPart_none]
  exact wpAny_pure ⟨none, H, I, .none, h⟩
theorem po_some (h : PE X e te) : PO X (some e) (tPart te) := by
  intro pins s σ H Q I hw
  rw [evalPart_some]
  refine thn (h pins s σ H _ I hw) fun u s1 ⟨x, H1, I1, r1, q1⟩ => ?_
  obtain ⟨i, rfl, q⟩ := q1
  obtain ⟨t, rfl⟩ := r1
  exact ⟨some i, H1, I1, .int i t, q⟩

/-- what a slice of a value is, by values: the slice object stands at sl -/
def SlR (X : Cx) (r : V → Option Int → Option Int → Hp → VK → Prop) : Prop :=
  ∀ (pins : List (Addr × Obj)) (s : Shared) (σ : St) (H : Hp) (x : V) (v vl vu : Value) (lo hi : Option Int) (sl : Addr) (Q : VK), Inv X pins σ H s → RelV x v → s.heap.IsSliceOf sl vl vu .none → IsPart vl lo → IsPart vu hi → r x lo hi H Q →
    ∃ T id, typeLookup (.type T) "__getitem__" = pure (some (.builtin id)) ∧ s.TypeIs v T ∧ wpAny (model X.prog X.w) X.A (getItem v (.ref sl)) (EP X pins σ Q) X.xe s
theorem SlR.or {r r' : V → Option Int → Option Int → Hp → VK → Prop} (h : SlR X r) (h' : SlR X r') : SlR X (fun x lo hi H Q => r x lo hi H Q ∨ r' x lo hi H Q) := by
  intro pins s σ H x v vl vu lo hi sl Q I rx hs pl pu q
  rcases q with q | q
  · exact h pins s σ H x v vl vu lo hi sl Q I rx hs pl pu q
  · exact h' pins s σ H x v vl vu lo hi sl Q I rx hs pl pu q
def tSl (r : V → Option Int → Option Int → Hp → VK → Prop) (te : TE) (tl th : TO) : TE := fun σ H Q => te σ H fun x H1 => tl σ H1 fun l H2 => th σ H2 fun u H3 => r x l u H3 Q
/-- a[lo:hi], any a -/
theorem pe_slice {r : V → Option Int → Option Int → Hp → VK → Prop} (hr : SlR X r) (he : PE X e te) (hl : PO X lo tl) (hu : PO X hi th) : PE X (.Subscript e (.Slice lo hi none p2) pos) (tSl r te tl th) := by
  intro pins s σ H Q I h
  refine Subscript_ (thn (he pins s σ H _ I h) fun v s1 ⟨x, H1, I1, r1, q1⟩ => ?_)
  refine wpAny_Slice (thn (hl pins s1 σ H1 _ I1 q1) fun vl s2 ⟨l, H2, I2, pl, q2⟩ => thn (hu pins s2 σ H2 _ I2 q2) fun vu s3 ⟨u, H3, I3, pu, q3⟩ => ?_)
  rw [evalPart_none]
  refine wpAny_pure ?_
  have I4 : Inv X pins σ H3 { s3 with heap := s3.heap.push { cls := .type "slice", data := .fields #[vl, vu, .none] } } := I3.kept (t' := s3.toks) fun b ob q => Heap.get?_push_of_some _ q
  obtain ⟨T, id, hT, ht, hg⟩ := hr pins { s3 with heap := s3.heap.push { cls := .type "slice", data := .fields #[vl, vu, .none] } } σ H3 x v vl vu l u s3.heap.objs.size Q I4 r1 (Heap.IsSliceOf.new ..) pl pu q3
  show wpAny (model X.prog X.w) X.A (subscriptTail e (.Slice lo hi none p2) v (.ref s3.heap.objs.size)) (EP X pins σ Q) X.xe { s3 with heap := s3.heap.push { cls := .type "slice", data := .fields #[vl, vu, .none] } }
  exact tail_any (ops := [.ref s3.heap.objs.size, v]) ht hT hg (by with_unfolding_all rfl)

/-- the items of xs[lo:hi] -/
def cutV (xs : List V) (lo hi : Option Int) : List V := (xs.drop (HT.sIx xs.length 0 lo)).take (HT.sIx xs.length xs.length hi - HT.sIx xs.length 0 lo)
theorem cutV_length (xs : List V) (lo hi : Option Int) : (cutV xs lo hi).length ≤ xs.length := by
  unfold cutV
  rw [List.length_take, List.length_drop]
  omega
/-- t[lo:hi], not the whole of it (the whole would be t itself) -/
def rSlT (K : PySem.W.Frag) : V → Option Int → Option Int → Hp → VK → Prop := fun x lo hi H Q => ∃ a xs, x = .ref a ∧ SqT K H a xs ∧
  ¬ (HT.sIx xs.length 0 lo = 0 ∧ HT.sIx xs.length xs.length hi = xs.length) ∧ ∀ p, H p = none → Q (.ref p) (upd H p (.tup (cutV xs lo hi)))
theorem sl_tup : SlR X (rSlT X.K) := by
  intro pins s σ H x v vl vu lo hi sl Q I rx hs pl pu h
  obtain ⟨a, xs, rfl, hx, hw, q⟩ := h
  cases rx
  obtain ⟨its, r, ht, hz⟩ := I.tuple hx
  have hlen : its.toArray.size = xs.length := by rw [List.size_toArray]; exact r.length.symm
  refine ⟨"tuple", _, PyProof.Rows.slot_tuple_getitem.lookup, ht.typeIs, ?_⟩
  refine HT.getItem_tuple_cut ht hs pl pu (by rw [hlen]; exact hw) ?_ (by rw [hlen]; exact hz)
  rw [hlen]
  refine ⟨.ref s.heap.objs.size, _, I.laid (t' := s.toks) (o := .tup (cutV xs lo hi)) (fun b ob q => Heap.get?_push_of_some _ q) (Nat.le_refl _) ?_, rfl, q _ (I.hok.fresh (Nat.le_refl _))⟩
  exact ⟨Nat.le_trans (cutV_length xs lo hi) hz, _, (r.drop (HT.sIx xs.length 0 lo)).take (HT.sIx xs.length xs.length hi - HT.sIx xs.length 0 lo), IsTup.new _ _⟩

/-! ### t < u, t + u -/
def rLtT (K : PySem.W.Frag) : R2 := fun x y H Q => ∃ a b ns ms, x = .ref a ∧ y = .ref b ∧ SqT K H a (ns.map V.int) ∧ SqT K H b (ms.map V.int) ∧ Q (.bl (HT.lexLt ns ms)) H
theorem op_ltT (hu : X.A.units < cLine) : OpR X (compareOp .Lt) (rLtT X.K) := by
  intro pins s σ H x y v u Q I rx ry h
  obtain ⟨a, b, ns, ms, rfl, rfl, ha, hb, q⟩ := h
  cases rx
  cases ry
  obtain ⟨its, r1, p1, _⟩ := I.tuple ha
  obtain ⟨its2, r2, p2, _⟩ := I.tuple hb
  have i1 : IntsAre its.toArray.toList ns := intsAre_of r1
  have i2 : IntsAre its2.toArray.toList ms := intsAre_of r2
  exact HT.lt_tupInts p1 p2 i1 i2 hu ⟨.bl (HT.lexLt ns ms), H, I, rfl, q⟩
/-- t + u, t not empty: u empty gives t itself -/
def rCatT (K : PySem.W.Frag) : R2 := fun x y H Q => ∃ a b xs ys, x = .ref a ∧ y = .ref b ∧ SqT K H a xs ∧ SqT K H b ys ∧ xs ≠ [] ∧ xs.length + ys.length ≤ sizeLine ∧
  (ys = [] → Q (.ref a) H) ∧ (ys ≠ [] → ∀ p, H p = none → Q (.ref p) (upd H p (.tup (xs ++ ys))))
theorem Vals.nil_iff {xs : List V} {us : List Value} (r : Vals xs us) : us = [] ↔ xs = [] := by
  cases r with
  | nil => simp
  | cons _ _ => simp
theorem op_catT : OpR X (binaryOp .Add) (rCatT X.K) := by
  intro pins s σ H x y v u Q I rx ry h
  obtain ⟨a, b, xs, ys, rfl, rfl, ha, hb, hx, hz, q1, q2⟩ := h
  cases rx
  cases ry
  obtain ⟨its, r1, p1, _⟩ := I.tuple ha
  obtain ⟨its2, r2, p2, _⟩ := I.tuple hb
  refine HT.cat_tup p1 p2 (fun z => hx (r1.nil_iff.mp z)) (fun z => ⟨.ref a, H, I, rfl, q1 (r2.nil_iff.mp z)⟩) (fun z => ?_) (by rw [← r1.length, ← r2.length]; exact hz)
  refine ⟨.ref s.heap.objs.size, _, I.laid (t' := s.toks) (o := .tup (xs ++ ys)) (fun b ob q => Heap.get?_push_of_some _ q) (Nat.le_refl _) ?_, rfl, q2 (fun w => z (r2.nil_iff.mpr w)) _ (I.hok.fresh (Nat.le_refl _))⟩
  exact ⟨by rw [List.length_append]; exact hz, _, r1.append r2, IsTup.new _ _⟩
/-- tuple(t) -/
theorem call_tupleT : CallR X (.type "tuple") (fun xs H Q => ∃ a ys, xs = [.ref a] ∧ SqT X.K H a ys ∧ Q (.ref a) H) := by
  intro pins s σ H xs us Q I r h
  obtain ⟨a, ys, rfl, ha, q⟩ := h
  obtain ⟨u, rfl, ru⟩ := vals1 r
  cases ru
  obtain ⟨its, _, p1, _⟩ := I.tuple ha
  exact call_tuple_same (items := its.toArray) p1 ⟨.ref a, H, I, rfl, q⟩
end
end L2

namespace L2
open PySem PySem.Spec PyProof.Rows

/-! ### places -/
/-- the place that an index of any sign means -/
def ixN (n : Nat) (i : Int) : Option Nat := if 0 ≤ i then (if i < n then some i.toNat else none) else if -(n : Int) ≤ i then some (i + n).toNat else none
def atI {α : Type} (xs : List α) (i : Int) : Option α := (ixN xs.length i).bind fun j => xs[j]?
theorem ixN_seq {n : Nat} {i : Int} {j : Nat} (h : ixN n i = some j) : seqIndex? i n = some j ∧ j < n ∧ -(n : Int) ≤ i ∧ i < n := by
  unfold ixN at h
  by_cases h0 : 0 ≤ i
  · rw [if_pos h0] at h
    by_cases h1 : i < n
    · rw [if_pos h1] at h
      have e : i.toNat = j := Option.some.inj h
      exact ⟨by rw [seqIndex_of h0 h1, e], by omega, by omega, h1⟩
    · rw [if_neg h1] at h; cases h
  · rw [if_neg h0] at h
    by_cases h1 : -(n : Int) ≤ i
    · rw [if_pos h1] at h
      have e : (i + n).toNat = j := Option.some.inj h
      exact ⟨by rw [seqIndex_neg (by omega) h1, e], by omega, h1, by omega⟩
    · rw [if_neg h1] at h; cases h
theorem atI_get {α : Type} {xs : List α} {i : Int} {v : α} (h : atI xs i = some v) : ∃ j, seqIndex? i xs.length = some j ∧ xs[j]? = some v ∧ j < xs.length ∧ -(xs.length : Int) ≤ i ∧ i < xs.length := by
  unfold atI at h
  cases e : ixN xs.length i with
  | none => rw [e] at h; cases h
  | some j =>
    rw [e] at h
    obtain ⟨h1, h2, h3, h4⟩ := ixN_seq e
    exact ⟨j, h1, h, h2, h3, h4⟩
theorem atI_nat {α : Type} {xs : List α} {j : Nat} {v : α} (h : xs[j]? = some v) : atI xs (j : Int) = some v := by
  have hj : j < xs.length := (List.getElem?_eq_some_iff.mp h).1
  have e : ixN xs.length (j : Int) = some j := by
    unfold ixN
    rw [if_pos (by omega), if_pos (by omega)]; simp
  unfold atI; rw [e]; exact h
theorem atI_last {α : Type} (xs : List α) (v : α) : atI (xs ++ [v]) (-1) = some v := by
  have hl : (xs ++ [v]).length = xs.length + 1 := by simp
  have e : ixN (xs ++ [v]).length (-1) = some xs.length := by
    unfold ixN
    rw [hl, if_neg (by decide), if_pos (by omega)]
    congr 1
    omega
  unfold atI
  rw [e]
  show (xs ++ [v])[xs.length]? = some v
  simp

/-! ### what may be subscripted -/
/-- what stands as an index of a plain subscript -/
def PlainIx (b : Expr) : Prop := ∀ o i, subscripted b false o i = operate [o, i] (getItem o i)
/-- a subscript by values -/
def IxR (X : Cx) (r : R2) : Prop :=
  ∀ (value slice : Expr) (pins : List (Addr × Obj)) (s : Shared) (σ : St) (H : Hp) (x y : V) (v u : Value) (Q : VK), Inv X pins σ H s → RelV x v → RelV y u → r x y H Q →
    subscripted slice false v u = operate [v, u] (getItem v u) → wpAny (model X.prog X.w) X.A (subscriptTail value slice v u) (EP X pins σ Q) X.xe s
/-- a call of a builtin's method by values: the receiver, the arguments -/
def MtR (X : Cx) (id : String) (r : V → List V → Hp → VK → Prop) : Prop :=
  ∀ (pins : List (Addr × Obj)) (s : Shared) (σ : St) (H : Hp) (x : V) (xs : List V) (v : Value) (us : List Value) (Q : VK), Inv X pins σ H s → RelV x v → Vals xs us → r x xs H Q →
    wpAny (model X.prog X.w) X.A (call (.builtin id) (v :: us)) (EP X pins σ Q) X.xe s
section
variable {X : Cx} {a b : Expr} {ta tb : TE} {pos : Pos}
theorem IxR.or {r r' : R2} (h : IxR X r) (h' : IxR X r') : IxR X (fun x y H Q => r x y H Q ∨ r' x y H Q) := by
  intro value slice pins s σ H x y v u Q I rx ry q hs
  rcases q with q | q
  · exact h value slice pins s σ H x y v u Q I rx ry q hs
  · exact h' value slice pins s σ H x y v u Q I rx ry q hs
theorem MtR.or {id : String} {r r' : V → List V → Hp → VK → Prop} (h : MtR X id r) (h' : MtR X id r') : MtR X id (fun x xs H Q => r x xs H Q ∨ r' x xs H Q) := by
  intro pins s σ H x xs v us Q I rx rs q
  rcases q with q | q
  · exact h pins s σ H x xs v us Q I rx rs q
  · exact h' pins s σ H x xs v us Q I rx rs q
/-- a[b] -/
theorem pe_ix {r : R2} (hr : IxR X r) (ha : PE X a ta) (hb : PE X b tb) (hs : PlainIx b) : PE X (.Subscript a b pos) (tOp r ta tb) := by
  intro pins s σ H Q I h
  exact Subscript_ (binT ha hb I h fun v u s2 x y H2 I2 rx ry q => hr a b pins s2 σ H2 x y v u Q I2 rx ry q (hs _ _))

def rIxL (K : PySem.W.Frag) : R2 := fun x y H Q => ∃ p xs i v, x = .ref p ∧ y = .int i ∧ SqL K H p xs ∧ atI xs i = some v ∧ Q v H
def rIxT (K : PySem.W.Frag) : R2 := fun x y H Q => ∃ p xs i v, x = .ref p ∧ y = .int i ∧ SqT K H p xs ∧ atI xs i = some v ∧ Q v H
def rIxS : R2 := fun x y H Q => ∃ z i c, x = .str z ∧ y = .int i ∧ z.length ≤ sizeLine ∧ atI z.cps.toList i = some c ∧ Q (.str ⟨#[c]⟩) H
theorem ix_list : IxR X (rIxL X.K) := by
  intro value slice pins s σ H x y v u Q I rx ry h hs
  obtain ⟨p, xs, i, z, rfl, rfl, hq, he, q⟩ := h
  cases rx
  obtain ⟨t, rfl⟩ := ry
  obtain ⟨its, r, pl, hz⟩ := I.list hq
  obtain ⟨j, h1, h2, h3, h4, h5⟩ := atI_get he
  obtain ⟨w, ew, rw'⟩ := r.get h2
  have hl := r.length
  have hn := line63
  have fin : EP X pins σ Q w s := ⟨z, H, I, rw', q⟩
  by_cases h0 : 0 ≤ i
  · have hj : i.toNat = j := by
      rw [seqIndex_of h0 h5] at h1
      exact Option.some.inj h1
    exact item_listR pl.isList h0 (by omega) (by rw [hj]; simpa using ew) fin hs
  · have hj : (i + (its.toArray.size : Int)).toNat = j := by
      rw [seqIndex_neg (by omega) h4] at h1
      rw [List.size_toArray, ← hl]
      exact Option.some.inj h1
    exact subscriptTail_builtinR (x := w) pl.isList.typeIs slot_list_getitem.lookup
      (wpAny_getItem_list_neg (Q := fun r s' => r = w ∧ EP X pins σ Q r s') pl.isList (by omega) (by rw [List.size_toArray] <;> omega) (by omega) (by rw [hj]; simpa using ew) ⟨rfl, fin⟩) hs
theorem ix_tup : IxR X (rIxT X.K) := by
  intro value slice pins s σ H x y v u Q I rx ry h hs
  obtain ⟨p, xs, i, z, rfl, rfl, hq, he, q⟩ := h
  cases rx
  obtain ⟨t, rfl⟩ := ry
  obtain ⟨its, r, pl, hz⟩ := I.tuple hq
  obtain ⟨j, h1, h2, h3, h4, h5⟩ := atI_get he
  obtain ⟨w, ew, rw'⟩ := r.get h2
  have hl := r.length
  have hn := line63
  have fin : EP X pins σ Q w s := ⟨z, H, I, rw', q⟩
  exact subscriptTail_builtinR (x := w) pl.typeIs slot_tuple_getitem.lookup
    (getItem_tuple (j := j) (Q := fun r s' => r = w ∧ EP X pins σ Q r s') pl (by omega) (by omega) (by rw [List.size_toArray, ← hl]; exact h1) (by simpa using ew) ⟨rfl, fin⟩) hs
theorem ix_str : IxR X rIxS := by
  intro value slice pins s σ H x y v u Q I rx ry h hs
  obtain ⟨z, i, c, rfl, rfl, hz, he, q⟩ := h
  obtain ⟨t, rfl⟩ := rx
  obtain ⟨t', rfl⟩ := ry
  obtain ⟨j, h1, h2, h3, h4, h5⟩ := atI_get he
  have hl : z.cps.toList.length = z.length := by simp [Str.length]
  rw [hl] at h1 h4 h5
  have hn := line63
  exact tail_any (typeIs_str s z t) slot_str_getitem.lookup (getItem_str (c := c) (by
    have e1 : decide (i < -(2 ^ 63 : Int)) = false := decide_eq_false (by omega)
    have e2 : decide (i ≥ 2 ^ 63) = false := decide_eq_false (by omega)
    rw [e1, e2, Bool.or_false]) (by rw [h1]; simpa using h2) ⟨.str ⟨#[c]⟩, H, I.tok _, ⟨_, rfl⟩, q⟩) hs
/-- list, tuple or str -/
def rIx (K : PySem.W.Frag) : R2 := fun x y H Q => rIxL K x y H Q ∨ rIxT K x y H Q ∨ rIxS x y H Q
theorem ix_seq : IxR X (rIx X.K) := ix_list.or (ix_tup.or ix_str)

/-! ### xs[i] = v, any sign -/
/-- the list's object behind a store -/
theorem mapSeq_set (its : List Value) (n j : Nat) (u : Value) : Obj.mapSeq (·.setIfInBounds j u) { cls := .type "list", data := .seq its.toArray n } = { cls := .type "list", data := .seq (its.set j u).toArray n } := by
  simp [Obj.mapSeq]
theorem Inv.lst {pins : List (Addr × Obj)} {σ : St} {H : Hp} {s : Shared} {p : Addr} {xs : List V} (I : Inv X pins σ H s) (h : H p = some (.lst xs)) :
    ∃ (its : List Value) (n : Nat), Vals xs its ∧ s.heap.get? p = some { cls := .type "list", data := .seq its.toArray n } ∧ xs.length ≤ sizeLine := by
  obtain ⟨z, its, n, r, e⟩ := I.hok p _ h
  exact ⟨its, n, r, e, z⟩
/-- the list at p is written by an update of its object -/
theorem Inv.lstUpd {pins : List (Addr × Obj)} {σ : St} {H : Hp} {s : Shared} {p : Addr} {xs ys : List V} {its its' : List Value} {n n' : Nat} {f : Obj → Obj} (I : Inv X pins σ H s) (h : H p = some (.lst xs))
    (ho : s.heap.get? p = some { cls := .type "list", data := .seq its.toArray n }) (hf : f { cls := .type "list", data := .seq its.toArray n } = { cls := .type "list", data := .seq its'.toArray n' }) (r : Vals ys its') (hz : ys.length ≤ sizeLine) (t : Nat) :
    Inv X pins σ (upd H p (.lst ys)) { s with heap := s.heap.update p f, toks := t } := by
  have e : (s.heap.update p f).get? p = some { cls := .type "list", data := .seq its'.toArray n' } := by
    rw [Heap.get?_update_self f ho (by rw [hf] <;> rfl), hf]
  refine I.write (x := p) (e := p) (by rw [h]; trivial) (.inl rfl) (fun b u hb q => (Heap.get?_update_other _ _ (Ne.symm hb)).trans q) ⟨_, e⟩ ?_
  exact ⟨hz, its', n', r, e⟩
def rSetL : V → V → V → Hp → (Hp → Prop) → Prop := fun o i v H Q => ∃ p xs k j, o = .ref p ∧ i = .int k ∧ H p = some (.lst xs) ∧ ixN xs.length k = some j ∧ Q (upd H p (.lst (xs.set j v)))
theorem set_list : PSet X rSetL := by
  intro pins s σ H o i v ov iv u Q I ro ri rv h
  obtain ⟨p, xs, k, j, rfl, rfl, hp, hj, q⟩ := h
  cases ro
  obtain ⟨t, rfl⟩ := ri
  obtain ⟨its, n, r, ho, hz⟩ := I.lst hp
  obtain ⟨h1, h2, h3, h4⟩ := ixN_seq hj
  have hl := r.length
  have hn := line63
  have I' : Inv X pins σ (upd H p (.lst (xs.set j v))) { s with heap := s.heap.update p (Obj.mapSeq (·.setIfInBounds j u)) } :=
    I.lstUpd hp ho (mapSeq_set its n j u) (r.set rv j) (by rw [List.length_set]; exact hz) s.toks
  by_cases h0 : 0 ≤ k
  · have hk : k.toNat = j := by
      rw [seqIndex_of h0 h4] at h1
      exact Option.some.inj h1
    exact PySem.W.ki_setAt ho h0 (by omega) (by rw [List.size_toArray, ← hl]; exact h4) (by rw [hk]; exact ⟨_, I', q⟩)
  · have hk : (k + (its.toArray.size : Int)).toNat = j := by
      rw [seqIndex_neg (by omega) h3] at h1
      rw [List.size_toArray, ← hl]
      exact Option.some.inj h1
    exact PySem.W.ki_setBack ho (by omega) (by rw [List.size_toArray, ← hl]; exact h3) (by omega) (by rw [hk]; exact ⟨_, I', q⟩)

/-! ### slices -/
theorem slice_bounds (lo hi : Option Int) (n : Nat) : (sliceBounds lo hi none n).1 = ((HT.sIx n 0 lo : Nat) : Int) ∧ (sliceBounds lo hi none n).2.1 = ((HT.sIx n n hi : Nat) : Int) ∧ (sliceBounds lo hi none n).2.2 = 1 := by
  refine ⟨?_, ?_, rfl⟩
  · cases lo with
    | none => simp [sliceBounds, HT.sIx]
    | some i =>
      simp only [sliceBounds, HT.sIx, Option.getD_none, show (1 : Int) > 0 by decide, if_true]
      by_cases h : i < 0
      · simp only [h, if_true] <;> omega
      · simp only [h, if_false] <;> omega
  · cases hi with
    | none => simp [sliceBounds, HT.sIx]
    | some i =>
      simp only [sliceBounds, HT.sIx, Option.getD_none, show (1 : Int) > 0 by decide, if_true]
      by_cases h : i < 0
      · simp only [h, if_true] <;> omega
      · simp only [h, if_false] <;> omega
theorem slicePick_cut (its : List Value) (lo hi : Option Int) : slicePick its.toArray lo hi none = ((its.drop (HT.sIx its.length 0 lo)).take (HT.sIx its.length its.length hi - HT.sIx its.length 0 lo)).toArray := by
  obtain ⟨h1, h2, h3⟩ := slice_bounds lo hi its.toArray.size
  unfold slicePick
  rw [h1, h2, h3]
  simp only [sliceRange_one, pick_run, List.size_toArray] <;> rfl
/-- xs[lo:hi] of a list: a new list -/
def rSlL (K : PySem.W.Frag) : V → Option Int → Option Int → Hp → VK → Prop := fun x lo hi H Q => ∃ a xs, x = .ref a ∧ SqL K H a xs ∧ ∀ p, H p = none → Q (.ref p) (upd H p (.lst (cutV xs lo hi)))
theorem sl_list : SlR X (rSlL X.K) := by
  intro pins s σ H x v vl vu lo hi sl Q I rx hs pl pu h
  obtain ⟨a, xs, rfl, hx, q⟩ := h
  cases rx
  obtain ⟨its, r, ht, hz⟩ := I.list hx
  have hlen := r.length
  refine ⟨"list", _, slot_list_getitem.lookup, ht.isList.typeIs, ?_⟩
  refine wpAny_getItem_list_slice ht.isList hs pl pu .none (by simp) ?_ (by rw [List.size_toArray] <;> omega)
  rw [slicePick_cut, ← hlen]
  refine ⟨.ref s.heap.objs.size, _, I.laid (t' := s.toks) (o := .lst (cutV xs lo hi)) (fun b ob q => Heap.get?_push_of_some _ q) (Nat.le_refl _) ?_, rfl, q _ (I.hok.fresh (Nat.le_refl _))⟩
  exact ⟨Nat.le_trans (cutV_length xs lo hi) hz, _, 0, (r.drop (HT.sIx xs.length 0 lo)).take (HT.sIx xs.length xs.length hi - HT.sIx xs.length 0 lo), Heap.get?_push_size _ rfl⟩

/-! ### in, not in: flat items -/
def flatV : V → Bool
  | .non => true
  | .bl _ => true
  | .int _ => true
  | .str _ => true
  | _ => false
/-- == of flat values -/
def eqV : V → V → Bool
  | .non, .non => true
  | .bl a, .bl b => a == b
  | .bl a, .int b => (if a then 1 else 0) == b
  | .int a, .bl b => a == (if b then 1 else 0)
  | .int a, .int b => a == b
  | .str a, .str b => a == b
  | _, _ => false
theorem eqAt_V {A : Around} {s : Shared} {y x : V} {u v : Value} (ry : RelV y u) (rx : RelV x v) (fy : flatV y = true) (fx : flatV x = true) : SeqAt.EqAt A s u v (eqV y x) := by
  cases y with
  | non =>
    cases ry
    cases x with
    | non => cases rx; exact SeqAt.EqAt.same _
    | bl b => cases rx; exact SeqAt.EqAt.none_bool b
    | int b => obtain ⟨t, rfl⟩ := rx; exact SeqAt.EqAt.none_int b t
    | str b => obtain ⟨t, rfl⟩ := rx; exact SeqAt.EqAt.none_str b t
    | _ => exact absurd (show false = true from fx) Bool.false_ne_true
  | bl a =>
    cases ry
    cases x with
    | non => cases rx; exact SeqAt.EqAt.bool_none a
    | bl b => cases rx; exact SeqAt.EqAt.bool_bool a b
    | int b => obtain ⟨t, rfl⟩ := rx; exact SeqAt.EqAt.bool_int a b t
    | str b => obtain ⟨t, rfl⟩ := rx; exact SeqAt.EqAt.bool_str a b t
    | _ => exact absurd (show false = true from fx) Bool.false_ne_true
  | int a =>
    obtain ⟨t', rfl⟩ := ry
    cases x with
    | non => cases rx; exact SeqAt.EqAt.int_none a t'
    | bl b => cases rx; exact SeqAt.EqAt.int_bool a t' b
    | int b => obtain ⟨t, rfl⟩ := rx; exact SeqAt.EqAt.int_int a t' b t
    | str b => obtain ⟨t, rfl⟩ := rx; exact SeqAt.EqAt.int_str a t' b t
    | _ => exact absurd (show false = true from fx) Bool.false_ne_true
  | str a =>
    obtain ⟨t', rfl⟩ := ry
    cases x with
    | non => cases rx; exact SeqAt.EqAt.str_none a t'
    | bl b => cases rx; exact SeqAt.EqAt.str_bool a t' b
    | int b => obtain ⟨t, rfl⟩ := rx; exact SeqAt.EqAt.str_int a t' b t
    | str b => obtain ⟨t, rfl⟩ := rx; exact SeqAt.EqAt.str_str a t' b t
    | _ => exact absurd (show false = true from fx) Bool.false_ne_true
  | _ => exact absurd (show false = true from fy) Bool.false_ne_true
/-- the items' answers, read off the values (a value's own answer does not lean on its token) -/
def eqU (x : V) (u : Value) : Bool := match u with
  | .none => eqV .non x
  | .bool b => eqV (.bl b) x
  | .int i _ => eqV (.int i) x
  | .str z _ => eqV (.str z) x
  | _ => false
theorem eqU_of {x y : V} {u : Value} (r : RelV y u) (f : flatV y = true) : eqU x u = eqV y x := by
  cases y with
  | non => cases r; rfl
  | bl b => cases r; rfl
  | int i => obtain ⟨t, rfl⟩ := r; rfl
  | str z => obtain ⟨t, rfl⟩ := r; rfl
  | _ => exact absurd (show false = true from f) Bool.false_ne_true
theorem any_eqU {x : V} : ∀ {xs : List V} {us : List Value}, Vals xs us → xs.all flatV = true → us.any (eqU x) = xs.any fun y => eqV y x
  | _, _, .nil, _ => rfl
  | y :: xs, u :: us, .cons r t, f => by
    rw [List.all_cons, Bool.and_eq_true] at f
    rw [List.any_cons, List.any_cons, eqU_of r f.1, any_eqU t f.2]
theorem mem_eqAt {A : Around} {s : Shared} {x : V} {v : Value} (rx : RelV x v) (fx : flatV x = true) : ∀ {xs : List V} {us : List Value}, Vals xs us → xs.all flatV = true → ∀ u ∈ us, SeqAt.EqAt A s u v (eqU x u)
  | _, _, .nil, _ => fun u hu => by cases hu
  | y :: xs, u :: us, .cons r t, f => fun u' hu => by
    rw [List.all_cons, Bool.and_eq_true] at f
    rcases List.mem_cons.mp hu with rfl | hu
    · rw [eqU_of r f.1]; exact eqAt_V r rx f.1 fx
    · exact mem_eqAt rx fx t f.2 u' hu
def inV (x : V) (xs : List V) : Bool := xs.any fun y => eqV y x
/-- x in a list or tuple of flat items -/
def rIn (K : PySem.W.Frag) (neg : Bool) : R2 := fun x y H Q => ∃ p xs, y = .ref p ∧ (SqL K H p xs ∨ SqT K H p xs) ∧ flatV x = true ∧ xs.all flatV = true ∧ Q (.bl (if neg then !inV x xs else inV x xs)) H
theorem op_in_seq : OpR X (compareOp .In) (rIn X.K false) := by
  intro pins s σ H x y v u Q I rx ry h
  obtain ⟨p, xs, rfl, hq, fx, fs, q⟩ := h
  cases ry
  rcases hq with hq | hq
  · obtain ⟨its, r, pl, hz⟩ := I.list hq
    refine SeqAt.in_listAt (eqU x) pl.isList (fun w hw => mem_eqAt rx fx r fs w (by simpa using hw)) ⟨.bl _, H, I, rfl, ?_⟩
    rw [show its.toArray.any (eqU x) = its.any (eqU x) by simp, any_eqU r fs]
    exact q
  · obtain ⟨its, r, pl, hz⟩ := I.tuple hq
    refine SeqAt.in_tupleAt (eqU x) pl (fun w hw => mem_eqAt rx fx r fs w (by simpa using hw)) ⟨.bl _, H, I, rfl, ?_⟩
    rw [show its.toArray.any (eqU x) = its.any (eqU x) by simp, any_eqU r fs]
    exact q
theorem op_notIn_seq : OpR X (compareOp .NotIn) (rIn X.K true) := by
  intro pins s σ H x y v u Q I rx ry h
  obtain ⟨p, xs, rfl, hq, fx, fs, q⟩ := h
  cases ry
  rcases hq with hq | hq
  · obtain ⟨its, r, pl, hz⟩ := I.list hq
    refine SeqAt.notIn_listAt (eqU x) pl.isList (fun w hw => mem_eqAt rx fx r fs w (by simpa using hw)) ⟨.bl _, H, I, rfl, ?_⟩
    rw [show its.toArray.any (eqU x) = its.any (eqU x) by simp, any_eqU r fs]
    exact q
  · obtain ⟨its, r, pl, hz⟩ := I.tuple hq
    refine SeqAt.notIn_tupleAt (eqU x) pl (fun w hw => mem_eqAt rx fx r fs w (by simpa using hw)) ⟨.bl _, H, I, rfl, ?_⟩
    rw [show its.toArray.any (eqU x) = its.any (eqU x) by simp, any_eqU r fs]
    exact q
theorem op_notIn_str : OpR X (compareOp .NotIn) (fun x y H Q => ∃ i j, x = .str i ∧ y = .str j ∧ Q (.bl (!(!(Builtin.Str.occurrences j i 0 j.length 1).isEmpty))) H) := by
  intro pins s σ H x y v u Q I rx ry h
  obtain ⟨i, j, rfl, rfl, q⟩ := h
  obtain ⟨t, rfl⟩ := rx
  obtain ⟨t', rfl⟩ := ry
  exact notIn_str ⟨.bl _, H, I, rfl, q⟩

/-! ### len, list(x), tuple(x) of any list or tuple that is read -/
theorem call_len_seq : CallR X (.builtin "len") (fun xs H Q => ∃ p ys, xs = [.ref p] ∧ (SqL X.K H p ys ∨ SqT X.K H p ys) ∧ Q (.int ys.length) H) := by
  intro pins s σ H xs us Q I r h
  obtain ⟨p, ys, rfl, hq, q⟩ := h
  obtain ⟨u, rfl, rx⟩ := vals1 r
  cases rx
  have hn := line63
  rcases hq with hq | hq
  · obtain ⟨its, r', pl, hz⟩ := I.list hq
    have hlen := r'.length
    exact Calls.call_len_list pl.isList (by simp only [List.size_toArray] <;> omega) ⟨.int ys.length, H, I.tok _, ⟨s.toks + 1, by rw [List.size_toArray, hlen]⟩, q⟩
  · obtain ⟨its, r', pl, hz⟩ := I.tuple hq
    have hlen := r'.length
    exact len_tuple pl (by simp only [List.size_toArray] <;> omega) ⟨.int ys.length, H, I.tok _, ⟨s.toks + 1, by rw [List.size_toArray, hlen]⟩, q⟩
theorem call_len_str : CallR X (.builtin "len") (fun xs H Q => ∃ z, xs = [.str z] ∧ z.length ≤ sizeLine ∧ Q (.int z.length) H) := by
  intro pins s σ H xs us Q I r h
  obtain ⟨z, rfl, hz, q⟩ := h
  obtain ⟨u, rfl, t, rfl⟩ := vals1 r
  have hn := line63
  exact len_str (by omega) ⟨.int z.length, H, I.tok _, ⟨_, rfl⟩, q⟩
theorem CallR.or {f : Value} {r r' : List V → Hp → VK → Prop} (h : CallR X f r) (h' : CallR X f r') : CallR X f (fun xs H Q => r xs H Q ∨ r' xs H Q) := by
  intro pins s σ H xs us Q I rs q
  rcases q with q | q
  · exact h pins s σ H xs us Q I rs q
  · exact h' pins s σ H xs us Q I rs q
theorem call_list_of : CallR X (.type "list") (fun xs H Q => ∃ p ys, xs = [.ref p] ∧ (SqL X.K H p ys ∨ SqT X.K H p ys) ∧ ∀ l, H l = none → Q (.ref l) (upd H l (.lst ys))) := by
  intro pins s σ H xs us Q I r h
  obtain ⟨p, ys, rfl, hq, q⟩ := h
  obtain ⟨u, rfl, rx⟩ := vals1 r
  cases rx
  have fin : ∀ (its : List Value), Vals ys its → ys.length ≤ sizeLine → ∀ (h' : Heap) (c' : Nat), (∀ b o', s.heap.get? b = some o' → h'.get? b = some o') →
      h'.get? s.heap.objs.size = some { cls := .type "list", dict := none, data := .seq its.toArray c', slots := #[] } → EP X pins σ Q (.ref s.heap.objs.size) { s with heap := h' } := fun its r' hz h' c' kp e =>
    ⟨.ref s.heap.objs.size, _, I.laid (t' := s.toks) kp (Nat.le_refl _) (show ObjOk X.prog X.w _ h' _ (.lst ys) from ⟨hz, its, c', r', e⟩), rfl, q _ (I.hok.fresh (Nat.le_refl _))⟩
  rcases hq with hq | hq
  · obtain ⟨its, r', pl, hz⟩ := I.list hq
    have hlen := r'.length
    obtain ⟨o, ho, hc, n, hd⟩ := pl.isList
    exact call_list_seq p (.inl rfl) ho hc hd (fun h' c' kp e => fin its r' hz h' c' kp e) (by simp only [List.size_toArray] <;> omega)
  · obtain ⟨its, r', pl, hz⟩ := I.tuple hq
    have hlen := r'.length
    obtain ⟨o, ho, hc, n, hd⟩ := pl
    exact call_list_seq p (.inr rfl) ho hc hd (fun h' c' kp e => fin its r' hz h' c' kp e) (by simp only [List.size_toArray] <;> omega)
theorem call_tuple_of : CallR X (.type "tuple") (fun xs H Q => ∃ p ys, xs = [.ref p] ∧ ((SqL X.K H p ys ∧ ∀ l, H l = none → Q (.ref l) (upd H l (.tup ys))) ∨ (SqT X.K H p ys ∧ Q (.ref p) H))) := by
  intro pins s σ H xs us Q I r h
  obtain ⟨p, ys, rfl, h⟩ := h
  obtain ⟨u, rfl, rx⟩ := vals1 r
  cases rx
  rcases h with ⟨hq, q⟩ | ⟨hq, q⟩
  · obtain ⟨its, r', pl, hz⟩ := I.list hq
    have hlen := r'.length
    refine call_tuple_list pl.isList (fun h' kp => ?_) (by simp only [List.size_toArray] <;> omega)
    have I1 : Inv X pins σ H { s with heap := h' } := I.kept (t' := s.toks) kp
    have I2 : Inv X pins σ (upd H h'.objs.size (.tup ys)) { s with heap := h'.push { cls := .type "tuple", data := .seq its.toArray } } :=
      I1.laid (t' := s.toks) (fun b o e => Heap.get?_push_of_some _ e) (Nat.le_refl _) (show ObjOk X.prog X.w _ _ _ (.tup ys) from ⟨hz, its, r', IsTup.new _ _⟩)
    exact ⟨.ref h'.objs.size, _, I2, rfl, q _ (I1.hok.fresh (Nat.le_refl _))⟩
  · obtain ⟨its, r', pl, hz⟩ := I.tuple hq
    exact call_tuple_same pl ⟨.ref p, H, I, rfl, q⟩

/-! ### the call of a builtin's method: o.m(..) -/
/-- the value is of that builtin type -/
def tyV (K : PySem.W.Frag) (T : String) (x : V) (H : Hp) : Prop := match x with
  | .str _ => T = "str"
  | .int _ => T = "int"
  | .ref p => (T = "list" ∧ ∃ xs, SqL K H p xs) ∨ (T = "tuple" ∧ ∃ o, K.lookup p = some o ∧ o.cls = .type "tuple" ∧ o.dict = none) ∨
      (T = "dict" ∧ ((∃ kvs, H p = some (.dK kvs)) ∨ ∃ kvs, H p = some (.dT kvs))) ∨ (T = "set" ∧ ∃ S n, H p = some (.set S n))
  | _ => False
theorem tyV_is {pins : List (Addr × Obj)} {σ : St} {H : Hp} {s : Shared} {T : String} {x : V} {v : Value} (I : Inv X pins σ H s) (r : RelV x v) (ty : tyV X.K T x H) :
    s.TypeIs v T ∧ ∀ a, v = .ref a → ∃ ob, s.heap.get? a = some ob ∧ ob.dict = none := by
  cases x with
  | str z =>
    obtain ⟨t, rfl⟩ := r
    cases (show T = "str" from ty)
    exact ⟨typeIs_str s z t, fun _ e => nomatch e⟩
  | int i =>
    obtain ⟨t, rfl⟩ := r
    cases (show T = "int" from ty)
    exact ⟨typeIs_int s i t, fun _ e => nomatch e⟩
  | ref p =>
    cases r
    rcases ty with ⟨rfl, xs, hq⟩ | ⟨rfl, o, hk, hc, hd⟩ | ⟨rfl, hk⟩ | ⟨rfl, S, n, hk⟩
    · obtain ⟨its, _, pl, _⟩ := I.list hq
      refine ⟨pl.isList.typeIs, fun a e => ?_⟩
      cases e
      obtain ⟨o, n, e, c, hd, _⟩ := pl
      exact ⟨o, e, hd⟩
    · refine ⟨⟨o, I.kIn p o hk, hc⟩, fun a e => ?_⟩
      cases e
      exact ⟨o, I.kIn _ o hk, hd⟩
    · have z : ∃ o, s.heap.get? p = some o ∧ o.ExactDict := by
        rcases hk with ⟨kvs, hk⟩ | ⟨kvs, hk⟩
        · obtain ⟨_, _, _, _, o, _, _, e, ex, _⟩ := I.hok p _ hk
          exact ⟨o, e, ex⟩
        · obtain ⟨_, _, _, _, o, _, _, e, ex, _⟩ := I.hok p _ hk
          exact ⟨o, e, ex⟩
      obtain ⟨o, e, ex⟩ := z
      refine ⟨⟨o, e, ex.1⟩, fun a e2 => ?_⟩
      cases e2
      exact ⟨o, e, ex.2.1⟩
    · obtain ⟨o, _, _, _, e, ex, _⟩ := I.hok p _ hk
      refine ⟨⟨o, e, ex.1⟩, fun a e2 => ?_⟩
      cases e2
      exact ⟨o, e, ex.2.1⟩
  | _ => exact False.elim ty
def tBM0 (K : PySem.W.Frag) (T : String) (r : V → List V → Hp → VK → Prop) (to : TE) : TE := fun σ H Q => to σ H fun x H1 => tyV K T x H1 ∧ r x [] H1 Q
def tBM (K : PySem.W.Frag) (T : String) (r : V → List V → Hp → VK → Prop) (to : TE) (t : TA) : TE := fun σ H Q => to σ H fun x H1 => tyV K T x H1 ∧ t σ H1 fun xs H2 => r x xs H2 Q
variable {o e : Expr} {es : List Expr} {to : TE} {t : TA} {name : Str} {apos cpos : Pos} {T id : String} {r : V → List V → Hp → VK → Prop}
theorem pe_bm0 (pa : PlainAttrs T) (slot : Slot T name id) (hty : typeOf (.builtin id) = pure (.type "method_descriptor")) (hm : MtR X id r) (ho : PE X o to)
    (hbase : attributeBase o name X.env (eval o X.env) = eval o X.env := by rfl) (hline : (apos.endLine == cpos.line) = true := by rfl) : PE X (.Call (.Attribute o name apos) [] [] cpos) (tBM0 X.K T r to) := by
  intro pins s σ H Q I h
  refine wpAny_Call_method0_late hbase hline (thn (ho pins s σ H _ I h) fun v s1 ⟨x, H1, I1, r1, ty, q1⟩ => ?_)
  obtain ⟨h1, h2⟩ := tyV_is I1 r1 ty
  exact ⟨T, id, pa, slot, hty, h1, h2, Calls.callWith_builtin rfl (PySem.evalArgs_none (hm pins s1 σ H1 x [] v [] Q I1 r1 .nil q1))⟩
theorem pe_bm (pa : PlainAttrs T) (slot : Slot T name id) (hty : typeOf (.builtin id) = pure (.type "method_descriptor")) (hm : MtR X id r) (ho : PE X o to) (ha : PA X (e :: es) t)
    (hbase : attributeBase o name X.env (eval o X.env) = eval o X.env := by rfl)
    (hfew : ((backTo cpos (starEach (e :: es) X.env)).all (fun x => !x.1) && (backToKw cpos (keywordEach [] X.env)).all (fun x => x.1.isSome)
      && decide ((e :: es).length + ([] : List Keyword).length + (if ([] : List Keyword).isEmpty then 0 else 1) < 30)) = true := by rfl)
    (hline : (apos.endLine == cpos.line) = true := by rfl) (hs : starEach (e :: es) X.env = (false, eval e X.env) :: starEach es X.env := by rfl) (hplain : (backTo cpos (starEach es X.env)).any (·.1) = false := by rfl) :
    PE X (.Call (.Attribute o name apos) (e :: es) [] cpos) (tBM X.K T r to t) := by
  intro pins s σ H Q I h
  refine wpAny_Call_method_late hbase hfew hline rfl (thn (ho pins s σ H _ I h) fun v s1 ⟨x, H1, I1, r1, ty, q1⟩ => ?_)
  obtain ⟨h1, h2⟩ := tyV_is I1 r1 ty
  refine ⟨T, id, pa, slot, hty, h1, h2, ?_⟩
  have hA := ha cpos pins s1 σ H1 _ I1 q1
  rw [hs] at hA ⊢
  refine Calls.callWith_builtin (by show (false || (backTo cpos (starEach es X.env)).any (·.1)) = false; rw [hplain] <;> rfl) (Calls.evalArgs_plain ?_)
  exact thn hA fun us s2 ⟨vs, H2, I2, r2, q2⟩ => hm pins s2 σ H2 x vs v us Q I2 r1 r2 q2
/- xs.append(e), list.index on a module's tuple .. are MtR facts of 06m -/
end
end L2

namespace L2
open PySem PySem.Spec PyProof.Rows

def MtM (X : Cx) (id : String) (r : V → List V → Hp → VK → Prop) : Prop :=
  ∀ (pins : List (Addr × Obj)) (s : Shared) (σ : St) (H : Hp) (x : V) (xs : List V) (v : Value) (us : List Value) (Q : VK), Inv X pins σ H s → RelV x v → Vals xs us → r x xs H Q →
    wpAny (model X.prog X.w) X.A (call (.builtin id) (v :: us)) (EP X pins σ Q) X.xe s

/-! ### lists of values -/
theorem Vals.one : ∀ {x : V} {us : List Value}, Vals [x] us → ∃ u, us = [u] ∧ RelV x u
  | _, _, .cons r .nil => ⟨_, rfl, r⟩
theorem Vals.two : ∀ {x y : V} {us : List Value}, Vals [x, y] us → ∃ u v, us = [u, v] ∧ RelV x u ∧ RelV y v
  | _, _, _, .cons r (.cons q .nil) => ⟨_, _, rfl, r, q⟩
theorem Vals.zero : ∀ {us : List Value}, Vals [] us → us = []
  | _, .nil => rfl
theorem Vals.dropLast {xs : List V} {us : List Value} (h : Vals xs us) : Vals xs.dropLast us.dropLast := by
  induction h with
  | nil => exact .nil
  | cons r t ih =>
    cases t with
    | nil => exact .nil
    | cons q t' => exact .cons r ih
theorem Vals.eraseIdx : ∀ {xs : List V} {us : List Value} (i : Nat), Vals xs us → Vals (xs.eraseIdx i) (us.eraseIdx i)
  | _, _, _, .nil => .nil
  | _, _, 0, .cons _ t => t
  | _, _, i + 1, .cons r t => .cons r (Vals.eraseIdx i t)
theorem Vals.reverse {xs : List V} {us : List Value} (h : Vals xs us) : Vals xs.reverse us.reverse := by
  induction h with
  | nil => exact .nil
  | cons r t ih => rw [List.reverse_cons, List.reverse_cons]; exact Vals.append ih (.cons r .nil)
theorem Vals.rep {xs : List V} {us : List Value} (h : Vals xs us) : ∀ k : Nat, Vals (List.replicate k xs).flatten (List.replicate k us).flatten
  | 0 => .nil
  | k + 1 => by
    rw [List.replicate_succ, List.replicate_succ, List.flatten_cons, List.flatten_cons]
    exact Vals.append h (Vals.rep h k)
theorem erase_last {α : Type} (l : List α) : l.eraseIdx (l.length - 1) = l.dropLast := by
  induction l with
  | nil => rfl
  | cons a r ih =>
    cases r with
    | nil => rfl
    | cons b r =>
      have e : (a :: b :: r).length - 1 = ((b :: r).length - 1) + 1 := by
        have h1 : (a :: b :: r).length = r.length + 2 := rfl
        have h2 : (b :: r).length = r.length + 1 := rfl
        omega
      rw [e, List.eraseIdx_cons_succ, ih]
      all_goals rfl
theorem len_erase {α : Type} : ∀ (l : List α) (i : Nat), (l.eraseIdx i).length ≤ l.length
  | [], _ => Nat.le_refl _
  | _ :: _, 0 => Nat.le_succ _
  | _ :: r, i + 1 => Nat.succ_le_succ (len_erase r i)
theorem foldl_rep (its : List Value) : ∀ (k : Nat) (acc : List Value),
    List.foldl (fun x1 x2 => x1 ++ x2) acc.toArray (List.replicate k its.toArray) = (acc ++ (List.replicate k its).flatten).toArray
  | 0, acc => by simp
  | k + 1, acc => by
    have e : acc.toArray ++ its.toArray = (acc ++ its).toArray := by simp
    have e2 : (acc ++ its) ++ (List.replicate k its).flatten = acc ++ (List.replicate (k + 1) its).flatten := by
      rw [List.replicate_succ, List.flatten_cons, List.append_assoc]
    rw [← e2, ← foldl_rep its k (acc ++ its), ← e, List.replicate_succ, List.foldl_cons]

section
variable {X : Cx} {pins : List (Addr × Obj)} {σ : St} {H : Hp} {s : Shared} {l b : Addr} {xs ys zs : List V}

/-! ### the two steps: a tracked list is rewritten, a new list is laid -/
theorem Inv.lset {its its' : List Value} {n : Nat} {f : Array Value → Array Value} {t' : Nat} (I : Inv X pins σ H s) (hH : H l = some (.lst xs))
    (e : s.heap.get? l = some { cls := .type "list", data := .seq its.toArray n }) (hf : f its.toArray = its'.toArray) (hv : Vals ys its') (hz : ys.length ≤ sizeLine) :
    Inv X pins σ (upd H l (.lst ys)) { s with heap := s.heap.update l (Obj.mapSeq f), toks := t' } := by
  have q := PySem.IsL.update e f
  rw [hf] at q
  refine I.write (x := l) (e := l) (by rw [hH]; exact trivial) (.inl rfl) (fun b' u hb hu => (Heap.get?_update_other s.heap (Obj.mapSeq f) (Ne.symm hb)).trans hu) ⟨_, q⟩ ?_
  exact ⟨hz, its', _, hv, q⟩
theorem Inv.lnew {its : List Value} {t' : Nat} (I : Inv X pins σ H s) (hv : Vals ys its) (hz : ys.length ≤ sizeLine) :
    Inv X pins σ (upd H s.heap.objs.size (.lst ys)) { s with heap := s.heap.push { cls := .type "list", data := .seq its.toArray }, toks := t' } :=
  I.laid (fun _ _ q => Heap.get?_push_of_some _ q) (Nat.le_refl _) ⟨hz, its, 0, hv, Heap.get?_push_size _ rfl⟩
theorem Inv.fresh (I : Inv X pins σ H s) : H s.heap.objs.size = none := I.hok.fresh (Nat.le_refl _)
theorem Inv.lstM (I : Inv X pins σ H s) (hH : H l = some (.lst xs)) : xs.length ≤ sizeLine ∧ ∃ (its : List Value) (n : Nat), Vals xs its ∧ xs.length = its.length ∧ s.heap.get? l = some { cls := .type "list", data := .seq its.toArray n } := by
  obtain ⟨z, its, n, r, e⟩ := I.hok l _ hH
  exact ⟨z, its, n, r, r.length, e⟩

theorem notLongL {n : Nat} (h : n ≤ sizeLine) : Builtin.List.listTooLong n = false := by
  unfold Builtin.List.listTooLong
  exact decide_eq_false (by omega)
end

section
variable {X : Cx}

/-! ### methods -/
def rAppend : V → List V → Hp → VK → Prop := fun x vs H Q => ∃ l xs y, x = .ref l ∧ vs = [y] ∧ H l = some (.lst xs) ∧ xs.length < sizeLine ∧ Q .non (upd H l (.lst (xs ++ [y])))
theorem mt_append : MtM X "list.append" rAppend := by
  intro pins s σ H x vs v us Q I rx rv h
  obtain ⟨l, xs, y, rfl, rfl, hH, hz, q⟩ := h
  cases rx
  obtain ⟨u, rfl, ru⟩ := rv.one
  obtain ⟨z, its, n, r, hl, e⟩ := I.lstM hH
  refine call_meets F.slot_list_append ⟨_, e, rfl⟩ F.entry_list_append (F.args_list_append_2 _ _) (PySem.list_append l its.toArray n u (by rw [List.size_toArray]; omega)) ⟨e, ?_⟩
  refine ⟨.non, _, I.lset (its' := its ++ [u]) hH e (by simp) (r.append (.cons ru .nil)) ?_, rfl, q⟩
  rw [List.length_append, List.length_singleton]
  omega

def rExtend : V → List V → Hp → VK → Prop := fun x vs H Q => ∃ l b xs zs, x = .ref l ∧ vs = [.ref b] ∧ H l = some (.lst xs) ∧ H b = some (.lst zs) ∧ xs.length + zs.length ≤ sizeLine ∧ Q .non (upd H l (.lst (xs ++ zs)))
theorem mt_extend : MtM X "list.extend" rExtend := by
  intro pins s σ H x vs v us Q I rx rv h
  obtain ⟨l, b, xs, zs, rfl, rfl, hH, hB, hz, q⟩ := h
  cases rx
  obtain ⟨u, rfl, ru⟩ := rv.one
  cases ru
  obtain ⟨z, its, n, r, hl, e⟩ := I.lstM hH
  obtain ⟨z2, its2, n2, r2, hl2, e2⟩ := I.lstM hB
  have hsz : its.toArray.size + its2.toArray.size ≤ sizeLine := by rw [List.size_toArray, List.size_toArray]; omega
  have hlong : ¬ (!its.toArray.isEmpty && Builtin.List.listTooLong (its.toArray.size + its2.toArray.size)) = true := by
    rw [notLongL hsz, Bool.and_false]
    exact Bool.false_ne_true
  refine call_meets F.slot_list_extend ⟨_, e, rfl⟩ F.entry_list_extend (F.args_list_extend_2 _ _)
    (AutoSeq1.list_extend_list_list_0 l its.toArray n b its2.toArray n2 hlong (by rw [List.size_toArray]; omega) (by omega)) ⟨e, e2, ?_⟩
  refine ⟨.non, _, I.lset (its' := its ++ its2) hH e (by simp) (r.append r2) ?_, rfl, q⟩
  rw [List.length_append]
  omega

def rPop : V → List V → Hp → VK → Prop := fun x vs H Q => ∃ l xs y, x = .ref l ∧ vs = [] ∧ H l = some (.lst xs) ∧ xs[xs.length - 1]? = some y ∧ Q y (upd H l (.lst xs.dropLast))
theorem mt_pop : MtM X "list.pop" rPop := by
  intro pins s σ H x vs v us Q I rx rv h
  obtain ⟨l, xs, y, rfl, rfl, hH, hy, q⟩ := h
  cases rx
  have hus := rv.zero
  subst hus
  obtain ⟨z, its, n, r, hl, e⟩ := I.lstM hH
  obtain ⟨u, hu, ru⟩ := r.get hy
  have hy' : its.toArray[its.toArray.size - 1]? = some u := by
    show its.toArray[its.length - 1]? = some u
    rw [← Array.getElem?_toList, ← hl]
    exact hu
  refine call_meets F.slot_list_pop ⟨_, e, rfl⟩ F.entry_list_pop (F.args_list_pop_1 _) (MeetsSeq.list_pop_last l its.toArray n u hy' (by rw [List.size_toArray]; omega)) ⟨e, ?_⟩
  refine ⟨y, _, I.lset (its' := its.dropLast) hH e ?_ r.dropLast ?_, ru, q⟩
  · show its.toArray.eraseIdxIfInBounds (its.toArray.size - 1) = its.dropLast.toArray
    rw [List.size_toArray, List.eraseIdxIfInBounds_toArray, erase_last]
  · rw [List.length_dropLast]
    omega

def rPopAt : V → List V → Hp → VK → Prop := fun x vs H Q => ∃ l xs i k y, x = .ref l ∧ vs = [.int i] ∧ H l = some (.lst xs) ∧ -(2 ^ 63) ≤ i ∧ i < 2 ^ 63 ∧ seqIndex? i xs.length = some k ∧ xs[k]? = some y ∧ Q y (upd H l (.lst (xs.eraseIdx k)))
theorem mt_popAt : MtM X "list.pop" rPopAt := by
  intro pins s σ H x vs v us Q I rx rv h
  obtain ⟨l, xs, i, k, y, rfl, rfl, hH, h1, h2, hk, hy, q⟩ := h
  cases rx
  obtain ⟨u, rfl, ru⟩ := rv.one
  obtain ⟨t, rfl⟩ := ru
  obtain ⟨z, its, n, r, hl, e⟩ := I.lstM hH
  obtain ⟨w, hw, rw'⟩ := r.get hy
  refine call_meets F.slot_list_pop ⟨_, e, rfl⟩ F.entry_list_pop (F.args_list_pop_2 _ _)
    (MeetsSeq.list_pop_at l its.toArray n i t k w (fitsIndex_both h1 h2) (by rw [List.size_toArray, ← hl]; exact hk) (by rw [← Array.getElem?_toList]; exact hw) (by rw [List.size_toArray]; omega)) ⟨e, ?_⟩
  refine ⟨y, _, I.lset (its' := its.eraseIdx k) hH e ?_ (r.eraseIdx k) ?_, rw', q⟩
  · show its.toArray.eraseIdxIfInBounds k = (its.eraseIdx k).toArray
    rw [List.eraseIdxIfInBounds_toArray]
  · have := len_erase xs k
    omega

def rReverse : V → List V → Hp → VK → Prop := fun x vs H Q => ∃ l xs, x = .ref l ∧ vs = [] ∧ H l = some (.lst xs) ∧ Q .non (upd H l (.lst xs.reverse))
theorem mt_reverse : MtM X "list.reverse" rReverse := by
  intro pins s σ H x vs v us Q I rx rv h
  obtain ⟨l, xs, rfl, rfl, hH, q⟩ := h
  cases rx
  have hus := rv.zero
  subst hus
  obtain ⟨z, its, n, r, hl, e⟩ := I.lstM hH
  refine call_meets F.slot_list_reverse ⟨_, e, rfl⟩ F.entry_list_reverse (F.args_list_reverse_1 _) (AutoSeq1.list_reverse_list_0 l its.toArray n (by rw [List.size_toArray]; omega)) ⟨e, ?_⟩
  refine ⟨.non, _, I.lset (its' := its.reverse) hH e (by simp) r.reverse ?_, rfl, q⟩
  rw [List.length_reverse]
  omega

def rClear : V → List V → Hp → VK → Prop := fun x vs H Q => ∃ l xs, x = .ref l ∧ vs = [] ∧ H l = some (.lst xs) ∧ Q .non (upd H l (.lst []))
theorem mt_clear : MtM X "list.clear" rClear := by
  intro pins s σ H x vs v us Q I rx rv h
  obtain ⟨l, xs, rfl, rfl, hH, q⟩ := h
  cases rx
  have hus := rv.zero
  subst hus
  obtain ⟨z, its, n, r, hl, e⟩ := I.lstM hH
  refine call_meets F.slot_list_clear ⟨_, e, rfl⟩ F.entry_list_clear (F.args_list_clear_1 _) (AutoSeq1.list_clear_list_0 l its.toArray n (by rw [List.size_toArray]; omega)) ⟨e, ?_⟩
  exact ⟨.non, _, I.lset (its' := []) (ys := []) hH e rfl .nil (Nat.zero_le _), rfl, q⟩

/-! ### list + list, list += list, list * int -/
def rCat : R2 := fun x y H Q => ∃ l b xs zs, x = .ref l ∧ y = .ref b ∧ H l = some (.lst xs) ∧ H b = some (.lst zs) ∧ xs.length + zs.length ≤ sizeLine ∧ ∀ p, H p = none → Q (.ref p) (upd H p (.lst (xs ++ zs)))
theorem op_cat : OpR X (binaryOp .Add) rCat := by
  intro pins s σ H x y v u Q I rx ry h
  obtain ⟨l, b, xs, zs, rfl, rfl, hH, hB, hz, q⟩ := h
  cases rx
  cases ry
  obtain ⟨z, its, n, r, hl, e⟩ := I.lstM hH
  obtain ⟨z2, its2, n2, r2, hl2, e2⟩ := I.lstM hB
  refine PySem.P.add_list e e2 ?_ (by rw [List.size_toArray, List.size_toArray]; omega)
  have ea : its.toArray ++ its2.toArray = (its ++ its2).toArray := by simp
  rw [ea]
  exact ⟨.ref _, _, I.lnew (t' := s.toks) (r.append r2) (by rw [List.length_append]; omega), rfl, q _ I.fresh⟩
/-- a list times an int (a negative one is nothing) -/
def rRep : R2 := fun x y H Q => ∃ l k xs, x = .ref l ∧ y = .int k ∧ H l = some (.lst xs) ∧ -(2 ^ 63) ≤ k ∧ k < 2 ^ 63 ∧ xs.length * k.toNat ≤ sizeLine ∧
  ∀ p, H p = none → Q (.ref p) (upd H p (.lst (List.replicate k.toNat xs).flatten))
theorem len_rep {α : Type} (xs : List α) (k : Nat) : (List.replicate k xs).flatten.length = k * xs.length := by
  induction k with
  | zero => simp
  | succ k ih => rw [List.replicate_succ, List.flatten_cons, List.length_append, ih, Nat.succ_mul, Nat.add_comm]
theorem op_rep : OpR X (binaryOp .Mult) rRep := by
  intro pins s σ H x y v u Q I rx ry h
  obtain ⟨l, k, xs, rfl, rfl, hH, h1, h2, hz, q⟩ := h
  cases rx
  obtain ⟨t, rfl⟩ := ry
  obtain ⟨z, its, n, r, hl, e⟩ := I.lstM hH
  have hlen : its.toArray.size * k.toNat ≤ sizeLine := by rw [List.size_toArray, ← hl]; exact hz
  have hcap : ¬ its.toArray.size * k.toNat > (2 ^ 63 - 1) / 8 := by
    have : (sizeLine : Nat) ≤ (2 ^ 63 - 1) / 8 := by decide
    omega
  have hfit : ¬ (!Builtin.List.listFitsIndex k) = true := by
    rw [fitsIndex_both h1 h2]
    exact Bool.false_ne_true
  have hlong : ¬ Builtin.List.listTooLong (its.toArray.size * k.toNat) = true := by
    rw [notLongL hlen]
    exact Bool.false_ne_true
  have hnew : List.foldl (fun x1 x2 => x1 ++ x2) #[] (List.replicate (if its.toArray.isEmpty = true then 0 else k.toNat) its.toArray) = (List.replicate k.toNat its).flatten.toArray := by
    have f0 : ∀ m : Nat, List.foldl (fun x1 x2 => x1 ++ x2) #[] (List.replicate m its.toArray) = (List.replicate m its).flatten.toArray := fun m => by
      have := foldl_rep its m []
      rw [List.nil_append] at this
      exact this
    rw [f0]
    cases its with
    | nil => simp
    | cons a r' => rw [if_neg (by simp)]
  refine wpAny_binaryOp_repeat_ref (T := "list") (U := "int") (by decide) ⟨_, e, rfl⟩ (fun s' => typeIs_int s' k t) noFill_list_mul F.fills_int_mul F.slot_int_rmul repeat_list F.slot_int_index.lookup
    (call_meets F.slot_int_rmul (typeIs_int s k t) F.entry_int_rmul (F.args_int_rmul_2 _ _) (int___rmul___int_list k t l its.toArray n)
      ⟨e, rfl, ⟨_, e, rfl⟩, call_meets F.slot_list_mul ⟨_, e, rfl⟩ F.entry_list_mul (F.args_list_mul_2 _ _) (AutoListH.list___mul___list_int_3 l its.toArray n k t hfit hcap hlong) ⟨e, ?_⟩⟩)
  rw [hnew]
  exact ⟨.ref _, _, I.lnew (t' := s.toks) (r.rep k.toNat) (by rw [len_rep, Nat.mul_comm]; exact hz), rfl, q _ I.fresh⟩

/-! ### del xs[i] -/
theorem del_list {pins : List (Addr × Obj)} {s : Shared} {σ : St} {H : Hp} {l : Addr} {xs : List V} {i : Int} {t : Tok} {k : Nat} {Q : Unit → Shared → Prop} (I : Inv X pins σ H s) (hH : H l = some (.lst xs))
    (h1 : -(2 ^ 63) ≤ i) (h2 : i < 2 ^ 63) (hk : seqIndex? i xs.length = some k) (h : ∀ s', Inv X pins σ (upd H l (.lst (xs.eraseIdx k))) s' → Q () s') :
    wpAny (model X.prog X.w) X.A (delItem (.ref l) (.int i t)) Q X.xe s := by
  obtain ⟨z, its, n, r, hl, e⟩ := I.lstM hH
  refine PySem.P.delItem_list (k := k) e (fitsIndex_both h1 h2) (by rw [List.size_toArray, ← hl]; exact hk) (h _ ?_) (by rw [List.size_toArray]; omega)
  refine I.lset (its' := its.eraseIdx k) (t' := s.toks) hH e ?_ (r.eraseIdx k) ?_
  · show its.toArray.eraseIdxIfInBounds k = (its.eraseIdx k).toArray
    rw [List.eraseIdxIfInBounds_toArray]
  · have := len_erase xs k
    omega
end

/-! ### xs[a:b] = ys -/
section
variable {prog : Program} {w : World} {A : Around} {E : Value → Shared → Prop} {s : Shared}
theorem splice_eq (its its2 : List Value) (a c : Nat) : its.toArray.extract 0 a ++ its2.toArray ++ its.toArray.extract c its.toArray.size = (its.take a ++ its2 ++ its.drop c).toArray := by
  apply Array.toList_inj.mp
  first
    | (simp
       exact List.take_of_length_le (by simp))
    | simp [List.take_of_length_le]
    | simp
theorem bounds_run {a c n : Nat} (hac : a ≤ c) (hc : c ≤ n) : sliceBounds (some (a : Int)) (some (c : Int)) none n = ((a : Int), (c : Int), 1) := by
  simp only [sliceBounds, Option.getD_none]
  have h1 : ¬ ((a : Int) < 0) := by omega
  have h2 : ¬ ((c : Int) < 0) := by omega
  simp only [h1, h2, if_false, show (1 : Int) > 0 by decide, if_true]
  congr 1
  · omega
  · congr 1; omega
set_option maxRecDepth 100000 in
/-- list.__setitem__ with a slice of step one and another list -/
theorem setItem_slice {l b sl : Addr} {items new : Array Value} {n n2 : Nat} {vl vu : Value} {a c : Nat} {Q : Unit → Shared → Prop}
    (e : s.heap.get? l = some { cls := .type "list", data := .seq items n }) (e2 : s.heap.get? b = some { cls := .type "list", data := .seq new n2 }) (hne : l ≠ b)
    (hs : s.heap.IsSliceOf sl vl vu .none) (pl : IsPart vl (some (a : Int))) (pu : IsPart vu (some (c : Int))) (hac : a ≤ c) (hc : c ≤ items.size)
    (hsz : items.size + new.size ≤ sizeLine) (h : Q () { s with heap := s.heap.update l (Obj.mapSeq fun xs => xs.extract 0 a ++ new ++ xs.extract c xs.size) }) :
    wpAny (model prog w) A (setItem (.ref l) (.ref sl) (.ref b)) Q E s := by
  have hl : s.heap.IsList l items := PySem.IsL.isList e
  have hb : s.heap.IsList b new := PySem.IsL.isList e2
  obtain ⟨os, hos, hcs, hds⟩ := id hs
  have hTs : s.TypeIs (.ref sl) "slice" := ⟨os, hos, hcs⟩
  have hstep : ¬ ((rawPart none == rawInt 0) = true) := Bool.false_ne_true
  have hsame : Builtin.List.listSameRef (.ref l) (.ref b) = false := by
    unfold Builtin.List.listSameRef
    exact beq_eq_false_iff_ne.mpr hne
  have hmax : (max (a : Int) (c : Int)).toNat = c := by omega
  have hz' : ((fun xs : Array Value => xs.extract 0 a ++ new ++ xs.extract c xs.size) items).size ≤ sizeLine + 1 := by
    simp only [Array.size_append, Array.size_extract]
    omega
  unfold setItem
  try with_reducible refine wpAny_holding ?_
  first | refine wpAny_bind (wpAny_pure ?_) | skip
  refine wpAny_bind (wpAny_sequenceKey hl.typeIs (by decide) ?_)
  refine wpAny_bind (wpAny_callSpecial?_slot (name := Str.ofString "__setitem__") hl.typeIs slot_list_setitem
    (wpAny_call_entry slot_list_setitem hl.typeIs entry_list_setitem ?_ (args_list_setitem _ _ _)))
  show wpAny _ _ (Builtin.List.listSubscript? (.ref sl) >>= _) _ _ s
  refine wpAny_bind ?_
  unfold Builtin.List.listSubscript?
  refine wpAny_bind (wpAny_specialOf hTs slice_no_index ?_)
  simp only [Option.isNone_none, if_true]
  refine wpAny_pure ?_
  show wpAny _ _ (typeOf (.ref sl) >>= _) _ _ s
  refine wpAny_bind (wpAny_typeOf hTs ?_)
  first
    | rw [if_neg (by decide)]
    | refine PySem.W.KFB.if_not (by decide) ?_
  rw [listSliceParts_eq]
  refine wpAny_bind (wpAny_bind (wpAny_field hos hds (x := .none) rfl (wpAny_bind (wpAny_listPart .none ?_))))
  rw [if_neg hstep]
  refine wpAny_bind (wpAny_field hos hds (x := vl) rfl (wpAny_bind (wpAny_listPart pl ?_)))
  refine wpAny_bind (wpAny_field hos hds (x := vu) rfl (wpAny_bind (wpAny_listPart pu (wpAny_pure ?_))))
  first
    | simp only [hsame, Bool.false_eq_true, if_false]
    | refine PySem.W.KFB.if_not hsame ?_
    | (dsimp only
       rw [if_neg (by rw [hsame]; exact Bool.false_ne_true)])
  refine wpAny_bind (m := Builtin.List.listAllItems (.ref b) "must assign iterable to extended slice") ?_
  unfold Builtin.List.listAllItems
  refine wpAny_bind (wpAny_typeOf hb.typeIs ?_)
  first
    | refine PySem.W.KFB.if_so (by decide) ?_
    | rw [if_pos (by decide)]
    | simp only [beq_self_eq_true, Bool.true_or, if_true]
  unfold Builtin.List.listItems
  refine wpAny_bind (wpAny_seqItems e2 rfl (wpAny_pure ?_))
  refine wpAny_bind (wpAny_bind (wpAny_seqItems e rfl (wpAny_pure ?_)))
  refine wpAny_bind (wpAny_of_eq ((sliceIndices_raw (some (a : Int)) (some (c : Int)) none items.size (by simp)).trans (congrArg (pure : Int × Int × Int → Sem (Int × Int × Int)) (bounds_run hac hc))) ?_)
  show wpAny _ _ (if ((1 : Int) == 1) = true then _ else _) _ _ s
  rw [if_pos (by decide)]
  refine wpAny_bind (wpAny_rule ?_)
  first
    | simp only [notLongL hsz, Bool.false_eq_true, if_false]
    | refine PySem.W.KFB.if_not (notLongL hsz) ?_
  first | refine wpAny_bind (wpAny_pure ?_) | skip
  show wpAny _ _ (updateSeq l (fun xs => xs.extract 0 ((a : Int)).toNat ++ new ++ xs.extract (max (a : Int) (c : Int)).toNat xs.size) >>= _) _ _ s
  rw [hmax, Int.toNat_natCast]
  refine wpAny_bind (wpAny_updateSeq (hz := Nat.le_trans (Nat.le_add_right _ _) hsz) (_hz' := hz') e rfl ?_)
  refine wpAny_bind (wpAny_letGo ?_)
  first
    | exact wpAny_bind (wpAny_pure (wpAny_pure ⟨.none, rfl, wpAny_pure h⟩))
    | exact wpAny_pure ⟨.none, rfl, wpAny_pure h⟩
end

section
variable {X : Cx}
/-- xs[a:c] = ys of another list, at the value level: sl is the slice object that was just made -/
theorem set_slice {pins : List (Addr × Obj)} {s : Shared} {σ : St} {H : Hp} {l b sl : Addr} {xs ys : List V} {a c : Int} {vl vu : Value} {Q : Unit → Shared → Prop} (I : Inv X pins σ H s)
    (hH : H l = some (.lst xs)) (hB : H b = some (.lst ys)) (hne : l ≠ b) (hs : s.heap.IsSliceOf sl vl vu .none) (ra : RelV (.int a) vl) (rc : RelV (.int c) vu) (h0 : 0 ≤ a) (hac : a ≤ c) (hc : c ≤ xs.length)
    (hz : xs.length + ys.length ≤ sizeLine) (h : ∀ s', Inv X pins σ (upd H l (.lst (xs.take a.toNat ++ ys ++ xs.drop c.toNat))) s' → Q () s') :
    wpAny (model X.prog X.w) X.A (setItem (.ref l) (.ref sl) (.ref b)) Q X.xe s := by
  obtain ⟨ta, rfl⟩ := ra
  obtain ⟨tc, rfl⟩ := rc
  obtain ⟨z, its, n, r, hl, e⟩ := I.lstM hH
  obtain ⟨z2, its2, n2, r2, hl2, e2⟩ := I.lstM hB
  obtain ⟨a', rfl⟩ := Int.eq_ofNat_of_zero_le h0
  obtain ⟨c', rfl⟩ := Int.eq_ofNat_of_zero_le (Int.le_trans h0 hac)
  simp only [Int.toNat_natCast] at h
  refine setItem_slice (a := a') (c := c') e e2 hne hs (.int _ _) (.int _ _) (by omega) (by rw [List.size_toArray]; omega) (by rw [List.size_toArray, List.size_toArray]; omega) (h _ ?_)
  refine I.lset (its' := its.take a' ++ its2 ++ its.drop c') (t' := s.toks) hH e ?_ (Vals.append (Vals.append (r.take _) r2) (r.drop _)) ?_
  · exact splice_eq its its2 a' c'
  · rw [List.length_append, List.length_append, List.length_take, List.length_drop]
    omega
end
end L2

namespace Att
open PySem PySem.W PySem.Calls PyProof.Rows

/-! ### the script -/
theorem ints_of_wellAll {P : Params} {h : Heap} : ∀ (ns : List Int) (vs : List Value), WellAll P h vs (ns.map WData.int) → IntsAre vs ns := by
  intro ns
  induction ns with
  | nil =>
    intro vs w
    rw [List.map_nil] at w
    cases w
    exact .nil
  | cons n ns ih =>
    intro vs w
    rw [List.map_cons] at w
    cases w with
    | cons a b =>
      cases a
      exact .cons _ _ (ih _ b)

theorem script_of {l : OpenLaw} {n : Nat} (hn : l.most = some n) {P : Params} {h : Heap} {args : List WData} {vals : List Value}
    (hpre : l.row.toRowW.claim.pre args = true) (hwl : WellAll P h vals args) :
    ∃ a vs ns, vals = [Value.ref a] ∧ args = [WData.list (ns.map WData.int)] ∧ h.get? a = some { cls := .type "list", data := .seq vs.toArray } ∧ IntsAre vs ns ∧ ns.length ≤ n := by
  have hsh : WShape.hasAll [] args [.list .int] = true := (pre_splitW hpre).1
  have hc : l.pre.holds [] { args := args } = true := (pre_splitW hpre).2
  obtain ⟨d, r, rfl, h1, h2⟩ := hasAllW_cons hsh
  obtain rfl := hasAllW_nil h2
  obtain ⟨xs, rfl, h3⟩ := hasW_list h1
  obtain ⟨ns, rfl⟩ := items_int h3
  have hlen : ns.length ≤ n := by
    unfold OpenLaw.pre at hc
    have h4 : (WTm.not (.lt (.lit (.int (n : Int))) (.len (.arg 0)))).holds [] { args := [.list (ns.map .int)] } = true := by
      have h4 := (holds_andW hc).1
      rw [hn] at h4
      exact h4
    have h5 := condW_of h4 (w_not (w_lt w_lit (w_len_list (w_arg rfl))))
    rw [List.length_map] at h5
    refine Nat.le_of_not_lt fun q => ?_
    have q' : (n : Int) < ((ns.length : Nat) : Int) := by omega
    first
      | (rw [decide_eq_true q'] at h5; exact absurd h5 (by decide))
      | (simp at h5; omega)
  cases hwl with
  | cons w1 w2 =>
    cases w2
    cases w1 with
    | list ho hall => exact ⟨_, _, ns, rfl, rfl, ho, ints_of_wellAll ns _ hall, hlen⟩

theorem post_true (l : OpenLaw) (args : List WData) : l.row.toRowW.claim.post args (.bool true) args = true :=
  postW_of (r := l.row.toRowW) (X := (true == true))
    (show WShape.has [] (.bool true) .bool = true by first | rfl | decide | simp [WShape.has, WShape.arms, WShape.armsAll])
    (show (WTm.eq .res (.lit (.bool true))).value [] { args := args, res := some (.bool true), after := args } = some (.bool (true == true)) from w_eq_bool (w_res rfl) w_lit) rfl

/-! ### the attachment: holds_open's last premise (the goal 'hc' behind k_head) from a wpAny of the law's body -/
theorem attach {l : OpenLaw} {n : Nat} {q : Program} {loose : List Str} {XP : (Str → Option Value) → Heap → Prop} {YP : World → Heap → Prop} {d : DefRec} {x : Str}
    (hn : l.most = some n) (hdf : d.params.defaults = [])
    (hbind : ∀ pm cd doc v : Value, bindArgs (docDef d.name d.params d.body d.scope pm cd doc) ⟨[v], []⟩ = pure [(x, v)])
    (hx : d.scope.names.lookup x = some .local ∨ d.scope.names.lookup x = some .cell)
    (hk : d.scope.kind = .function) (hco : d.scope.isCoroutine = false) (hgen : d.scope.isGenerator = false)
    (body : ∀ (w : World) (s₀ s₁ s : Shared) (mg mb : Str → Option Value) (fa : Addr) (o : Obj) (pm cd doc : Value) (a : Addr) (vs : List Value) (ns : List Int),
      Ground q loose [] XP w s₀ mg mb s₁.heap → YP w s₁.heap →
      s₁.heap.get? fa = some o → o.data = .func (docDef d.name d.params d.body d.scope pm cd doc) → s₁.heap.CodeRec cd d.name → mg d.name = some (.ref fa) →
      s₁.heap.get? a = some { cls := .type "list", data := .seq vs.toArray } → IntsAre vs ns → ns.length ≤ n →
      s.gens = #[] → s.os = s₁.os →
      Fr s₁.heap s₁.heap.objs.size s.heap (bindL (envOfC d.name d.scope s₁.heap.objs.size fa cd).kindOf [(x, .ref a)] fun _ => none) →
      Cl s₁.heap.objs.size (cellsFrom (s₁.heap.objs.size + 1) d.scope.names []) s.heap (bindC (envOfC d.name d.scope s₁.heap.objs.size fa cd).kindOf [(x, .ref a)] fun _ => none) →
      wpAny (model l.prog w) (callerA.deeper (envOfC d.name d.scope s₁.heap.objs.size fa cd)) (execs d.body (envOfC d.name d.scope s₁.heap.objs.size fa cd))
        (fun f s' => f = .ret (.bool true) ∧ OldK s₁.heap s'.heap ∧ s'.os = s₁.os ∧ AllBare s'.gens) (fun _ _ => False) s) :
    WalkO q loose XP YP l.row.toRowW d [] (fun f vs => PySem.call f vs) := by
  intro w s₀ s₁ mg mb G Y fa o pm cd doc dV kV ho hd hcd hD hmg hg args vals as hpre hlay hrd hwl hlo
  obtain rfl : dV = .none := Dflts.none hD hdf
  obtain rfl : kV = .none := Dflts.noKw hD
  obtain ⟨a, vs, ns, rfl, rfl, hobj, hints, hlen⟩ := script_of hn hpre hwl
  refine enter_call ?_
  refine call_cells_ret (o := o) (by rw [depth_caller]; decide) ho (fd_plain hd) G.T.nolimit hcd (hbind pm cd doc (.ref a)) (fun y hy => ?_) (fun h₁ tk F X => ?_) hco hgen hk
  · obtain rfl : y = (x, Value.ref a) := List.mem_singleton.mp hy
    rcases hx with e | e
    · exact .inl e
    · exact .inr ⟨e, cellsFrom_some _ _ _ (.inl e)⟩
  · refine wpAny_mono (body w s₀ s₁ { s₁ with heap := h₁, toks := tk } mg mb fa o pm cd doc a vs ns G Y ho (fd_plain hd) hcd hmg hobj hints hlen hg rfl F X) (fun f s' hq => ?_) (fun _ _ hq => hq)
    obtain ⟨rfl, h2, h3, h4⟩ := hq
    exact ⟨.inl ⟨.bool true, .bool true, [], rfl, fun _ => rfl, .bool true, post_true l _, fun _ => ⟨List.Pairwise.nil, fun _ hm => (nomatch hm)⟩⟩, h2, h3, h4⟩

/-- the same from a codeAny of the CALL (for a layer whose function contracts speak of calls) -/
theorem attach_call {l : OpenLaw} {n : Nat} {q : Program} {loose : List Str} {XP : (Str → Option Value) → Heap → Prop} {YP : World → Heap → Prop} {d : DefRec}
    (hn : l.most = some n) (hdf : d.params.defaults = [])
    (call : ∀ (w : World) (s₀ s₁ : Shared) (mg mb : Str → Option Value) (fa : Addr) (o : Obj) (pm cd doc : Value) (a : Addr) (vs : List Value) (ns : List Int),
      Ground q loose [] XP w s₀ mg mb s₁.heap → YP w s₁.heap →
      s₁.heap.get? fa = some o → o.data = .func (docDef d.name d.params d.body d.scope pm cd doc) → s₁.heap.CodeRec cd d.name → mg d.name = some (.ref fa) →
      s₁.heap.get? a = some { cls := .type "list", data := .seq vs.toArray } → IntsAre vs ns → ns.length ≤ n → s₁.gens = #[] →
      codeAny (model l.prog w) callerA (.call (.ref fa) ⟨[.ref a], []⟩) (fun r s' => r = .ok (.ret (.bool true)) ∧ OldK s₁.heap s'.heap ∧ s'.os = s₁.os ∧ AllBare s'.gens) s₁) :
    WalkO q loose XP YP l.row.toRowW d [] (fun f vs => PySem.call f vs) := by
  intro w s₀ s₁ mg mb G Y fa o pm cd doc dV kV ho hd hcd hD hmg hg args vals as hpre hlay hrd hwl hlo
  obtain rfl : dV = .none := Dflts.none hD hdf
  obtain rfl : kV = .none := Dflts.noKw hD
  obtain ⟨a, vs, ns, rfl, rfl, hobj, hints, hlen⟩ := script_of hn hpre hwl
  refine enter_call (codeAny_mono (call w s₀ s₁ mg mb fa o pm cd doc a vs ns G Y ho (fd_plain hd) hcd hmg hobj hints hlen hg) fun r s' hq => ?_)
  obtain ⟨rfl, h2, h3, h4⟩ := hq
  exact ⟨.inl ⟨.bool true, .bool true, [], rfl, fun _ => rfl, .bool true, post_true l _, fun _ => ⟨List.Pairwise.nil, fun _ hm => (nomatch hm)⟩⟩, h2, h3, h4⟩

/-- the same where the top left finished generators (o_head chose holds_openN): nothing may have changed at all and no generator may be left -/
theorem attachN {l : OpenLaw} {n : Nat} {q : Program} {loose : List Str} {XP : (Str → Option Value) → Heap → Prop} {YP : World → Heap → Prop} {d : DefRec} {x : Str}
    (hn : l.most = some n) (hdf : d.params.defaults = [])
    (hbind : ∀ pm cd doc v : Value, bindArgs (docDef d.name d.params d.body d.scope pm cd doc) ⟨[v], []⟩ = pure [(x, v)])
    (hx : d.scope.names.lookup x = some .local ∨ d.scope.names.lookup x = some .cell)
    (hk : d.scope.kind = .function) (hco : d.scope.isCoroutine = false) (hgen : d.scope.isGenerator = false)
    (body : ∀ (w : World) (s₀ s₁ s : Shared) (mg mb : Str → Option Value) (fa : Addr) (o : Obj) (pm cd doc : Value) (a : Addr) (vs : List Value) (ns : List Int),
      Ground q loose [] XP w s₀ mg mb s₁.heap → YP w s₁.heap →
      s₁.heap.get? fa = some o → o.data = .func (docDef d.name d.params d.body d.scope pm cd doc) → s₁.heap.CodeRec cd d.name → mg d.name = some (.ref fa) →
      s₁.heap.get? a = some { cls := .type "list", data := .seq vs.toArray } → IntsAre vs ns → ns.length ≤ n →
      s.gens = #[] → s.os = s₁.os →
      Fr s₁.heap s₁.heap.objs.size s.heap (bindL (envOfC d.name d.scope s₁.heap.objs.size fa cd).kindOf [(x, .ref a)] fun _ => none) →
      Cl s₁.heap.objs.size (cellsFrom (s₁.heap.objs.size + 1) d.scope.names []) s.heap (bindC (envOfC d.name d.scope s₁.heap.objs.size fa cd).kindOf [(x, .ref a)] fun _ => none) →
      wpAny (model l.prog w) (callerA.deeper (envOfC d.name d.scope s₁.heap.objs.size fa cd)) (execs d.body (envOfC d.name d.scope s₁.heap.objs.size fa cd))
        (fun f s' => f = .ret (.bool true) ∧ (∀ b o, s₁.heap.get? b = some o → s'.heap.get? b = some o) ∧ s'.os = s₁.os ∧ s'.gens = #[]) (fun _ _ => False) s) :
    WalkN q loose XP YP l.row.toRowW d [] (fun f vs => PySem.call f vs) := by
  intro w s₀ s₁ mg mb G Y fa o pm cd doc dV kV ho hd hcd hD hmg hg args vals as hpre hlay hrd hwl hlo
  obtain rfl : dV = .none := Dflts.none hD hdf
  obtain rfl : kV = .none := Dflts.noKw hD
  obtain ⟨a, vs, ns, rfl, rfl, hobj, hints, hlen⟩ := script_of hn hpre hwl
  refine enter_callW ?_
  refine call_cells_ret (o := o) (by rw [depth_caller]; decide) ho (fd_plain hd) G.T.nolimit hcd (hbind pm cd doc (.ref a)) (fun y hy => ?_) (fun h₁ tk F X => ?_) hco hgen hk
  · obtain rfl : y = (x, Value.ref a) := List.mem_singleton.mp hy
    rcases hx with e | e
    · exact .inl e
    · exact .inr ⟨e, cellsFrom_some _ _ _ (.inl e)⟩
  · refine wpAny_mono (body w s₀ s₁ { s₁ with heap := h₁, toks := tk } mg mb fa o pm cd doc a vs ns G Y ho (fd_plain hd) hcd hmg hobj hints hlen hg rfl F X) (fun f s' hq => ?_) (fun _ _ hq => hq)
    obtain ⟨rfl, h2, h3, h4⟩ := hq
    exact ⟨.inl ⟨.bool true, .bool true, [], rfl, fun _ => rfl, .bool true, post_true l _, fun _ => ⟨List.Pairwise.nil, fun _ hm => (nomatch hm)⟩⟩, h2, h3, h4⟩

/-! ### rules over ANY heap (no ledger) from facts about the written part K: the library's own take a ledger (News) for what they write -/
section
variable {prog : Program} {w : World} {A : Around} {E : Value → Shared → Prop} {s : Shared} {K : Frag}

/-- a def of the module, or a method (qual 'C.m'), entered: the frame is the next address; cells behind it -/
theorem call_fn {R : Result → Shared → Prop} {name qual : Str} {params : Arguments} {body : List Stmt} {scope : Scope} {dV kV doc pm cdv ct oc : Value} {an od : Option Addr} {osl : Array (Option Value)} {f : Addr} {args : Args} {binds : List (Str × Value)}
    (X : K.In s.heap) (hlim : s.heap.NoLimit) (ho : K.lookup f = some ⟨oc, od, .func (fnOf name qual params body scope dV kV doc pm an cdv ct), osl⟩) (hcd : codeIn K cdv qual = true) (hroom : A.depth < recursionLimit)
    (hbind : BindsTo s (fnOf name qual params body scope dV kV doc pm an cdv ct) args binds)
    (hkind : (binds.all fun y => scope.names.lookup y.1 == some .local || scope.names.lookup y.1 == some .cell) = true)
    (h : ∀ s₁, InCallC s s.heap.objs.size (bindL (envOfC qual scope s.heap.objs.size f cdv).kindOf binds fun _ => none) (cellsFrom (s.heap.objs.size + 1) scope.names [])
        (bindC (envOfC qual scope s.heap.objs.size f cdv).kindOf binds fun _ => none) s₁ →
      wpAny (model prog w) (A.deeper (envOfC qual scope s.heap.objs.size f cdv)) (execs body (envOfC qual scope s.heap.objs.size f cdv))
        (fun fl s' => R (.ok (.ret (match fl with | .ret v => v | _ => .none))) s')
        (fun e s' => wpAny (model prog w) (A.deeper (envOfC qual scope s.heap.objs.size f cdv)) (leaving (envOfC qual scope s.heap.objs.size f cdv) e) (fun _ s'' => R (.error e) s'') (fun e' s'' => R (.error e') s'') s') s₁)
    (hco : scope.isCoroutine = false) (hgen : scope.isGenerator = false) (hk : scope.kind = .function) : codeAny (model prog w) A (.call (.ref f) args) R s := by
  refine codeAny_call_function hroom (X _ _ ho) rfl hco hgen rfl (codeRec_of X hcd) (hbind _ _ _ _ ?_)
  refine wpAny_newFunctionEnv_cells hk (kindsX hkind _) fun env he s₁ x => ?_
  subst he
  exact ⟨hlim.keeps x.toInCall.keep, codeAny_func (h s₁ x)⟩

/-- C(..): dict at size, instance at size + 1, then __init__ -/
theorem make_obj {R : Result → Shared → Prop} {C fI : Addr} {rest : List Value} {kw : List (Str × Value)}
    (X : K.In s.heap) (hm : makesIn K C = true) (hi : findIn K (.ref C) "__init__" = some (some (.ref fI))) (hf : isFn K (.ref fI) = true)
    (h : codeAny (model prog w) (A.under (.builtin "type.__call__" ⟨.ref C :: rest, kw⟩)) (.call (.ref fI) ⟨.ref (s.heap.objs.size + 1) :: rest, kw⟩) (InitBack (s.heap.objs.size + 1) R)
      { s with heap := (s.heap.push emptyDict).push (instObj C s.heap.objs.size) }) : codeAny (model prog w) A (.call (.ref C) ⟨rest, kw⟩) R s := by
  obtain ⟨hh, g, d, t, os⟩ := s
  exact make_core (makes_of X hm) (looks_findIn X hi) (fun self => bind_fn X self (beq_iff_eq.mp hf)) (.inl rfl) h

/-- x.name where the instance's dict holds the name and the class does not -/
theorem get_field {x C : Addr} {ox : Obj} {es : List DictEntry} {n : Nat} {name : Str} {expr : Bool} {v : Value} {Q : Value → Shared → Prop}
    (X : K.In s.heap) (I : PySem.W.InstAt s.heap x ox C (some (dictOf es n))) (hg : plainGet K C name = true) (hh : hasDictIn K C = true) (ha : findIn K (.ref C) name = some none)
    (hl : getL name es = some (some v)) (hv : handedIn v = true) (h : Q v { s with toks := s.toks + 1 }) : wpAny (model prog w) A (getAttr (.ref x) name expr) Q E s :=
  get_value X I (plainGet_of hg).1 (findObj_own hh ha rfl hl) hv h

/-- x.m(..): the method found in the class -/
theorem get_method {x C f : Addr} {ox : Obj} {es : List DictEntry} {n : Nat} {name : Str} {pl : Sem Bool} {Q : Value × List Value → Shared → Prop}
    (X : K.In s.heap) (I : PySem.W.InstAt s.heap x ox C (some (dictOf es n))) (hg : plainGet K C name = true) (hf : findIn K (.ref C) name = some (some (.ref f))) (ht : isFn K (.ref f) = true)
    (hl : getL name es = some none) (h : Q (.ref f, [.ref x]) s) : wpAny (model prog w) A (getMethod (.ref x) name pl) Q E s :=
  method_fn X I (plainGet_of hg).1 (plainGet_of hg).2 hf (beq_iff_eq.mp ht) (by show (lookIn name (dictOf es n)).map _ = _; rw [lookIn_dict, hl]; rfl) h

/-! the whole heap as the ledger: makes every rule that writes through a ledger a rule over any heap -/
def noObjs (h : Heap) : Heap := { h with objs := #[] }
theorem noObjs_get (h : Heap) (b : Addr) : (noObjs h).get? b = none := by
  cases e : (noObjs h).get? b with
  | none => rfl
  | some o => exact absurd (Heap.lt_size e) (Nat.not_lt_zero _)
def ledger (h : Heap) (L d : Addr) : List (Addr × Obj) := (List.range h.objs.size).filterMap fun a => if a = L ∨ a = d then none else (h.get? a).map fun o => (a, o)
theorem mem_ledger {h : Heap} {L d a : Addr} {o : Obj} : (a, o) ∈ ledger h L d ↔ a ≠ L ∧ a ≠ d ∧ h.get? a = some o := by
  unfold ledger
  rw [List.mem_filterMap]
  constructor
  · rintro ⟨b, _, e⟩
    split at e
    · cases e
    · rename_i hb
      obtain ⟨o', ho, e'⟩ := Option.map_eq_some_iff.mp e
      cases e'
      exact ⟨fun q => hb (.inl q), fun q => hb (.inr q), ho⟩
  · rintro ⟨n1, n2, ho⟩
    refine ⟨a, List.mem_range.mpr (Heap.lt_size ho), ?_⟩
    rw [if_neg (show ¬ (a = L ∨ a = d) from fun q => q.elim n1 n2), ho] <;> rfl
theorem news_ledger {h : Heap} {L d : Addr} {od : Obj} (hne : d ≠ L) (ho : h.get? d = some od) : News (noObjs h) L h ([] ++ (d, od) :: ledger h L d) := by
  rintro ⟨a, o⟩ hp
  rcases List.mem_cons.mp hp with e | hp
  · cases e
    exact ⟨ho, hne, noObjs_get _ _⟩
  · obtain ⟨n1, n2, e⟩ := mem_ledger.mp hp
    exact ⟨e, n1, noObjs_get _ _⟩
theorem fr_all {h : Heap} {L : Addr} {m : Str → Option Value} (n : h.Ns L m) : Fr (noObjs h) L h m :=
  ⟨n, fun b o e => (by rw [noObjs_get] at e; cases e), Nat.zero_le _⟩
/-- Upd of the head entry (for append_K, setItem_K ..) -/
theorem upd_ledger {h : Heap} {L d : Addr} {o o' : Obj} : Upd d o o' ((d, o) :: ledger h L d) ((d, o') :: ledger h L d) :=
  .head fun ⟨_, _⟩ hp => (mem_ledger.mp hp).2.1

/-- x.name = v over any heap: L is any namespace of the heap (the frame's, say): its map stays, its object is not told; all else but the dict stays -/
theorem set_field {x C dx L : Addr} {ox : Obj} {m : Str → Option Value} {es es' : List DictEntry} {n n' : Nat} {name : Str} {v : Value} {Q : Unit → Shared → Prop}
    (X : K.In s.heap) (I : PySem.W.InstAt s.heap x ox C (some (dictOf es n))) (hd : ox.dict = some dx) (hL : s.heap.Ns L m) (hne : dx ≠ L)
    (hs : findIn K (.ref C) "__setattr__" = some (some (.builtin "object.__setattr__"))) (hp : plainOver K C = true) (ht : takerIn K C name = some none) (hh : hasDictIn K C = true) (hl : (getL name es).isSome = true)
    (e : (putL name (PyData.keyHash w.params name) (.str name (s.toks + 1)) v es, putN name es n) = (es', n')) (hz : es'.length ≤ 1000)
    (h : ∀ h' : Heap, h'.Ns L m → h'.get? dx = some (dictOf es' n') → (∀ b o, b ≠ dx → b ≠ L → s.heap.get? b = some o → h'.get? b = some o) → Q () { s with heap := h', toks := s.toks + 2 }) :
    wpAny (model prog w) A (setAttr (.ref x) name v) Q E s := by
  obtain ⟨e1, e2⟩ := Prod.mk.inj e
  have hdx : s.heap.get? dx = some (dictOf es n) := by
    have := I.dict
    rw [hd] at this
    exact this
  refine set_plain X I hs (osa_dict (s := { s with toks := s.toks + 1 }) (h₀ := noObjs s.heap) (L := L) (m := m) (od := dictOf es n) (od' := dictOf es' n') (es := es') (n := n') (pre := []) (post := ledger s.heap L dx)
    (fr_all hL) (news_ledger hne hdx) X I hd hp ht hh hl (fun _ q => nomatch q) (fun ⟨_, _⟩ q => (mem_ledger.mp q).2.1) (by rw [putName_dict, e1, e2]) rfl hz fun h' F' N' => ?_)
  exact h h' F'.ns (N'.get (List.Mem.head _)) fun b o n1 n2 ho => N'.get (List.Mem.tail _ (mem_ledger.mpr ⟨n2, n1, ho⟩))
end
end Att

namespace L2
open PySem PySem.Spec PyProof.Rows

theorem vals_ints : ∀ {vs : List Value} {ns : List Int}, IntsAre vs ns → Vals (ns.map V.int) vs
  | _, _, .nil => .nil
  | _, _, .cons n t h => .cons ⟨t, rfl⟩ (vals_ints h)

/-- nothing is tracked but the script, known to the object (or it is an object of the module) -/
def Only (H : Hp) : Prop := ∀ b, H b = none ∨ ∃ o xs, H b = some (.frz o (.lst xs))

/-- THE HEAD: the law's promise, at the heap behind the top. F, the promise of the law's def, may use that base is part of the heap (so K.In base, base.Ns mainGlobals mg stand in Mod) -/
theorem law_call {P : Program} {w : World} {K : PySem.W.Frag} {mg mb : Str → Option Value} {CX : CXT} {k : Nat} {fa a : Addr} {fd : FuncData} {x : Str} {sp : Sp} {s₁ : Shared} {vs : List Value} {ns : List Int}
    (KX : K.In s₁.heap) (hns : s₁.heap.Ns mainGlobals mg) (hb : s₁.heap.Ns builtinsNs mb) (hbb : ∀ x : Str, x ≠ "__name__" → mb x = bootBuiltins x) (hlim : s₁.heap.NoLimit) (hg : s₁.gens = #[])
    (ha : s₁.heap.get? a = some { cls := .type "list", data := .seq vs.toArray }) (hi : IntsAre vs ns) (hl : ns.length ≤ sizeLine) (hr : Room k callerA)
    (F : ∀ base : Heap, K.In base → base.Ns mainGlobals mg → FnOk P w K mg base CX k fa fd [x] sp) (hbind : ∀ (s : Shared) (u : Value), BindsTo s fd ⟨[u], []⟩ [(x, u)])
    (hsp : ∀ H : Hp, Only H → SqL K H a (ns.map V.int) → sp [.ref a] H (fun v _ => v = .bl true) fun _ _ _ => False)
    (hCX : ∀ H e s', CX [] H s₁ (fun _ _ _ => False) e s' → False) :
    codeAny (model P w) callerA (.call (.ref fa) ⟨[.ref a], []⟩) (fun r s' => r = .ok (.ret (.bool true)) ∧ OldK s₁.heap s'.heap ∧ s'.os = s₁.os ∧ AllBare s'.gens) s₁ := by
  have rv := vals_ints hi
  have lenV := hi.length
  -- from an abstract heap in which nothing but the script may be tracked
  have core : ∀ H : Hp, Only H → SqL K H a (ns.map V.int) → HOk P w H s₁.heap → (∀ b, H b ≠ none → b = a) → (H a ≠ none → K.lookup a = none) →
      codeAny (model P w) callerA (.call (.ref fa) ⟨[.ref a], []⟩) (fun r s' => r = .ok (.ret (.bool true)) ∧ OldK s₁.heap s'.heap ∧ s'.os = s₁.os ∧ AllBare s'.gens) s₁ := by
    intro H hO hS hok hA hK
    have base_of : ∀ {b : Addr} {o : Obj}, s₁.heap.get? b = some o → H b = none → (hidT s₁.heap H).get? b = some o := fun e n => hidT_get e n
    have noA : ∀ {b : Addr} {o : Obj} {es : Array DictEntry} {ep : Nat}, s₁.heap.get? b = some o → o.data = .dict es ep → H b = none := fun {b o es ep} e d => by
      cases q : H b with
      | none => rfl
      | some u =>
        have e' : b = a := hA b (by rw [q]; simp)
        subst e'
        rw [ha] at e; cases e
        have d' : Data.seq vs.toArray _ = Data.dict es ep := d
        cases d'
    have nsK : ∀ {b : Addr} {m : Str → Option Value}, s₁.heap.Ns b m → (hidT s₁.heap H).Ns b m := fun {b m} ⟨o, es, ep, e, d, r⟩ => ⟨o, es, ep, base_of e (noA e d), d, r⟩
    have hKb : K.In (hidT s₁.heap H) := fun b o e => base_of (KX b o e) (by
      cases q : H b with
      | none => rfl
      | some u =>
        have e' : b = a := hA b (by rw [q]; simp)
        subst e'
        rw [hK (by rw [q]; simp)] at e; cases e)
    have hM : Mod K mg (hidT s₁.heap H) := ⟨hKb, nsK hns, ⟨mb, nsK hb, hbb⟩, let ⟨mc, h1, h2⟩ := hlim; ⟨mc, nsK h1, h2⟩⟩
    have e0 : Env0 P w K mg (hidT s₁.heap H) callerA [] s₁ H := ⟨rfl, hM, fun b o e => of_hidT e, Nat.le_of_eq (hidT_size _ _), trivial, fun b hb => absurd (show b ∈ ([] : List Addr) from hb) (by simp), hok, .of_eq hg⟩
    refine codeAny_mono ((F _ hKb (nsK hns)).run callerA [] s₁ H ⟨[.ref a], []⟩ [.ref a] [.ref a] _ _ hr e0 (hbind s₁ (.ref a)) (.cons rfl .nil) (hsp H hO hS)) fun r s' h => ?_
    cases r with
    | error e => exact (hCX H e s' h).elim
    | ok fl =>
      cases fl with
      | next => exact False.elim h
      | brk => exact False.elim h
      | cont => exact False.elim h
      | ret u =>
        obtain ⟨v, H', os, bare, un, hok', r', q⟩ := h
        have q' : v = .bl true := q
        subst q'
        obtain rfl : u = Value.bool true := r'
        refine ⟨rfl, OldK.of_keep fun b o e => ?_, os, bare⟩
        cases q : H b with
        | none => exact un.keep b o e q (by intro z; exact absurd (show b ∈ ([] : List Addr) from z) (by simp)) (by simp)
        | some u =>
          rcases hO b with z | ⟨ob, xs, z⟩
          · rw [q] at z; cases z
          · have z2 := un.frzs b ob _ z
            obtain ⟨e1, _⟩ := hok b _ z
            obtain ⟨e2, _⟩ := hok' b _ z2
            rw [e] at e1; cases e1
            exact e2
  cases hk : K.lookup a with
  | some o =>
    -- the script is one of the module's own objects
    have e := KX a o hk
    rw [ha] at e
    cases e
    refine core (fun _ => none) (fun _ => .inl rfl) (.inr ⟨_, vs.toArray, _, hk, rfl, rfl, rfl, by rw [List.size_toArray, lenV]; exact hl, by simpa using rv⟩) (fun b u z => by have z' : (none : Option HO) = some u := z; cases z') (fun b z => absurd rfl z) fun z => absurd rfl z
  | none =>
    refine core (fun b => if b = a then some (.frz { cls := .type "list", data := .seq vs.toArray } (.lst (ns.map V.int))) else none) (fun b => ?_) (.inl (.inr ⟨{ cls := .type "list", data := .seq vs.toArray }, if_pos rfl⟩)) (fun b u z => ?_) (fun b z => ?_) fun _ => hk
    · by_cases hb : b = a
      · exact .inr ⟨_, _, if_pos hb⟩
      · exact .inl (if_neg hb)
    · by_cases hb : b = a
      · have z' := (if_pos hb).symm.trans z
        cases z'
        subst hb
        exact ⟨ha, by rw [List.length_map]; exact hl, vs, _, rv, ha⟩
      · have z' := (if_neg hb).symm.trans z
        cases z'
    · by_cases hb : b = a
      · exact hb
      · exact absurd (if_neg hb) z
end L2

namespace L2
open PySem PySem.Spec PyProof.Rows

abbrev KOf {K : PySem.W.Frag} {h : Heap} (_ : K.In h) : PySem.W.Frag := K

/-- the goal that k_head leaves (case hc), from the law's promise. F gives the function object fd (K's own) once, then the promise over every base -/
theorem walk_of {l : PySem.W.OpenLaw} {n k : Nat} {q : Program} {loose : List Str} {XP : (Str → Option Value) → Heap → Prop} {YP : World → Heap → Prop} {d : DefRec} {K : Params → PySem.W.Frag} {CX : World → CXT} {sp : World → Sp} {x : Str}
    (hn : l.most = some n) (hn2 : n ≤ sizeLine) (hdf : d.params.defaults = []) (hr : Room k callerA)
    (hY : ∀ (w : World) (h : Heap), YP w h → (K w.params).In h)
    (F : ∀ (w : World) (mg : Str → Option Value) (fa : Addr) (h : Heap), (K w.params).In h → h.Ns mainGlobals mg → mg d.name = some (.ref fa) →
      ∃ fd : FuncData, (∀ (s : Shared) (u : Value), BindsTo s fd ⟨[u], []⟩ [(x, u)]) ∧
        ∀ base : Heap, (K w.params).In base → base.Ns mainGlobals mg → FnOk l.prog w (K w.params) mg base (CX w) k fa fd [x] (sp w))
    (hsp : ∀ (w : World) (H : Hp) (a : Addr) (ns : List Int), ns.length ≤ n → Only H → SqL (K w.params) H a (ns.map V.int) → sp w [.ref a] H (fun v _ => v = .bl true) fun _ _ _ => False)
    (hCX : ∀ (w : World) (H : Hp) (s : Shared) (e : Value) (s' : Shared), CX w [] H s (fun _ _ _ => False) e s' → False) :
    PySem.W.WalkO q loose XP YP l.row.toRowW d [] (fun f vs => PySem.call f vs) := by
  refine Att.attach_call hn hdf fun w s₀ s₁ mg mb fa o pm cd doc a vs ns G Y ho hd hcd hmg hobj hints hlen hg => ?_
  have KX := hY w _ Y
  obtain ⟨fd, hb, hF⟩ := F w mg fa _ KX G.T.g hmg
  exact law_call KX G.T.g G.T.b G.T.builtins G.T.nolimit hg hobj hints (Nat.le_trans hlen hn2) hr hF hb (fun H hO hS => hsp w H a ns hlen hO hS) fun H e s' => hCX w H s₁ e s'
/-- the same where the promise hangs on the written part alone: (sp := My.sp_law), no hole under a binder -/
theorem walk_ofK {l : PySem.W.OpenLaw} {n k : Nat} {q : Program} {loose : List Str} {XP : (Str → Option Value) → Heap → Prop} {YP : World → Heap → Prop} {d : DefRec} {K : Params → PySem.W.Frag} {CX : CXT} {sp : PySem.W.Frag → Sp} {x : Str}
    (hn : l.most = some n) (hn2 : n ≤ sizeLine) (hdf : d.params.defaults = []) (hr : Room k callerA)
    (hY : ∀ (w : World) (h : Heap), YP w h → (K w.params).In h)
    (F : ∀ (w : World) (mg : Str → Option Value) (fa : Addr) (h : Heap), (K w.params).In h → h.Ns mainGlobals mg → mg d.name = some (.ref fa) →
      ∃ fd : FuncData, (∀ (s : Shared) (u : Value), BindsTo s fd ⟨[u], []⟩ [(x, u)]) ∧
        ∀ base : Heap, (K w.params).In base → base.Ns mainGlobals mg → FnOk l.prog w (K w.params) mg base CX k fa fd [x] (sp (K w.params)))
    (hsp : ∀ (K : PySem.W.Frag) (H : Hp) (a : Addr) (ns : List Int), ns.length ≤ n → Only H → SqL K H a (ns.map V.int) → sp K [.ref a] H (fun v _ => v = .bl true) fun _ _ _ => False)
    (hCX : ∀ (H : Hp) (s : Shared) (e : Value) (s' : Shared), CX [] H s (fun _ _ _ => False) e s' → False) :
    PySem.W.WalkO q loose XP YP l.row.toRowW d [] (fun f vs => PySem.call f vs) :=
  walk_of (K := K) (CX := fun _ => CX) (sp := fun w => sp (K w.params)) hn hn2 hdf hr hY F (fun w H a ns h1 h2 h3 => hsp (K w.params) H a ns h1 h2 h3) fun _ H s e s' => hCX H s e s'
end L2

/- THE LAST THEOREM (shape; LID, My.* are yours):
   My.Adr: a structure of the addresses that your layer names (classes, functions); My.Txt K t: a structure (Prop) of the equations over K;
   My.txt_mk : {K} {implicit addresses ..} (e1 : nsIn K mainGlobals "law" = some (some (.ref f))) (e2 : K.lookup f = some ⟨oc, od, .func (fnOf "law" "law" params body scope dV kV doc pm an cdv ct), sl⟩) (e3 : codeIn K cdv "law" = true) .. : ∃ t, My.Txt K t

set_option maxRecDepth 100000 in
set_option maxHeartbeats 0 in
theorem PySem.Challenge.cw_LID_holds : PySem.Challenge.rw_LID.Holds := by
  w_on; o_law; k_head; (case hw => w_witness2)
  k_fill
  refine L2.walk_of (l := PySem.Challenge.rw_LID) (n := 63) (k := 40) (x := "script") (CX := fun w => ..) (sp := fun _ => My.sp_law) rfl (by decide) rfl ⟨rfl, by decide, by decide⟩ (fun w h Y => PySem.W.kIn_of Y) ?F ?S ?C
  case F =>
    intro w mg fa h KX G hmg
    have T : ∃ t, My.Txt (L2.KOf KX) t := by
      dsimp only [L2.KOf]                          -- K must stand as «<heap const> w.params» for k_is
      refine' My.txt_mk ?e1 ?e2 ?e3 ..
      (case e1 => PySem.W.k_is)                    -- in the order: a name -> its address -> its object -> its parts
      (case e2 => PySem.W.k_is)
      ..
    obtain ⟨t, T⟩ := T
    have e0 := hmg.symm.trans (PySem.W.mg_of KX G T.law)
    cases e0                                       -- fa is the law's own address
    exact ⟨_, fun s u => .of_eq rfl, fun base kb nb => My.law_fn T kb nb⟩     -- if «.of_eq rfl» comes too early: refine' ⟨_, ?b, fun base kb nb => My.law_fn T kb nb⟩; exact fun s u => .of_eq rfl
  case S => exact fun w H a ns hl hO hS => ..
  case C => exact ..
(the tactic k_is has no namespace: write k_is) -/

/-! SHORT WORDS over the layer: a def of the text, its body, what a loop and a test want. -/
namespace L2
open PySem PySem.Spec PyProof.Rows

/-! ### the text by places -/
/-- the j-th statement of a class's body -/
def inClass (s : Stmt) (j : Nat) : Stmt := match s with
  | .ClassDef _ _ _ body _ _ _ _ _ _ _ => body.getD j (.Pass ⟨0, 0, 0, 0⟩)
  | _ => .Pass ⟨0, 0, 0, 0⟩
def defArgs (s : Stmt) : Arguments := match s with
  | .FunctionDef _ a _ _ _ _ _ _ _ _ => a
  | _ => { posonlyargs := [], args := [], vararg := none, kwonlyargs := [], kw_defaults := [], kwarg := none, defaults := [] }
def defBody (s : Stmt) : List Stmt := match s with
  | .FunctionDef _ _ b _ _ _ _ _ _ _ => b
  | _ => []
def defScope (s : Stmt) : Scope := match s with
  | .FunctionDef _ _ _ _ _ _ sc _ _ _ => sc
  | _ => { kind := .function, names := [], isGenerator := false, isCoroutine := false }

/-! ### no exception leaves a def -/
abbrev CX0 : CXT := fun _ _ _ _ _ _ => False
abbrev E0 : XK := fun _ _ _ => False
theorem pass0 {X : Cx} : Passes CX0 X E0 := fun _ _ _ _ _ _ _ h => h.elim

/-! ### a def (or method) of the text as it stands behind the top -/
structure Fun (K : PySem.W.Frag) (x qual : Str) (st : Stmt) (f : Addr) (fd : FuncData) : Prop where
  ex : ∃ (oc : Value) (od : Option Addr) (kV doc pm : Value) (an : Option Addr) (cdv ct : Value) (osl : Array (Option Value)),
    fd = PySem.W.fnOf x qual (defArgs st) (defBody st) (defScope st) .none kV doc pm an cdv ct ∧ K.lookup f = some ⟨oc, od, .func fd, osl⟩ ∧ PySem.W.codeIn K cdv qual = true
  kp : PySem.W.keepIn K (.ref f) = true
section
variable {P : Program} {w : World} {K : PySem.W.Frag} {mg : Str → Option Value} {base : Heap}
/-- THE RULE for a def: its body as a term of rules, and the reading of that term -/
theorem Fun.ok {x qual : Str} {st : Stmt} {f : Addr} {fd : FuncData} {N ps : List Str} {k : Nat} {sp : Sp} (F : Fun K x qual st f fd) (S : FnScope N ps (defScope st)) (len : ∀ vs H Q E, sp vs H Q E → vs.length = ps.length)
    (hbody : ∀ (cdv : Value) (A : Around) (outer : List Env) (s : Shared) (H : Hp) (vs : List V) (Q : VK) (E : XK), Room k (A.deeper (envOfC qual (defScope st) s.heap.objs.size f cdv)) → sp vs H Q E →
      ∃ t, PSs (cxOf CX0 P w K mg base N qual (defScope st) f cdv A outer s H E).nox (defBody st) t ∧ t { nx := fun _ H' => Q .non H', rt := Q } (start N vs) H) : FnOk P w K mg base CX0 (k + 1) f fd ps sp := by
  obtain ⟨oc, od, kV, doc, pm, an, cdv, ct, osl, rfl, lk, hcd⟩ := F.ex
  refine fn_of lk hcd S len fun A outer s H vs Q E hr hsp => ?_
  obtain ⟨t, h, q⟩ := hbody cdv A outer s H vs Q E hr hsp
  exact ⟨t, h.nox, q⟩
/-- how its arguments bind (no defaults): h is «fun _ _ _ _ _ _ us hl => match us, hl with | [_, _], _ => rfl», one _ a parameter -/
theorem Fun.binds {x qual : Str} {st : Stmt} {f : Addr} {fd : FuncData} {ps : List Str} (F : Fun K x qual st f fd)
    (h : ∀ (kV doc pm : Value) (an : Option Addr) (cdv ct : Value) (us : List Value), us.length = ps.length → bindArgs (PySem.W.fnOf x qual (defArgs st) (defBody st) (defScope st) .none kV doc pm an cdv ct) ⟨us, []⟩ = pure (ps.zip us)) : Binds K fd ps [] := by
  obtain ⟨oc, od, kV, doc, pm, an, cdv, ct, osl, rfl, lk, hcd⟩ := F.ex
  exact .all (h kV doc pm an cdv ct)
theorem fun_mk {x qual : Str} {st : Stmt} {f : Addr} {oc : Value} {od an : Option Addr} {osl : Array (Option Value)} {kV doc pm cdv ct : Value} (l : K.lookup f = some ⟨oc, od, .func (PySem.W.fnOf x qual (defArgs st) (defBody st) (defScope st) .none kV doc pm an cdv ct), osl⟩)
    (c : PySem.W.codeIn K cdv qual = true) (k : PySem.W.keepIn K (.ref f) = true) : Fun K x qual st f (PySem.W.fnOf x qual (defArgs st) (defBody st) (defScope st) .none kV doc pm an cdv ct) := ⟨⟨oc, od, kV, doc, pm, an, cdv, ct, osl, rfl, l, c⟩, k⟩
end
theorem hu_of {A : Around} {k : Nat} (hr : Room k A) : A.units + 1 < cLine := Nat.lt_of_le_of_lt (Nat.add_le_add_left (by decide : 1 ≤ 64) _) hr.units
theorem small1000 {n : Nat} (h : n ≤ 1000) : n < sizeLine := Nat.lt_of_le_of_lt h (by decide)

/-! ### expressions in short: the name that stands in the i-th slot -/
section
variable {X : Cx}
theorem pv (i : Nat) {x : Str} {pos : Pos} (hN : X.N[i]? = some x := by rfl) (hv : Vis X.env.scope x := by first | exact Or.inl rfl | exact Or.inr (Or.inl rfl) | exact Or.inr (Or.inr rfl)) (hd : (x == ("__debug__" : Str)) = false := by decide)
    (hcd : (x == ("__classdict__" : Str)) = false := by decide) : PE X (.Name x pos) (tVar i) := pe_var hN hv hd hcd
end

/-! ### tests -/
theorem iteF {A B : Prop} (h : B) : if false = true then A else B := by
  rw [if_neg Bool.false_ne_true]
  exact h
theorem iteT {A B : Prop} (h : A) : if true = true then A else B := by
  rw [if_pos rfl]
  exact h
theorem ite2 {c A B : Prop} [Decidable c] (h1 : c → A) (h2 : ¬ c → B) : if c then A else B := by
  by_cases h : c
  · rw [if_pos h]
    exact h1 h
  · rw [if_neg h]
    exact h2 h
theorem iteNS {c A B : Prop} [Decidable c] (hc : c) (h : B) : if (!decide c) = true then A else B := by
  rw [decide_eq_true hc]
  exact iteF h

/-! ### heaps -/
/-- all that was tracked is as it was -/
def Same (H H' : Hp) : Prop := ∀ b o, H b = some o → H' b = some o
theorem Same.refl (H : Hp) : Same H H := fun _ _ h => h
theorem Same.trans {H H1 H2 : Hp} (a : Same H H1) (b : Same H1 H2) : Same H H2 := fun c o h => b c o (a c o h)
theorem Same.free {H H' : Hp} (e : Same H H') {l : Addr} (h : H' l = Option.none) : H l = Option.none := by
  cases q : H l with
  | none => rfl
  | some o =>
    rw [e l o q] at h
    cases h
theorem Same.seq {K : PySem.W.Frag} {H H' : Hp} {a : Addr} {xs : List V} (e : Same H H') (h : SqL K H a xs) : SqL K H' a xs := by
  rcases h with (h | ⟨o, h⟩) | h
  · exact .inl (.inl (e _ _ h))
  · exact .inl (.inr ⟨o, e _ _ h⟩)
  · exact .inr h

end L2

set_option Elab.async false
set_option linter.all false
set_option maxRecDepth 100000
namespace L2
open PySem PySem.Spec PyProof.Rows

/-! ### lists of pairs as tables -/
section
variable {κ : Type} [DecidableEq κ]
def valV (kvs : List (κ × V)) (k : κ) : Option V := (kvs.find? fun kv => decide (kv.1 = k)).map (·.2)
/-- in its place, or at the end -/
def putK (kvs : List (κ × V)) (k : κ) (v : V) : List (κ × V) :=
  if (kvs.any fun kv => decide (kv.1 = k)) = true then kvs.map (fun kv => if kv.1 = k then (kv.1, v) else kv) else kvs ++ [(k, v)]
def dropK (kvs : List (κ × V)) (k : κ) : List (κ × V) := kvs.filter fun kv => decide (kv.1 ≠ k)

theorem valV_nil {k : κ} : valV ([] : List (κ × V)) k = none := rfl
theorem valV_pos {p : κ × V} {r : List (κ × V)} {k : κ} (e : p.1 = k) : valV (p :: r) k = some p.2 := by simp [valV, List.find?_cons, e]
theorem valV_neg {p : κ × V} {r : List (κ × V)} {k : κ} (e : ¬ p.1 = k) : valV (p :: r) k = valV r k := by simp [valV, List.find?_cons, e]
theorem valV_any (k : κ) : ∀ kvs : List (κ × V), (kvs.any fun kv => decide (kv.1 = k)) = (valV kvs k).isSome
  | [] => rfl
  | p :: r => by
    rw [List.any_cons]
    by_cases e : p.1 = k
    · simp only [valV_pos e, decide_eq_true e, Bool.true_or, Option.isSome_some]
    · rw [valV_neg e, decide_eq_false e, Bool.false_or]; exact valV_any k r
theorem valV_map (k j : κ) (y : V) : ∀ kvs : List (κ × V), valV (kvs.map fun kv => if kv.1 = k then (kv.1, y) else kv) j = (valV kvs j).map fun x => if j = k then y else x
  | [] => rfl
  | p :: r => by
    have ih := valV_map k j y r
    rw [List.map_cons]
    by_cases h : p.1 = k
    · rw [if_pos h]
      by_cases e : p.1 = j
      · rw [valV_pos (p := (p.1, y)) e, valV_pos e, Option.map_some, if_pos (e.symm.trans h)]
      · rw [valV_neg (p := (p.1, y)) e, valV_neg e, ih]
    · rw [if_neg h]
      by_cases e : p.1 = j
      · rw [valV_pos (p := p) e, valV_pos e, Option.map_some, if_neg (fun z => h (e.trans z))]
      · rw [valV_neg (p := p) e, valV_neg e, ih]
theorem valV_snoc (k j : κ) (y : V) : ∀ kvs : List (κ × V), valV kvs k = none → valV (kvs ++ [(k, y)]) j = if j = k then some y else valV kvs j
  | [], _ => by
    by_cases e : k = j
    · rw [if_pos e.symm]; exact valV_pos (p := (k, y)) e
    · rw [if_neg (fun z => e z.symm)]; exact valV_neg (p := (k, y)) e
  | p :: r, hn => by
    rw [List.cons_append]
    have hk : ¬ p.1 = k := fun z => by rw [valV_pos z] at hn; cases hn
    rw [valV_neg hk] at hn
    have ih := valV_snoc k j y r hn
    by_cases e : p.1 = j
    · rw [valV_pos e, valV_pos e, if_neg (fun z => hk (e.trans z))]
    · rw [valV_neg e, valV_neg e, ih]
theorem valV_put (kvs : List (κ × V)) (k j : κ) (y : V) : valV (putK kvs k y) j = if j = k then some y else valV kvs j := by
  unfold putK
  by_cases a : (kvs.any fun kv => decide (kv.1 = k)) = true
  · rw [if_pos a, valV_map]
    rw [valV_any] at a
    by_cases e : j = k
    · obtain ⟨x, hx⟩ := Option.isSome_iff_exists.mp a
      rw [if_pos e, e, hx, Option.map_some, if_pos rfl]
    · rw [if_neg e]
      cases valV kvs j with
      | none => rfl
      | some x => rw [Option.map_some, if_neg e]
  · rw [if_neg a]
    refine valV_snoc k j y kvs ?_
    rw [valV_any] at a
    cases q : valV kvs k with
    | none => rfl
    | some x => rw [q] at a; exact (a rfl).elim
theorem length_putK (kvs : List (κ × V)) (k : κ) (v : V) : (putK kvs k v).length ≤ kvs.length + 1 := by
  unfold putK
  split
  · rw [List.length_map]; omega
  · rw [List.length_append, List.length_cons, List.length_nil]; omega
theorem putK_new {kvs : List (κ × V)} {k : κ} (v : V) (h : valV kvs k = none) : putK kvs k v = kvs ++ [(k, v)] := by
  unfold putK
  rw [valV_any, h]
  exact if_neg (by decide)

theorem RelO.isSome_eq {o : Option V} {u : Option Value} (r : RelO o u) : o.isSome = u.isSome := by
  cases o with
  | none => cases u with
    | none => rfl
    | some _ => exact (show False from r).elim
  | some _ => cases u with
    | none => exact (show False from r).elim
    | some _ => rfl
theorem RelO.getD {o : Option V} {u : Option Value} {d : V} {d' : Value} (r : RelO o u) (rd : RelV d d') : RelV (o.getD d) (u.getD d') := by
  cases o with
  | none => cases u with
    | none => exact rd
    | some _ => exact (show False from r).elim
  | some _ => cases u with
    | none => exact (show False from r).elim
    | some _ => exact r

/-- raw tables of the same keys -/
theorem KV.val {kvs : List (κ × V)} {vs : List (κ × Value)} (r : KV kvs vs) (k : κ) : RelO (valV kvs k) (valueAt vs k) := by
  unfold KV at r
  induction r with
  | nil => exact True.intro
  | @cons p q ps qs h t ih =>
    obtain ⟨h1, h2⟩ := h
    by_cases e : p.1 = k
    · have e' : q.1 = k := h1.symm.trans e
      have b : valueAt (q :: qs) k = some q.2 := by simp [valueAt, List.find?_cons, e']
      rw [valV_pos e, b]; exact h2
    · have e' : ¬ q.1 = k := fun z => e (h1.trans z)
      have b : valueAt (q :: qs) k = valueAt qs k := by simp [valueAt, List.find?_cons, e']
      rw [valV_neg e, b]; exact ih
theorem KV.any {kvs : List (κ × V)} {vs : List (κ × Value)} (r : KV kvs vs) (k : κ) : (kvs.any fun kv => decide (kv.1 = k)) = vs.any fun kv => decide (kv.1 = k) := by
  unfold KV at r
  induction r with
  | nil => rfl
  | cons h t ih => rw [List.any_cons, List.any_cons, ih, h.1]
theorem KV.repl {kvs : List (κ × V)} {vs : List (κ × Value)} (r : KV kvs vs) (k : κ) {y : V} {u : Value} (ry : RelV y u) :
    KV (kvs.map fun kv => if kv.1 = k then (kv.1, y) else kv) (vs.map fun kv => if kv.1 = k then (kv.1, u) else kv) := by
  unfold KV at r ⊢
  induction r with
  | nil => exact .nil
  | @cons p q ps qs h t ih =>
    rw [List.map_cons, List.map_cons]
    refine .cons ?_ ih
    obtain ⟨h1, h2⟩ := h
    by_cases e : p.1 = k
    · rw [if_pos e, if_pos (h1.symm.trans e)]; exact ⟨h1, ry⟩
    · rw [if_neg e, if_neg (fun z => e (h1.trans z))]; exact ⟨h1, h2⟩
theorem KV.put {kvs : List (κ × V)} {vs : List (κ × Value)} (r : KV kvs vs) (k : κ) {y : V} {u : Value} (ry : RelV y u) : KV (putK kvs k y) (stored vs k u) := by
  unfold putK stored
  rw [r.any k]
  by_cases e : (vs.any fun kv => decide (kv.1 = k)) = true
  · rw [if_pos e, if_pos e]; exact r.repl k ry
  · rw [if_neg e, if_neg e]; exact Paired.snoc r ⟨rfl, ry⟩
theorem KV.drop {kvs : List (κ × V)} {vs : List (κ × Value)} (r : KV kvs vs) (k : κ) : KV (dropK kvs k) (without vs k) := by
  unfold KV at r ⊢
  unfold dropK without
  induction r with
  | nil => exact .nil
  | @cons p q ps qs h t ih =>
    obtain ⟨h1, h2⟩ := h
    rw [List.filter_cons, List.filter_cons]
    by_cases e : p.1 = k
    · have a : ¬ decide (p.1 ≠ k) = true := by simp [e]
      have b : ¬ decide (q.1 ≠ k) = true := by simp [h1.symm.trans e]
      rw [if_neg a, if_neg b]; exact ih
    · have e' : ¬ q.1 = k := fun z => e (h1.trans z)
      have a : decide (p.1 ≠ k) = true := by simp [e]
      have b : decide (q.1 ≠ k) = true := by simp [e']
      rw [if_pos a, if_pos b]; exact .cons ⟨h1, h2⟩ ih
theorem KV.keys {kvs : List (κ × V)} {vs : List (κ × Value)} (r : KV kvs vs) : kvs.map (·.1) = vs.map (·.1) := by
  unfold KV at r
  induction r with
  | nil => rfl
  | cons h t ih => rw [List.map_cons, List.map_cons, ih, h.1]
theorem KV.length {kvs : List (κ × V)} {vs : List (κ × Value)} (r : KV kvs vs) : kvs.length = vs.length := Paired.length r
theorem dropK_le (kvs : List (κ × V)) (k : κ) : (dropK kvs k).length ≤ kvs.length := List.length_filter_le _ _
end


/-! ### a tracked dict, its keys ints and texts or tuples of these -/
theorem kV_is {P : Program} {w : World} {k : Key} {u : Value} (r : RelV (kV k) u) : (mixKind P w).is k u = true := by
  cases k with
  | inl i => obtain ⟨t, e⟩ := (show ∃ t, u = Value.int i t from r); subst e; exact mixKind_int P w i t
  | inr x => obtain ⟨t, e⟩ := (show ∃ t, u = Value.str x t from r); subst e; exact mixKind_str P w x t
theorem kV_inj {a b : Key} (e : kV a = kV b) : a = b := by
  cases a with
  | inl i => cases b with
    | inl j => have e' : V.int i = V.int j := e; injection e' with e'; rw [e']
    | inr y => exact nomatch (show V.int i = V.str y from e)
  | inr x => cases b with
    | inl j => exact nomatch (show V.str x = V.int j from e)
    | inr y => have e' : V.str x = V.str y := e; injection e' with e'; rw [e']
theorem kVs_inj : ∀ {a b : List Key}, a.map kV = b.map kV → a = b
  | [], [], _ => rfl
  | [], _ :: _, e => by simp at e
  | _ :: _, [], e => by simp at e
  | x :: xs, y :: ys, e => by
    rw [List.map_cons, List.map_cons] at e
    injection e with e1 e2
    rw [kV_inj e1, kVs_inj e2]
theorem items_are {P : Program} {w : World} : ∀ {ks : List Key} {us : List Value}, Vals (ks.map kV) us → ItemsAre (mixKind P w) ks us
  | [], _, r => by rw [List.map_nil] at r; cases r; exact .nil
  | k :: ks, _, r => by
    rw [List.map_cons] at r
    cases r with
    | cons h t => exact .cons (kV_is h) (items_are t)

/-- raw entries of a dict with tuple keys -/
abbrev KT (H : Hp) : List (List Key × V) → List (List Key × Addr × Value) → Prop := Paired fun p q => p.1 = q.1 ∧ H q.2.1 = some (.tup (p.1.map kV)) ∧ RelV p.2 q.2.2
theorem KT.val {H : Hp} {kvs : List (List Key × V)} {xs : List (List Key × Addr × Value)} (r : KT H kvs xs) (k : List Key) : RelO (valV kvs k) ((atKey xs k).map (·.2)) := by
  induction r with
  | nil => exact True.intro
  | @cons p q ps qs h t ih =>
    obtain ⟨h1, _, h2⟩ := h
    by_cases e : p.1 = k
    · have e' : q.1 = k := h1.symm.trans e
      have b : atKey (q :: qs) k = some q.2 := by simp [atKey, List.find?_cons, e']
      rw [valV_pos e, b]; exact h2
    · have e' : ¬ q.1 = k := fun z => e (h1.trans z)
      have b : atKey (q :: qs) k = atKey qs k := by simp [atKey, List.find?_cons, e']
      rw [valV_neg e, b]; exact ih
theorem KT.repl {H : Hp} {kvs : List (List Key × V)} {xs : List (List Key × Addr × Value)} (r : KT H kvs xs) (k : List Key) {y : V} {u : Value} (ry : RelV y u) :
    KT H (kvs.map fun kv => if kv.1 = k then (kv.1, y) else kv) (xs.map (putAt k u)) := by
  induction r with
  | nil => exact .nil
  | @cons p q ps qs h t ih =>
    rw [List.map_cons, List.map_cons]
    refine .cons ?_ ih
    obtain ⟨h1, h2, h3⟩ := h
    unfold putAt
    by_cases e : p.1 = k
    · rw [if_pos e, if_pos (h1.symm.trans e)]; exact ⟨h1, h2, ry⟩
    · rw [if_neg e, if_neg (fun z => e (h1.trans z))]; exact ⟨h1, h2, h3⟩
theorem KT.put {H : Hp} {kvs : List (List Key × V)} {xs : List (List Key × Addr × Value)} (r : KT H kvs xs) (k : List Key) {b : Addr} {y : V} {u : Value} (hb : H b = some (.tup (k.map kV))) (ry : RelV y u) :
    KT H (putK kvs k y) (storedH xs k b u) := by
  have e : (kvs.any fun kv => decide (kv.1 = k)) = (atKey xs k).isSome := by
    rw [valV_any, (r.val k).isSome_eq, Option.isSome_map]
  unfold putK storedH
  rw [e]
  by_cases q : (atKey xs k).isSome = true
  · rw [if_pos q, if_pos q]; exact r.repl k ry
  · rw [if_neg q, if_neg q]; exact Paired.snoc r ⟨rfl, hb, ry⟩
theorem KT.keeps {H H' : Hp} {kvs : List (List Key × V)} {xs : List (List Key × Addr × Value)} (r : KT H kvs xs) (ht : ∀ b ys, H b = some (.tup ys) → H' b = some (.tup ys)) : KT H' kvs xs :=
  Paired.mapP r fun _ _ z => ⟨z.1, ht _ _ z.2.1, z.2.2⟩

section
variable {P : Program} {w : World} {H : Hp} {h : Heap} {a : Addr}
theorem rd_of {u : HO} (ok : HOk P w H h) (e : Rd H a u) : ObjOk P w H h a u := e.ok ok
theorem dk_rd {kvs : List (Key × V)} (ok : HOk P w H h) (e : Rd H a (.dK kvs)) : kvs.length ≤ sizeLine ∧ (a == sysModules) = false ∧ ∃ vs, KV kvs vs ∧ h.DictOf (mixKind P w) a vs :=
  show ObjOk P w H h a (.dK kvs) from rd_of ok e
theorem dk_of {kvs : List (Key × V)} (ok : HOk P w H h) (e : H a = some (.dK kvs)) : kvs.length ≤ sizeLine ∧ (a == sysModules) = false ∧ ∃ vs, KV kvs vs ∧ h.DictOf (mixKind P w) a vs := dk_rd ok (.inl e)
/-- a tracked tuple of ints and texts is a key -/
theorem key_of {ks : List Key} (ok : HOk P w H h) (e : H a = some (.tup (ks.map kV))) : (tupleKind (mixKind P w)).is h ks a := by
  obtain ⟨_, its, r, o, h1, h2, n, h3⟩ := (show ObjOk P w H h a (.tup (ks.map kV)) from ok a _ e)
  exact ⟨o, its.toArray, n, h1, h2, h3, by simpa using items_are r⟩
theorem dt_rd {kvs : List (List Key × V)} (ok : HOk P w H h) (e : Rd H a (.dT kvs)) : kvs.length ≤ sizeLine ∧ (a == sysModules) = false ∧
    ∃ xs, KT H kvs xs ∧ h.DictOfH (tupleKind (mixKind P w)) a xs := by
  obtain ⟨z, y, xs, r, o, es, ep, h1, h2, h3, h4, h5⟩ := (show ObjOk P w H h a (.dT kvs) from rd_of ok e)
  refine ⟨z, y, xs, r, o, es, ep, h1, h2, h3, h4, fun x hx => ?_, h5⟩
  have all : ∀ {l : List (List Key × V)} {m : List (List Key × Addr × Value)}, KT H l m → ∀ x ∈ m, (tupleKind (mixKind P w)).is h x.1 x.2.1 := by
    intro l m q
    induction q with
    | nil => intro x hx; exact nomatch hx
    | @cons p q ps qs hq t ih =>
      intro x hx
      rcases List.mem_cons.mp hx with e | hx
      · subst e
        exact key_of ok (by rw [← hq.1]; exact hq.2.1)
      · exact ih x hx
  exact all r x hx
theorem dt_of {kvs : List (List Key × V)} (ok : HOk P w H h) (e : H a = some (.dT kvs)) : kvs.length ≤ sizeLine ∧ (a == sysModules) = false ∧
    ∃ xs, KT H kvs xs ∧ h.DictOfH (tupleKind (mixKind P w)) a xs := dt_rd ok (.inl e)
end

/-- what the dict at a holds at the key y -/
def DGet (H : Hp) (a : Addr) (y : V) (r : Option V) : Prop :=
  (∃ kvs k, Rd H a (.dK kvs) ∧ y = kV k ∧ r = valV kvs k) ∨ ∃ kvs k b, Rd H a (.dT kvs) ∧ y = .ref b ∧ H b = some (.tup (k.map kV)) ∧ r = valV kvs k
/-- the heap behind a[y] = v -/
def DPut (H : Hp) (a : Addr) (y v : V) (H' : Hp) : Prop :=
  (∃ kvs k, H a = some (.dK kvs) ∧ y = kV k ∧ kvs.length < sizeLine ∧ H' = upd H a (.dK (putK kvs k v))) ∨
  ∃ kvs k b, H a = some (.dT kvs) ∧ y = .ref b ∧ H b = some (.tup (k.map kV)) ∧ kvs.length < sizeLine ∧ H' = upd H a (.dT (putK kvs k v))
theorem DGet.k {H : Hp} {a : Addr} {kvs : List (Key × V)} {k : Key} (e : H a = some (.dK kvs)) : DGet H a (kV k) (valV kvs k) := .inl ⟨kvs, k, .inl e, rfl, rfl⟩
theorem DGet.t {H : Hp} {a b : Addr} {kvs : List (List Key × V)} {k : List Key} (e : H a = some (.dT kvs)) (eb : H b = some (.tup (k.map kV))) : DGet H a (.ref b) (valV kvs k) := .inr ⟨kvs, k, b, .inl e, rfl, eb, rfl⟩
theorem DPut.k {H : Hp} {a : Addr} {kvs : List (Key × V)} {k : Key} {v : V} (e : H a = some (.dK kvs)) (hl : kvs.length < sizeLine) : DPut H a (kV k) v (upd H a (.dK (putK kvs k v))) := .inl ⟨kvs, k, e, rfl, hl, rfl⟩
theorem DPut.t {H : Hp} {a b : Addr} {kvs : List (List Key × V)} {k : List Key} {v : V} (e : H a = some (.dT kvs)) (eb : H b = some (.tup (k.map kV))) (hl : kvs.length < sizeLine) :
    DPut H a (.ref b) v (upd H a (.dT (putK kvs k v))) := .inr ⟨kvs, k, b, e, rfl, eb, hl, rfl⟩


section
variable {X : Cx} {pins : List (Addr × Obj)} {σ : St} {H : Hp} {s : Shared} {a : Addr} {y v : V} {u r : Value} {o : Option V} {A : Around} {E : Value → Shared → Prop}

theorem Inv.big (I : Inv X pins σ H s) : sysModules < s.heap.objs.size := by
  have h : mainGlobals < s.heap.objs.size := (I.mod.glob.keeps I.bk).lt
  exact Nat.lt_trans (by decide) h

/-- d[y], there -/
theorem d_getItem {Q : Value → Shared → Prop} (hu : A.units + 1 < cLine) (I : Inv X pins σ H s) (g : DGet H a y (some v)) (ry : RelV y u) (h : ∀ w' s', Inv X pins σ H s' → RelV v w' → Q w' s') :
    wpAny (model X.prog X.w) A (getItem (.ref a) u) Q E s := by
  rcases g with ⟨kvs, k, e, ey, l⟩ | ⟨kvs, k, b, e, ey, eb, l⟩
  · subst ey
    obtain ⟨z, hd, vs, rel, dd⟩ := dk_rd I.hok e
    obtain ⟨w', hw, rw'⟩ := RelO.some_of (v := v) (o := valueAt vs k) (by rw [l]; exact rel.val k)
    exact wpAny_getItem_of (kV_is ry) dd.mapOf hw (h w' _ (I.tok _) rw')
  · subst ey
    cases (show u = Value.ref b from ry)
    obtain ⟨z, hd, xs, rel, dd⟩ := dt_rd I.hok e
    obtain ⟨w', hw, rw'⟩ := RelO.some_of (v := v) (o := (atKey xs k).map (·.2)) (by rw [l]; exact rel.val k)
    obtain ⟨p, hp, hp2⟩ := Option.map_eq_some_iff.mp hw
    refine wpAny_getItem_heap (tupleKind_room_in1 hu) (key_of I.hok eb) dd hp ?_
    rw [hp2]
    exact h w' _ (I.tok _) rw'
/-- y in d -/
theorem d_in {Q : Value → Shared → Prop} (hu : A.units + 1 < cLine) (I : Inv X pins σ H s) (g : DGet H a y o) (ry : RelV y u) (h : ∀ s', Inv X pins σ H s' → Q (.bool o.isSome) s') :
    wpAny (model X.prog X.w) A (compareOp .In u (.ref a)) Q E s := by
  rcases g with ⟨kvs, k, e, ey, l⟩ | ⟨kvs, k, b, e, ey, eb, l⟩
  · subst ey
    obtain ⟨z, hd, vs, rel, dd⟩ := dk_rd I.hok e
    refine wpAny_in_of (kV_is ry) hd dd.mapOf ?_
    rw [← (rel.val k).isSome_eq, ← l]
    exact h _ (I.tok _)
  · subst ey
    cases (show u = Value.ref b from ry)
    obtain ⟨z, hd, xs, rel, dd⟩ := dt_rd I.hok e
    refine wpAny_in_heap (tupleKind_room_in1 hu) (key_of I.hok eb) hd dd ?_
    have q := (rel.val k).isSome_eq
    rw [Option.isSome_map] at q
    rw [← q, ← l]
    exact h _ (I.tok _)
theorem d_notIn {Q : Value → Shared → Prop} (hu : A.units + 1 < cLine) (I : Inv X pins σ H s) (g : DGet H a y o) (ry : RelV y u) (h : ∀ s', Inv X pins σ H s' → Q (.bool (!o.isSome)) s') :
    wpAny (model X.prog X.w) A (compareOp .NotIn u (.ref a)) Q E s := by
  rcases g with ⟨kvs, k, e, ey, l⟩ | ⟨kvs, k, b, e, ey, eb, l⟩
  · subst ey
    obtain ⟨z, hd, vs, rel, dd⟩ := dk_rd I.hok e
    refine wpAny_notIn_of (kV_is ry) hd dd.mapOf ?_
    rw [← (rel.val k).isSome_eq, ← l]
    exact h _ (I.tok _)
  · subst ey
    cases (show u = Value.ref b from ry)
    obtain ⟨z, hd, xs, rel, dd⟩ := dt_rd I.hok e
    refine wpAny_notIn_heap (tupleKind_room_in1 hu) (key_of I.hok eb) hd dd ?_
    have q := (rel.val k).isSome_eq
    rw [Option.isSome_map] at q
    rw [← q, ← l]
    exact h _ (I.tok _)
/-- a dict's object is replaced -/
theorem d_write {h' : Heap} {t' : Nat} {ob : HO} (I : Inv X pins σ H s) (mu : Mut (H a)) (hs : Heap.SameBut a s.heap h') (he : ∃ q, h'.get? a = some q) (new : ObjOk X.prog X.w (upd H a ob) h' a ob) :
    Inv X pins σ (upd H a ob) { s with heap := h', toks := t' } :=
  I.write (x := a) (e := a) mu (.inl rfl) (fun b q hb z => (hs.2 b hb).trans z) he new
theorem dk_new {P : Program} {w : World} {H' : Hp} {h' : Heap} {kvs : List (Key × V)} {vs : List (Key × Value)} (z : kvs.length ≤ sizeLine) (hd : (a == sysModules) = false) (rel : KV kvs vs) (dd : h'.DictOf (mixKind P w) a vs) :
    ObjOk P w H' h' a (.dK kvs) := ⟨z, hd, vs, rel, dd⟩
/-- d[y] = v -/
theorem d_setItem {H' : Hp} {Q : Unit → Shared → Prop} (hu : A.units + 1 < cLine) (I : Inv X pins σ H s) (g : DPut H a y v H') (ry : RelV y u) (rv : RelV v r) (h : ∀ s', Inv X pins σ H' s' → Q () s') :
    wpAny (model X.prog X.w) A (setItem (.ref a) u r) Q E s := by
  rcases g with ⟨kvs, k, e, ey, l, eH⟩ | ⟨kvs, k, b, e, ey, eb, l, eH⟩
  · subst ey eH
    obtain ⟨z, hd, vs, rel, dd⟩ := dk_of I.hok e
    have hz : vs.length ≤ sizeLine := by rw [← rel.length]; exact z
    have hl : (putK kvs k v).length ≤ sizeLine := by have := length_putK kvs k v; omega
    refine wpAny_setItem_pairs (hsz := hz) (kV_is ry) dd fun h' dd' hs => h _ ?_
    have he : ∃ q, h'.get? a = some q := let ⟨q, _, _, hq, _⟩ := dd'; ⟨q, hq⟩
    exact d_write I (by rw [e]; exact True.intro) hs he (dk_new hl hd (rel.put k rv) dd')
  · subst ey eH
    cases (show u = Value.ref b from ry)
    obtain ⟨z, hd, xs, rel, dd⟩ := dt_of I.hok e
    have hz : xs.length ≤ sizeLine := by rw [← Paired.length rel]; exact z
    have hl : (putK kvs k v).length ≤ sizeLine := by have := length_putK kvs k v; omega
    refine wpAny_setItem_heap (hsz := hz) (tupleKind_room_in1 hu) (key_of I.hok eb) dd fun h' dd' hs => h _ ?_
    obtain ⟨q, es, ep, hq, h2, h3, h4, _, h5⟩ := dd'
    refine d_write I (by rw [e]; exact True.intro) hs ⟨q, hq⟩ ⟨hl, hd, _, (rel.put k eb rv).keeps fun c ys ec => ?_, q, es, ep, hq, h2, h3, h4, h5⟩
    rw [upd_ne (ne_of ec e (fun z => nomatch z))]
    exact ec
end

section
variable {X : Cx} {pins : List (Addr × Obj)} {σ : St} {H : Hp} {s : Shared} {a : Addr} {kvs : List (Key × V)} {k : Key} {u : Value} {A : Around} {E : Value → Shared → Prop}
/-- del d[k] -/
theorem d_delItem {Q : Unit → Shared → Prop} (I : Inv X pins σ H s) (e : H a = some (.dK kvs)) (ry : RelV (kV k) u) (l : (valV kvs k).isSome = true) (h : ∀ s', Inv X pins σ (upd H a (.dK (dropK kvs k))) s' → Q () s') :
    wpAny (model X.prog X.w) A (delItem (.ref a) u) Q E s := by
  obtain ⟨z, hd, vs, rel, dd⟩ := dk_of I.hok e
  refine wpAny_delItem_slot dd.typeIs (by decide) PySem.F.slot_dict_delitem
    (call_meetsIn PySem.F.slot_dict_delitem dd.typeIs PySem.F.entry_dict_delitem (PySem.F.args_dict_delitem_2 _ _) (meets_dict_delitem_pairs (mixKind X.prog X.w) a (kV_is ry)) ⟨vs, dd, by rw [← rel.length]; exact z, by rw [← (rel.val k).isSome_eq]; exact l, fun h' dd' hs => h _ ?_⟩)
  have he : ∃ q, h'.get? a = some q := let ⟨q, _, _, hq, _⟩ := dd'; ⟨q, hq⟩
  exact d_write I (by rw [e]; exact True.intro) hs he (dk_new (Nat.le_trans (dropK_le kvs k) z) hd (rel.drop k) dd')
/-- d.pop(k[, x]), there -/
theorem d_pop {v : V} {more : List Value} {Q : Value → Shared → Prop} (I : Inv X pins σ H s) (e : H a = some (.dK kvs)) (ry : RelV (kV k) u) (l : valV kvs k = some v) (hm : more = [] ∨ ∃ x, more = [x])
    (h : ∀ w' s', Inv X pins σ (upd H a (.dK (dropK kvs k))) s' → RelV v w' → Q w' s') : wpAny (model X.prog X.w) A (call (.builtin "dict.pop") (.ref a :: u :: more)) Q E s := by
  obtain ⟨z, hd, vs, rel, dd⟩ := dk_of I.hok e
  obtain ⟨w', hw, rw'⟩ := RelO.some_of (v := v) (o := valueAt vs k) (by rw [← l]; exact rel.val k)
  have hp : (keyPart u).isSome = true := by
    cases k with
    | inl i => obtain ⟨t, q⟩ := (show ∃ t, u = Value.int i t from ry); subst q; rfl
    | inr x => obtain ⟨t, q⟩ := (show ∃ t, u = Value.str x t from ry); subst q; rfl
  have ha : argsOk "dict.pop" ⟨.ref a :: u :: more, []⟩ := by
    rcases hm with q | ⟨x, q⟩
    · subst q; exact PySem.F.args_dict_pop_2 _ _
    · subst q; exact PySem.F.args_dict_pop_3 _ _ _
  refine call_meetsIn PySem.F.slot_dict_pop dd.typeIs PySem.F.entry_dict_pop ha (meets_dict_pop_there (mixKind X.prog X.w) a (kV_is ry) more hm hp)
    ⟨vs, w', dd, by rw [← rel.length]; exact z, hw, fun h' dd' hs => h w' _ ?_ rw'⟩
  have he : ∃ q, h'.get? a = some q := let ⟨q, _, _, hq, _⟩ := dd'; ⟨q, hq⟩
  exact d_write I (by rw [e]; exact True.intro) hs he (dk_new (Nat.le_trans (dropK_le kvs k) z) hd (rel.drop k) dd')
/-- d.pop(k, x), not there -/
theorem d_popD {r : Value} {Q : Value → Shared → Prop} (I : Inv X pins σ H s) (e : H a = some (.dK kvs)) (ry : RelV (kV k) u) (l : valV kvs k = none) (h : ∀ s', Inv X pins σ H s' → Q r s') :
    wpAny (model X.prog X.w) A (call (.builtin "dict.pop") [.ref a, u, r]) Q E s := by
  obtain ⟨z, hd, vs, rel, dd⟩ := dk_of I.hok e
  have hn : valueAt vs k = none := RelO.none_of (by rw [← l]; exact rel.val k)
  have hp : (keyPart u).isSome = true := by
    cases k with
    | inl i => obtain ⟨t, q⟩ := (show ∃ t, u = Value.int i t from ry); subst q; rfl
    | inr x => obtain ⟨t, q⟩ := (show ∃ t, u = Value.str x t from ry); subst q; rfl
  exact call_meetsIn PySem.F.slot_dict_pop dd.typeIs PySem.F.entry_dict_pop (PySem.F.args_dict_pop_3 _ _ _) (meets_dict_pop_default (mixKind X.prog X.w) a (kV_is ry) hd hp r) ⟨vs, dd, hn, h _ (I.tok _)⟩
/-- d.clear() -/
theorem d_clear {Q : Value → Shared → Prop} (I : Inv X pins σ H s) (e : H a = some (.dK kvs)) (h : ∀ s', Inv X pins σ (upd H a (.dK [])) s' → Q .none s') : wpAny (model X.prog X.w) A (call (.builtin "dict.clear") [.ref a]) Q E s := by
  obtain ⟨z, hd, vs, rel, dd⟩ := dk_of I.hok e
  refine call_meetsIn PySem.F.slot_dict_clear dd.typeIs PySem.F.entry_dict_clear (PySem.F.args_dict_clear_1 _) (meets_dict_clear (mixKind X.prog X.w) a) ⟨vs, dd, by rw [← rel.length]; exact z, fun h' dd' hs => h _ ?_⟩
  have he : ∃ q, h'.get? a = some q := let ⟨q, _, _, hq, _⟩ := dd'; ⟨q, hq⟩
  exact d_write (t' := s.toks) I (by rw [e]; exact True.intro) hs he (dk_new (Nat.zero_le _) hd .nil dd')
/-- len(d) -/
theorem d_len {Q : Value → Shared → Prop} (I : Inv X pins σ H s) (e : Rd H a (.dK kvs)) (h : ∀ t s', Inv X pins σ H s' → Q (.int kvs.length t) s') : wpAny (model X.prog X.w) A (call (.builtin "len") [.ref a]) Q E s := by
  obtain ⟨z, hd, vs, rel, dd⟩ := dk_rd I.hok e
  refine call_len_dict hd dd (by rw [← rel.length]; rw [sizeLine_eq] at z; omega) ?_
  rw [← rel.length]
  exact h _ _ (I.tok _)
/-- if d -/
theorem d_truth {Q : Bool → Shared → Prop} (I : Inv X pins σ H s) (e : Rd H a (.dK kvs)) (h : ∀ s', Inv X pins σ H s' → Q (!kvs.isEmpty) s') : wpAny (model X.prog X.w) A (truthy (.ref a)) Q E s := by
  obtain ⟨z, hd, vs, rel, dd⟩ := dk_rd I.hok e
  refine wpAny_truthy_dict hd dd (by rw [← rel.length]; rw [sizeLine_eq] at z; omega) ?_
  have q : kvs.isEmpty = vs.isEmpty := by cases rel <;> rfl
  rw [← q]
  exact h _ (I.tok _)
end


/-! ### readings and rules -/
/-- the element of a subscription, not a slice -/
def NoSl (i : Expr) : Prop := ∀ ov iv, subscripted i false ov iv = operate [ov, iv] (getItem ov iv)
theorem subD_of {prog : Program} {w : World} {A : Around} {E : Value → Shared → Prop} {s : Shared} {env : Env} {value slice : Expr} {pos : Pos} {T id : String} {Q : Value → Shared → Prop}
    (hl : typeLookup (.type T) "__getitem__" = pure (some (.builtin id))) (hs : NoSl slice)
    (h : wpAny (model prog w) A (eval value env) (fun o s₁ => wpAny (model prog w) A (eval slice env) (fun i s₂ => s₂.TypeIs o T ∧ wpAny (model prog w) A (getItem o i) Q E s₂) E s₁) E s) :
    wpAny (model prog w) A (eval (.Subscript value slice pos) env) Q E s := by
  refine Subscript_ (wpAny_mono h (fun o s₁ h₁ => wpAny_mono h₁ (fun i s₂ h₂ => ?_) fun _ _ x => x) fun _ _ x => x)
  obtain ⟨hT, h₂⟩ := h₂
  unfold subscriptTail
  refine wpAny_bind ?_
  rw [getitemInPython_of_ne hT.not_modules]
  refine wpAny_bind (wpAny_specialOf hT hl ?_)
  have fin : wpAny (model prog w) A (subscripted slice false o i) (fun r s₃ => wpAny (model prog w) A (letTemporaryGo value o r >>= fun _ => pure r) Q E s₃) E s₂ := by
    rw [hs o i]
    exact wpAny_operating (wpAny_mono h₂ (fun r s₃ h₃ => wpAny_bind (wpAny_letTemporaryGo (wpAny_pure h₃))) fun _ _ x => x)
  first
    | exact wpAny_pure (wpAny_bind fin)
    | exact wpAny_bind (wpAny_pure (wpAny_bind fin))
    | exact wpAny_bind fin

theorem dict_typeIs {X : Cx} {pins : List (Addr × Obj)} {σ : St} {H : Hp} {s : Shared} {a : Addr} {y : V} {o : Option V} (I : Inv X pins σ H s) (g : DGet H a y o) : s.TypeIs (.ref a) "dict" := by
  rcases g with ⟨kvs, k, e, _, _⟩ | ⟨kvs, k, b, e, _, _, _⟩
  · obtain ⟨_, _, vs, _, dd⟩ := dk_rd I.hok e
    exact dd.typeIs
  · obtain ⟨_, _, xs, _, dd⟩ := dt_rd I.hok e
    exact dd.typeIs
theorem dict_noDict {X : Cx} {pins : List (Addr × Obj)} {σ : St} {H : Hp} {s : Shared} {a : Addr} {y : V} {o : Option V} (I : Inv X pins σ H s) (g : DGet H a y o) :
    ∀ b, Value.ref a = .ref b → ∃ ob, s.heap.get? b = some ob ∧ ob.dict = none := fun b q => by
  cases q
  rcases g with ⟨kvs, k, e, _, _⟩ | ⟨kvs, k, b, e, _, _, _⟩
  · obtain ⟨_, _, vs, _, ob, _, _, h1, h2, _⟩ := dk_rd I.hok e
    exact ⟨ob, h1, h2.2.1⟩
  · obtain ⟨_, _, xs, _, ob, _, _, h1, h2, _⟩ := dt_rd I.hok e
    exact ⟨ob, h1, h2.2.1⟩

/-- d[y] -/
def tDGet (td ty : TE) : TE := fun σ H Q => td σ H fun x H1 => ty σ H1 fun y H2 => ∃ a v, x = .ref a ∧ DGet H2 a y (some v) ∧ Q v H2
/-- y in d, y not in d -/
def tDIn (ty td : TE) : TE := fun σ H Q => ty σ H fun y H1 => td σ H1 fun x H2 => ∃ a o, x = .ref a ∧ DGet H2 a y o ∧ Q (.bl o.isSome) H2
def tDNotIn (ty td : TE) : TE := fun σ H Q => ty σ H fun y H1 => td σ H1 fun x H2 => ∃ a o, x = .ref a ∧ DGet H2 a y o ∧ Q (.bl (!o.isSome)) H2
/-- d[y] = v -/
def sDPut (td ty tv : TE) : TS := fun D σ H => tv σ H fun v H1 => td σ H1 fun x H2 => ty σ H2 fun y H3 => ∃ a H4, x = .ref a ∧ DPut H3 a y v H4 ∧ D.nx σ H4
/-- d[y] op= v -/
def sDAug (td ty tv : TE) (rd : V → V → Hp → VK → Prop) : TS := fun D σ H => td σ H fun x H1 => ty σ H1 fun y H2 => ∃ a v, x = .ref a ∧ DGet H2 a y (some v) ∧
  tv σ H2 fun y2 H3 => rd v y2 H3 fun z H4 => ∃ H5, DPut H4 a y z H5 ∧ D.nx σ H5
/-- del d[y] -/
def sDDel (td ty : TE) : TS := fun D σ H => td σ H fun x H1 => ty σ H1 fun y H2 => ∃ a kvs k, x = .ref a ∧ H2 a = some (.dK kvs) ∧ y = kV k ∧ (valV kvs k).isSome = true ∧ D.nx σ (upd H2 a (.dK (dropK kvs k)))

section
variable {X : Cx} {o i e value : Expr} {pos pos' tpos : Pos} {td ty tv : TE}
theorem pe_dget (hu : X.A.units + 1 < cLine) (ho : PE X o td) (hi : PE X i ty) (hs : NoSl i) : PE X (.Subscript o i pos) (tDGet td ty) := by
  intro pins s σ H Q I h
  refine subD_of PySem.F.slot_dict_getitem.lookup hs (thn (ho pins s σ H _ I h) fun u s1 ⟨x, H1, I1, rx, q1⟩ => thn (hi pins s1 σ H1 _ I1 q1) fun iv s2 ⟨y, H2, I2, ry, a, v, ex, g, q2⟩ => ?_)
  subst ex
  obtain rfl : u = Value.ref a := rx
  exact ⟨dict_typeIs I2 g, d_getItem hu I2 g ry fun w' s3 I3 rw' => ⟨v, H2, I3, rw', q2⟩⟩
theorem pc_din (hu : X.A.units + 1 < cLine) (hi : PE X i ty) (ho : PE X o td) : PC X .In i o (tDIn ty td) := by
  intro pins s σ H Q I h
  refine thn (hi pins s σ H _ I h) fun iv s1 ⟨y, H1, I1, ry, q1⟩ => thn (ho pins s1 σ H1 _ I1 q1) fun u s2 ⟨x, H2, I2, rx, a, ov, ex, g, q2⟩ => ?_
  subst ex
  obtain rfl : u = Value.ref a := rx
  exact d_in hu I2 g ry fun s3 I3 => ⟨.bl ov.isSome, H2, I3, rfl, q2⟩
theorem pc_dnotin (hu : X.A.units + 1 < cLine) (hi : PE X i ty) (ho : PE X o td) : PC X .NotIn i o (tDNotIn ty td) := by
  intro pins s σ H Q I h
  refine thn (hi pins s σ H _ I h) fun iv s1 ⟨y, H1, I1, ry, q1⟩ => thn (ho pins s1 σ H1 _ I1 q1) fun u s2 ⟨x, H2, I2, rx, a, ov, ex, g, q2⟩ => ?_
  subst ex
  obtain rfl : u = Value.ref a := rx
  exact d_notIn hu I2 g ry fun s3 I3 => ⟨.bl (!ov.isSome), H2, I3, rfl, q2⟩
theorem ps_dput (hu : X.A.units + 1 < cLine) (ho : PE X o td) (hi : PE X i ty) (hv : PE X value tv) (hs : swapsWith value (some (.Subscript o i pos')) pos.line X.env = pure false) :
    PS X (.Assign [.Subscript o i pos'] value pos) (sDPut td ty tv) := by
  intro pins s σ H D I h
  refine wpAny_Assign_Subscript (thn (hv pins s σ H _ I h) fun r s1 ⟨v, H1, I1, rv, q1⟩ => thn (ho pins s1 σ H1 _ I1 q1) fun u s2 ⟨x, H2, I2, rx, q2⟩ => thn (hi pins s2 σ H2 _ I2 q2) fun iv s3 ⟨y, H3, I3, ry, a, H4, ex, g, q3⟩ => ?_) hs
  subst ex
  obtain rfl : u = Value.ref a := rx
  exact d_setItem hu I3 g ry rv fun s4 I4 => ⟨σ, H4, I4, q3⟩
theorem ps_daug {op : Operator} {rd : V → V → Hp → VK → Prop} (hu : X.A.units + 1 < cLine) (ho : PE X o td) (hi : PE X i ty) (hv : PE X value tv) (hop : InOp X op rd)
    (ha : ∀ ov iv new, augStore i ov iv new = (do holding [new, ov, iv] (setItem ov iv new); release [new, ov, iv] []; pure .next)) : PS X (.AugAssign (.Subscript o i tpos) op value pos) (sDAug td ty tv rd) := by
  intro pins s σ H D I h
  refine wpAny_AugAssign_SubscriptAny (thn (ho pins s σ H _ I h) fun u s1 ⟨x, H1, I1, rx, q1⟩ => thn (hi pins s1 σ H1 _ I1 q1) fun iv s2 ⟨y, H2, I2, ry, a, v, ex, g, q2⟩ => ?_) ha
  subst ex
  obtain rfl : u = Value.ref a := rx
  refine d_getItem hu I2 g ry fun w' s3 I3 rw' => thn (hv pins s3 σ H2 _ I3 q2) fun w2 s4 ⟨y2, H3, I4, ry2, q3⟩ => thn (hop pins s4 σ H3 v y2 w' w2 _ I4 rw' ry2 q3) fun w3 s5 ⟨z, H4, I5, rz, H5, g5, q4⟩ => ?_
  exact d_setItem hu I5 g5 ry rz fun s6 I6 => ⟨σ, H5, I6, q4⟩
theorem ps_ddel (ho : PE X o td) (hi : PE X i ty) : PS X (.Delete [.Subscript o i tpos] pos) (sDDel td ty) := by
  intro pins s σ H D I h
  refine wpAny_Delete (wpAny_deleteEach_cons (wpAny_delete_Subscript (thn (ho pins s σ H _ I h) fun u s1 ⟨x, H1, I1, rx, q1⟩ => thn (hi pins s1 σ H1 _ I1 q1) fun iv s2 ⟨y, H2, I2, ry, a, kvs, k, ex, e, ey, l, q2⟩ => ?_)))
  subst ex ey
  obtain rfl : u = Value.ref a := rx
  exact d_delItem I2 e ry l fun s3 I3 => wpAny_deleteEach_nil ⟨σ, _, I3, q2⟩
end


/-! ### displays -/
theorem dk_empty {P : Program} {w : World} {H : Hp} (h : Heap) (hb : sysModules < h.objs.size) : ObjOk P w H (h.push { cls := .type "dict", data := .dict #[] }) h.objs.size (.dK []) :=
  ⟨Nat.zero_le _, beq_eq_false_iff_ne.mpr (Ne.symm (Nat.ne_of_lt hb)), [], .nil, Heap.DictOf.new h⟩
theorem dt_empty {P : Program} {w : World} {H : Hp} (h : Heap) (hb : sysModules < h.objs.size) : ObjOk P w H (h.push { cls := .type "dict", data := .dict #[] }) h.objs.size (.dT []) :=
  ⟨Nat.zero_le _, beq_eq_false_iff_ne.mpr (Ne.symm (Nat.ne_of_lt hb)), [], .nil, _, #[], 0, Heap.get?_push_size _ rfl, ⟨rfl, rfl, rfl⟩, rfl, rfl, List.nodup_nil⟩
/-- {}, to be a dict of the kind that is wanted -/
def tDNewK : TE := fun _ H Q => ∀ p, H p = none → Q (.ref p) (upd H p (.dK []))
def tDNewT : TE := fun _ H Q => ∀ p, H p = none → Q (.ref p) (upd H p (.dT []))
section
variable {X : Cx} {pos : Pos}
theorem pe_dnewK : PE X (.Dict [] [] pos) tDNewK := fun pins s σ H Q I h =>
  wpAny_Dict_empty ⟨.ref s.heap.objs.size, _, I.laid (a := s.heap.objs.size) (o := .dK []) (t' := s.toks) (fun _ _ q => Heap.get?_push_of_some _ q) (Nat.le_refl _) (dk_empty s.heap I.big), rfl, h _ (I.hok.fresh (Nat.le_refl _))⟩
theorem pe_dnewT : PE X (.Dict [] [] pos) tDNewT := fun pins s σ H Q I h =>
  wpAny_Dict_empty ⟨.ref s.heap.objs.size, _, I.laid (a := s.heap.objs.size) (o := .dT []) (t' := s.toks) (fun _ _ q => Heap.get?_push_of_some _ q) (Nat.le_refl _) (dt_empty s.heap I.big), rfl, h _ (I.hok.fresh (Nat.le_refl _))⟩
end

/-- the pairs of a display, from the left -/
def tPairs : List (TE × TE) → St → Hp → (List (V × V) → Hp → Prop) → Prop
  | [], _, H, Q => Q [] H
  | (tk, tv) :: r, σ, H, Q => tk σ H fun x H1 => tv σ H1 fun y H2 => tPairs r σ H2 fun ps H3 => Q ((x, y) :: ps) H3
abbrev VV : List (V × V) → List (Value × Value) → Prop := Paired fun p q => RelV p.1 q.1 ∧ RelV p.2 q.2
def PPs (X : Cx) (pos : Pos) (keys : List (Option Expr)) (values : List Expr) (trs : List (TE × TE)) : Prop :=
  ∀ (pins : List (Addr × Obj)) (s : Shared) (σ : St) (H : Hp) (Q : List (V × V) → Hp → Prop), Inv X pins σ H s → tPairs trs σ H Q →
    wpAny (model X.prog X.w) X.A (evalPairs (pairTrees keys values X.env pos)) (fun vs s' => ∃ ps H', Inv X pins σ H' s' ∧ VV ps vs ∧ Q ps H') X.xe s
theorem pps_nil {X : Cx} {pos : Pos} : PPs X pos [] [] [] := fun pins s σ H Q I h => pairTrees_nil_walk ⟨[], H, I, .nil, h⟩
theorem pps_cons {X : Cx} {pos : Pos} {k v : Expr} {ks : List (Option Expr)} {vs : List Expr} {tk tv : TE} {trs : List (TE × TE)} (hk : PE X k tk) (hv : PE X v tv) (hr : PPs X pos ks vs trs) :
    PPs X pos (some k :: ks) (v :: vs) ((tk, tv) :: trs) := fun pins s σ H Q I h =>
  pairTrees_cons_walk (thn (hk pins s σ H _ I h) fun u s1 ⟨x, H1, I1, rx, q1⟩ => thn (hv pins s1 σ H1 _ I1 q1) fun w2 s2 ⟨y, H2, I2, ry, q2⟩ =>
    thn (hr pins s2 σ H2 _ I2 q2) fun ws s3 ⟨ps, H3, I3, rel, q3⟩ => ⟨(x, y) :: ps, H3, I3, .cons ⟨rx, ry⟩ rel, q3⟩)

def mergeK (kvs more : List (Key × V)) : List (Key × V) := more.foldl (fun acc kv => putK acc kv.1 kv.2) kvs
theorem KV.merge : ∀ {more : List (Key × V)} {rs : List (Key × Value)} {kvs : List (Key × V)} {vs : List (Key × Value)}, KV more rs → KV kvs vs → KV (mergeK kvs more) (merged vs rs) := by
  intro more rs kvs vs r
  unfold KV at r
  induction r generalizing kvs vs with
  | nil => intro q; exact q
  | @cons p q ps qs h t ih =>
    intro r0
    have e : KV (putK kvs p.1 p.2) (stored vs q.1 q.2) := by
      have := r0.put p.1 h.2
      rw [← h.1]; exact this
    exact ih e
theorem length_mergeK : ∀ (more kvs : List (Key × V)), (mergeK kvs more).length ≤ kvs.length + more.length
  | [], kvs => by show kvs.length ≤ kvs.length + 0; omega
  | p :: r, kvs => by
    have h1 := length_mergeK r (putK kvs p.1 p.2)
    have h2 := length_putK kvs p.1 p.2
    show (mergeK (putK kvs p.1 p.2) r).length ≤ _
    rw [List.length_cons]; omega
theorem carries_of {P : Program} {w : World} : ∀ {kvs : List (Key × V)} {ws : List (Value × Value)}, VV (kvs.map fun kv => (kV kv.1, kv.2)) ws → ∃ rs, Carries (mixKind P w) ws rs ∧ KV kvs rs
  | [], _, r => by rw [List.map_nil] at r; cases r; exact ⟨[], True.intro, .nil⟩
  | p :: kvs, _, r => by
    rw [List.map_cons] at r
    cases r with
    | @cons a b as bs h t =>
      obtain ⟨rs, c, q⟩ := carries_of (P := P) (w := w) t
      obtain ⟨b1, b2⟩ := b
      exact ⟨(p.1, b2) :: rs, ⟨kV_is h.1, rfl, c⟩, .cons ⟨rfl, h.2⟩ q⟩
/-- {k: v, ..} with keys ints and texts; the new dict stands empty while the pairs are made -/
def tDisp (trs : List (TE × TE)) : TE := fun σ H Q => ∀ p, H p = none → tPairs trs σ (upd H p (.dK [])) fun ps H2 => H2 p = some (.dK []) ∧ ∃ kvs : List (Key × V), ps = kvs.map (fun kv => (kV kv.1, kv.2)) ∧ kvs.length ≤ 15 ∧ Q (.ref p) (upd H2 p (.dK (mergeK [] kvs)))
theorem pe_disp {X : Cx} {pos : Pos} {keys : List (Option Expr)} {values : List Expr} {trs : List (TE × TE)} (h : PPs X pos keys values trs) (hall : keys.all (·.isSome) = true) (hl : keys.length = values.length) (h0 : keys ≠ [])
    (h15 : keys.length ≤ 15) : PE X (.Dict keys values pos) (tDisp trs) := by
  intro pins s σ H Q I q
  have hn := I.hok.fresh (Nat.le_refl s.heap.objs.size)
  have I1 := I.laid (a := s.heap.objs.size) (o := .dK []) (h' := s.heap.push { cls := .type "dict", data := .dict #[] }) (t' := s.toks) (fun _ _ q => Heap.get?_push_of_some _ q) (Nat.le_refl _) (dk_empty s.heap I.big)
  refine wpAny_Dict_walk (knd := mixKind X.prog X.w) hall hl h0 h15 (thn (h pins _ σ _ _ I1 (q _ hn)) fun ws s2 ⟨ps, H2, I2, rel, e, kvs, ep, lk, q2⟩ => ?_)
  subst ep
  obtain ⟨rs, c, rk⟩ := carries_of (P := X.prog) (w := X.w) rel
  obtain ⟨z, hd, vs0, r0, dd⟩ := dk_of I2.hok e
  cases r0
  refine ⟨rs, c, dd, fun h' dd' hs => ⟨.ref s.heap.objs.size, _, ?_, rfl, q2⟩⟩
  have hz : (mergeK [] kvs).length ≤ sizeLine := by
    have h1 := length_mergeK kvs []
    rw [List.length_nil] at h1
    rw [sizeLine_eq]; omega
  have he : ∃ q, h'.get? s.heap.objs.size = some q := let ⟨q, _, _, hq, _⟩ := dd'; ⟨q, hq⟩
  exact d_write I2 (by rw [e]; exact True.intro) hs he (dk_new hz hd (rk.merge .nil) dd')


/-! ### methods -/
/-- a method call o.m(e) of a built-in, with one argument: what must be seen of the text -/
structure M1 (X : Cx) (o : Expr) (m : Str) (apos : Pos) (e : Expr) (cpos : Pos) : Prop where
  base : attributeBase o m X.env (eval o X.env) = eval o X.env
  few : ((backTo cpos (starEach [e] X.env)).all (fun x => !x.1) && (backToKw cpos (keywordEach [] X.env)).all (fun x => x.1.isSome)
    && decide (([e] : List Expr).length + ([] : List Keyword).length + (if ([] : List Keyword).isEmpty then 0 else 1) < 30)) = true
  line : (apos.endLine == cpos.line) = true
  trees : backTo cpos (starEach [e] X.env) = [(false, eval e X.env)]
structure M2 (X : Cx) (o : Expr) (m : Str) (apos : Pos) (e f : Expr) (cpos : Pos) : Prop where
  base : attributeBase o m X.env (eval o X.env) = eval o X.env
  few : ((backTo cpos (starEach [e, f] X.env)).all (fun x => !x.1) && (backToKw cpos (keywordEach [] X.env)).all (fun x => x.1.isSome)
    && decide (([e, f] : List Expr).length + ([] : List Keyword).length + (if ([] : List Keyword).isEmpty then 0 else 1) < 30)) = true
  line : (apos.endLine == cpos.line) = true
  trees : backTo cpos (starEach [e, f] X.env) = [(false, eval e X.env), (false, eval f X.env)]

/-- a is a dict, whatever its keys -/
def IsD (H : Hp) (a : Addr) : Prop := (∃ kvs, Rd H a (.dK kvs)) ∨ ∃ kvs, Rd H a (.dT kvs)
theorem isD_at {X : Cx} {pins : List (Addr × Obj)} {σ : St} {H : Hp} {s : Shared} {a : Addr} (I : Inv X pins σ H s) (d : IsD H a) :
    s.TypeIs (.ref a) "dict" ∧ (∀ b, Value.ref a = .ref b → ∃ ob, s.heap.get? b = some ob ∧ ob.dict = none) ∧ (a == sysModules) = false := by
  rcases d with ⟨kvs, e⟩ | ⟨kvs, e⟩
  · obtain ⟨_, hd, vs, _, dd⟩ := dk_rd I.hok e
    refine ⟨dd.typeIs, fun b q => ?_, hd⟩
    cases q
    obtain ⟨ob, _, _, h1, h2, _⟩ := dd
    exact ⟨ob, h1, h2.2.1⟩
  · obtain ⟨_, hd, xs, _, dd⟩ := dt_rd I.hok e
    refine ⟨dd.typeIs, fun b q => ?_, hd⟩
    cases q
    obtain ⟨ob, _, _, h1, h2, _⟩ := dd
    exact ⟨ob, h1, h2.2.1⟩

section
variable {X : Cx} {pins : List (Addr × Obj)} {σ : St} {H : Hp} {s : Shared} {a : Addr} {y d : V} {u r : Value} {o : Option V} {A : Around} {E : Value → Shared → Prop}
/-- d.get(y) -/
theorem d_get1 {Q : Value → Shared → Prop} (hu : A.units + 1 < cLine) (I : Inv X pins σ H s) (g : DGet H a y o) (ry : RelV y u) (h : ∀ w' s', Inv X pins σ H s' → RelV (o.getD .non) w' → Q w' s') :
    wpAny (model X.prog X.w) A (call (.builtin "dict.get") [.ref a, u]) Q E s := by
  rcases g with ⟨kvs, k, e, ey, l⟩ | ⟨kvs, k, b, e, ey, eb, l⟩
  · subst ey
    obtain ⟨z, hd, vs, rel, dd⟩ := dk_rd I.hok e
    refine call_meetsIn PySem.F.slot_dict_get dd.typeIs PySem.F.entry_dict_get (PySem.F.args_dict_get_2 _ _) (meets_dict_get (mixKind X.prog X.w) a (kV_is ry) hd) ⟨_, dd.mapOf, h _ _ (I.tok _) ?_⟩
    rw [l]
    exact (rel.val k).getD rfl
  · subst ey
    cases (show u = Value.ref b from ry)
    obtain ⟨z, hd, xs, rel, dd⟩ := dt_rd I.hok e
    refine call_meetsIn PySem.F.slot_dict_get dd.typeIs PySem.F.entry_dict_get (PySem.F.args_dict_get_2 _ _) (meetsH_dict_get (tupleKind (mixKind X.prog X.w)) a b hd) ⟨tupleKind_room_in1 hu, k, xs, key_of I.hok eb, dd, h _ _ (I.tok _) ?_⟩
    rw [l]
    exact (rel.val k).getD rfl
/-- d.get(y, x) -/
theorem d_get2 {Q : Value → Shared → Prop} (hu : A.units + 1 < cLine) (I : Inv X pins σ H s) (g : DGet H a y o) (ry : RelV y u) (rd : RelV d r) (h : ∀ w' s', Inv X pins σ H s' → RelV (o.getD d) w' → Q w' s') :
    wpAny (model X.prog X.w) A (call (.builtin "dict.get") [.ref a, u, r]) Q E s := by
  rcases g with ⟨kvs, k, e, ey, l⟩ | ⟨kvs, k, b, e, ey, eb, l⟩
  · subst ey
    obtain ⟨z, hd, vs, rel, dd⟩ := dk_rd I.hok e
    refine call_meetsIn PySem.F.slot_dict_get dd.typeIs PySem.F.entry_dict_get (PySem.F.args_dict_get_3 _ _ _) (meets_dict_get_default (mixKind X.prog X.w) a (kV_is ry) hd r) ⟨_, dd.mapOf, h _ _ (I.tok _) ?_⟩
    rw [l]
    exact (rel.val k).getD rd
  · subst ey
    cases (show u = Value.ref b from ry)
    obtain ⟨z, hd, xs, rel, dd⟩ := dt_rd I.hok e
    refine call_meetsIn PySem.F.slot_dict_get dd.typeIs PySem.F.entry_dict_get (PySem.F.args_dict_get_3 _ _ _) (meetsH_dict_get_default (tupleKind (mixKind X.prog X.w)) a b hd r) ⟨tupleKind_room_in1 hu, k, xs, key_of I.hok eb, dd, h _ _ (I.tok _) ?_⟩
    rw [l]
    exact (rel.val k).getD rd
end

def tDGet1 (td ty : TE) : TE := fun σ H Q => td σ H fun x H1 => ∃ a, x = .ref a ∧ IsD H1 a ∧ ty σ H1 fun y H2 => ∃ o, DGet H2 a y o ∧ Q (o.getD .non) H2
def tDGet2 (td ty tx : TE) : TE := fun σ H Q => td σ H fun x H1 => ∃ a, x = .ref a ∧ IsD H1 a ∧ ty σ H1 fun y H2 => tx σ H2 fun z H3 => ∃ o, DGet H3 a y o ∧ Q (o.getD z) H3
/-- d.pop(k): there; d.pop(k, x): there or not -/
def tDPop1 (td ty : TE) : TE := fun σ H Q => td σ H fun x H1 => ∃ a, x = .ref a ∧ IsD H1 a ∧ ty σ H1 fun y H2 => ∃ kvs k v, H2 a = some (.dK kvs) ∧ y = kV k ∧ valV kvs k = some v ∧ Q v (upd H2 a (.dK (dropK kvs k)))
def tDPop2 (td ty tx : TE) : TE := fun σ H Q => td σ H fun x H1 => ∃ a, x = .ref a ∧ IsD H1 a ∧ ty σ H1 fun y H2 => tx σ H2 fun z H3 => ∃ kvs k, H3 a = some (.dK kvs) ∧ y = kV k ∧
  (∀ v, valV kvs k = some v → Q v (upd H3 a (.dK (dropK kvs k)))) ∧ (valV kvs k = none → Q z H3)
section
variable {X : Cx} {o e f : Expr} {apos cpos : Pos} {td ty tx : TE}
theorem pe_dget1 (hu : X.A.units + 1 < cLine) (ho : PE X o td) (he : PE X e ty) (m : M1 X o "get" apos e cpos) : PE X (.Call (.Attribute o "get" apos) [e] [] cpos) (tDGet1 td ty) := by
  intro pins s σ H Q I h
  refine wpAny_Call_method m.base m.few m.line PySem.F.plainAttrs_dict PySem.F.slot_dict_get PySem.F.type_dict_get (thn (ho pins s σ H _ I h) fun u s1 ⟨x, H1, I1, rx, a, ex, d, q1⟩ => ?_)
  subst ex
  obtain rfl : u = Value.ref a := rx
  obtain ⟨t1, t2, _⟩ := isD_at I1 d
  refine ⟨t1, t2, ?_⟩
  rw [m.trees]
  refine Calls.callWith_builtin rfl (Calls.evalArgs_plain (Calls.spliced_cons (thn (he pins s1 σ H1 _ I1 q1) fun iv s2 ⟨y, H2, I2, ry, ov, g, q2⟩ => Calls.spliced_nil ?_)))
  exact d_get1 hu I2 g ry fun w' s3 I3 rw' => ⟨_, H2, I3, rw', q2⟩
theorem pe_dget2 (hu : X.A.units + 1 < cLine) (ho : PE X o td) (he : PE X e ty) (hf : PE X f tx) (m : M2 X o "get" apos e f cpos) : PE X (.Call (.Attribute o "get" apos) [e, f] [] cpos) (tDGet2 td ty tx) := by
  intro pins s σ H Q I h
  refine wpAny_Call_method m.base m.few m.line PySem.F.plainAttrs_dict PySem.F.slot_dict_get PySem.F.type_dict_get (thn (ho pins s σ H _ I h) fun u s1 ⟨x, H1, I1, rx, a, ex, d, q1⟩ => ?_)
  subst ex
  obtain rfl : u = Value.ref a := rx
  obtain ⟨t1, t2, _⟩ := isD_at I1 d
  refine ⟨t1, t2, ?_⟩
  rw [m.trees]
  refine Calls.callWith_builtin rfl (Calls.evalArgs_plain (Calls.spliced_cons (thn (he pins s1 σ H1 _ I1 q1) fun iv s2 ⟨y, H2, I2, ry, q2⟩ =>
    Calls.spliced_cons (thn (hf pins s2 σ H2 _ I2 q2) fun fv s3 ⟨z, H3, I3, rz, ov, g, q3⟩ => Calls.spliced_nil ?_))))
  exact d_get2 hu I3 g ry rz fun w' s4 I4 rw' => ⟨_, H3, I4, rw', q3⟩
theorem pe_dpop1 (ho : PE X o td) (he : PE X e ty) (m : M1 X o "pop" apos e cpos) : PE X (.Call (.Attribute o "pop" apos) [e] [] cpos) (tDPop1 td ty) := by
  intro pins s σ H Q I h
  refine wpAny_Call_method m.base m.few m.line PySem.F.plainAttrs_dict PySem.F.slot_dict_pop PySem.F.type_dict_pop (thn (ho pins s σ H _ I h) fun u s1 ⟨x, H1, I1, rx, a, ex, d, q1⟩ => ?_)
  subst ex
  obtain rfl : u = Value.ref a := rx
  obtain ⟨t1, t2, _⟩ := isD_at I1 d
  refine ⟨t1, t2, ?_⟩
  rw [m.trees]
  refine Calls.callWith_builtin rfl (Calls.evalArgs_plain (Calls.spliced_cons (thn (he pins s1 σ H1 _ I1 q1) fun iv s2 ⟨y, H2, I2, ry, kvs, k, v, ea, ey, l, q2⟩ => Calls.spliced_nil ?_)))
  subst ey
  exact d_pop I2 ea ry l (.inl rfl) fun w' s3 I3 rw' => ⟨v, _, I3, rw', q2⟩
theorem pe_dpop2 (ho : PE X o td) (he : PE X e ty) (hf : PE X f tx) (m : M2 X o "pop" apos e f cpos) : PE X (.Call (.Attribute o "pop" apos) [e, f] [] cpos) (tDPop2 td ty tx) := by
  intro pins s σ H Q I h
  refine wpAny_Call_method m.base m.few m.line PySem.F.plainAttrs_dict PySem.F.slot_dict_pop PySem.F.type_dict_pop (thn (ho pins s σ H _ I h) fun u s1 ⟨x, H1, I1, rx, a, ex, d, q1⟩ => ?_)
  subst ex
  obtain rfl : u = Value.ref a := rx
  obtain ⟨t1, t2, _⟩ := isD_at I1 d
  refine ⟨t1, t2, ?_⟩
  rw [m.trees]
  refine Calls.callWith_builtin rfl (Calls.evalArgs_plain (Calls.spliced_cons (thn (he pins s1 σ H1 _ I1 q1) fun iv s2 ⟨y, H2, I2, ry, q2⟩ =>
    Calls.spliced_cons (thn (hf pins s2 σ H2 _ I2 q2) fun fv s3 ⟨z, H3, I3, rz, kvs, k, ea, ey, q3, q4⟩ => Calls.spliced_nil ?_))))
  subst ey
  cases l : valV kvs k with
  | some v => exact d_pop I3 ea ry l (.inr ⟨fv, rfl⟩) fun w' s4 I4 rw' => ⟨v, _, I4, rw', q3 v l⟩
  | none => exact d_popD I3 ea ry l fun s4 I4 => ⟨z, H3, I4, rz, q4 l⟩
end

/-! ### dict(d): a copy -/
section
variable {X : Cx} {pins : List (Addr × Obj)} {σ : St} {H : Hp} {s : Shared} {a : Addr} {kvs : List (Key × V)} {A : Around} {E : Value → Shared → Prop}
theorem d_copyOf {Q : Value → Shared → Prop} (I : Inv X pins σ H s) (e : Rd H a (.dK kvs)) (h : ∀ p s', H p = none → Inv X pins σ (upd H p (.dK kvs)) s' → Q (.ref p) s') : wpAny (model X.prog X.w) A (call (.type "dict") [.ref a]) Q E s := by
  obtain ⟨z, hd, vs, rel, dd⟩ := dk_rd I.hok e
  refine kt_call_dict hd dd (by rw [← rel.length]; exact z) fun h' dd' hs => ?_
  refine h _ _ (I.hok.fresh (Nat.le_refl _)) (I.laid (a := s.heap.objs.size) (o := .dK kvs) (t' := s.toks) (fun b q hq => ?_) (Nat.le_refl _) (dk_new z (beq_eq_false_iff_ne.mpr (Ne.symm (Nat.ne_of_lt I.big))) rel dd'))
  exact (hs.2 b (Nat.ne_of_lt (Heap.lt_size hq))).trans (Heap.get?_push_of_some _ hq)
end


section
variable {X : Cx} {pins : List (Addr × Obj)} {σ : St} {H : Hp} {s : Shared} {a : Addr} {y : V} {u : Value} {A : Around} {E : Value → Shared → Prop}
/-- d[y], not there: a KeyError -/
theorem d_missing {Q : Value → Shared → Prop} (hu : A.units + 1 < cLine) (hh : A.handled = none) (I : Inv X pins σ H s) (g : DGet H a y none) (ry : RelV y u)
    (h : ∀ h' e t', Heap.NewExc s.heap h' e "KeyError" → E (.ref e) { s with heap := h', toks := t' }) : wpAny (model X.prog X.w) A (getItem (.ref a) u) Q E s := by
  rcases g with ⟨kvs, k, e, ey, l⟩ | ⟨kvs, k, b, e, ey, eb, l⟩
  · subst ey
    obtain ⟨z, hd, vs, rel, dd⟩ := dk_rd I.hok e
    have hn : valueAt vs k = none := RelO.none_of (by rw [l]; exact rel.val k)
    exact wpAny_getItem_missing_of (kV_is ry) hd hh dd.mapOf hn fun h' ex ne => h h' ex _ ne
  · subst ey
    cases (show u = Value.ref b from ry)
    obtain ⟨z, hd, xs, rel, dd⟩ := dt_rd I.hok e
    have hn : (atKey xs k).map (·.2) = none := RelO.none_of (by rw [l]; exact rel.val k)
    exact wpAny_getItem_missing_heap (tupleKind_room_in1 hu) (key_of I.hok eb) hd hh dd (Option.map_eq_none_iff.mp hn) fun h' ex ne => h h' ex _ ne
end
end L2
namespace L2
open PySem PySem.Spec PyProof.Rows
section
variable {X : Cx}
theorem call_lenD : CallR X (.builtin "len") (fun xs H Q => ∃ a kvs, xs = [V.ref a] ∧ H a = some (.dK kvs) ∧ Q (.int kvs.length) H) := by
  intro pins s σ H xs us Q I r h
  obtain ⟨a, kvs, rfl, ha, q⟩ := h
  obtain ⟨u, rfl, ru⟩ := vals1 r
  cases ru
  exact d_len I (.inl ha) fun t s' I' => ⟨.int kvs.length, H, I', ⟨t, rfl⟩, q⟩
end
end L2
namespace L2
open PySem PySem.Spec PyProof.Rows
/-! ### a dict's pairs: keys that differ -/
section
variable {κ : Type} [DecidableEq κ]
theorem valV_not {kvs : List (κ × V)} {k : κ} (h : valV kvs k = none) : ¬ k ∈ kvs.map (·.1) := by
  intro m
  obtain ⟨p, hp, e⟩ := List.mem_map.mp m
  have q : (kvs.any fun kv => decide (kv.1 = k)) = true := List.any_eq_true.mpr ⟨p, hp, decide_eq_true e⟩
  rw [valV_any, h] at q
  exact absurd q (by simp)
theorem valV_in {kvs : List (κ × V)} {k : κ} {v : V} (h : valV kvs k = some v) : k ∈ kvs.map (·.1) := by
  have q : (kvs.any fun kv => decide (kv.1 = k)) = true := by
    rw [valV_any, h]
    all_goals rfl
  obtain ⟨p, hp, e⟩ := List.any_eq_true.mp q
  exact List.mem_map.mpr ⟨p, hp, of_decide_eq_true e⟩
theorem nd_snoc : ∀ {l : List κ} {k : κ}, l.Nodup → ¬ k ∈ l → (l ++ [k]).Nodup
  | [], k, _, _ => by simp
  | a :: r, k, h, hk => by
    obtain ⟨h1, h2⟩ := List.nodup_cons.mp h
    show (a :: (r ++ [k])).Nodup
    refine List.nodup_cons.mpr ⟨fun m => ?_, nd_snoc h2 fun m => hk (List.mem_cons.mpr (Or.inr m))⟩
    rcases List.mem_append.mp m with q | q
    · exact h1 q
    · exact hk (List.mem_cons.mpr (Or.inl (List.mem_singleton.mp q).symm))
theorem nd_putK {kvs : List (κ × V)} {k : κ} (v : V) (hn : (kvs.map (·.1)).Nodup) (h : valV kvs k = none) : ((putK kvs k v).map (·.1)).Nodup := by
  rw [putK_new v h, List.map_append]
  exact nd_snoc hn (valV_not h)
theorem dropK_pos {p : κ × V} {r : List (κ × V)} {k : κ} (e : p.1 = k) : dropK (p :: r) k = dropK r k := by
  unfold dropK
  rw [List.filter_cons, if_neg (by simp [e])]
theorem dropK_neg {p : κ × V} {r : List (κ × V)} {k : κ} (e : ¬ p.1 = k) : dropK (p :: r) k = p :: dropK r k := by
  unfold dropK
  rw [List.filter_cons, if_pos (by simp [e])]
theorem dropK_no : ∀ {kvs : List (κ × V)} {k : κ}, ¬ k ∈ kvs.map (·.1) → dropK kvs k = kvs
  | [], _, _ => rfl
  | p :: r, k, h => by
    have h' : ¬ k ∈ r.map (·.1) := fun m => by
      obtain ⟨q, hq, e⟩ := List.mem_map.mp m
      exact h (List.mem_map.mpr ⟨q, List.mem_cons.mpr (Or.inr hq), e⟩)
    rw [dropK_neg fun e => h (List.mem_map.mpr ⟨p, List.mem_cons.mpr (Or.inl rfl), e⟩), dropK_no h']
theorem dropK_mem {kvs : List (κ × V)} {k : κ} {p : κ × V} (h : p ∈ dropK kvs k) : p ∈ kvs := (List.mem_filter.mp h).1
theorem nd_dropK : ∀ {kvs : List (κ × V)} {k : κ}, (kvs.map (·.1)).Nodup → ((dropK kvs k).map (·.1)).Nodup
  | [], _, _ => List.nodup_nil
  | p :: r, k, h => by
    have h : (p.1 :: r.map (·.1)).Nodup := h
    obtain ⟨h1, h2⟩ := List.nodup_cons.mp h
    by_cases e : p.1 = k
    · rw [dropK_pos e]
      exact nd_dropK h2
    · rw [dropK_neg e]
      show (p.1 :: (dropK r k).map (·.1)).Nodup
      refine List.nodup_cons.mpr ⟨fun m => h1 ?_, nd_dropK h2⟩
      obtain ⟨q, hq, eq⟩ := List.mem_map.mp m
      exact List.mem_map.mpr ⟨q, dropK_mem hq, eq⟩
theorem dropK_len : ∀ {kvs : List (κ × V)} {k : κ}, (kvs.map (·.1)).Nodup → k ∈ kvs.map (·.1) → (dropK kvs k).length + 1 = kvs.length
  | [], _, _, m => by simp at m
  | p :: r, k, h, m => by
    have h : (p.1 :: r.map (·.1)).Nodup := h
    have m : k = p.1 ∨ k ∈ r.map (·.1) := List.mem_cons.mp m
    obtain ⟨h1, h2⟩ := List.nodup_cons.mp h
    by_cases e : p.1 = k
    · subst e
      rw [dropK_pos rfl, dropK_no h1]
      all_goals rfl
    · have m' : k ∈ r.map (·.1) := m.resolve_left fun z => e z.symm
      have q := dropK_len h2 m'
      rw [dropK_neg e, List.length_cons, List.length_cons]
      omega
end
end L2

set_option Elab.async false
set_option linter.all false
set_option maxRecDepth 100000
set_option maxHeartbeats 1000000
/-! MORE RULES over the layer: isinstance, xs[::-1], join, f-strings, texts times ints, slices of texts -/
namespace L2
open PySem PySem.Spec PyProof.Rows
section
variable {X : Cx}
/-! ### isinstance -/
inductive TyX (K : PySem.W.Frag) (H : Hp) : V → Value → Prop where
  | of {x : V} {t : Value} (h : TyOf K H x t) : TyX K H x t
  | tupK {a : Addr} {xs : List V} (h : SqT K H a xs) : TyX K H (.ref a) (.type "tuple")
  | lstK {a : Addr} {xs : List V} (h : SqL K H a xs) : TyX K H (.ref a) (.type "list")
def rIsi (K : PySem.W.Frag) : List V → Hp → VK → Prop := fun xs H Q => ∃ x T t b, xs = [x, .ty T] ∧ TyX K H x t ∧ PySem.W.kitOne K t (.type T) = some b ∧ Q (.bl b) H
theorem call_isi : CallR X (.builtin "isinstance") (rIsi X.K) := by
  intro pins s σ H xs us Q I r h
  obtain ⟨x, T, t, b, rfl, ty, e, q⟩ := h
  obtain ⟨u, c, rfl, rx, rc⟩ := vals2 r
  cases (show c = Value.type T from rc)
  cases ty with
  | of h => exact isinst_ok I rx h e fun tk => ⟨.bl b, H, I.tok tk, rfl, q⟩
  | @tupK a xs h =>
    cases (show u = Value.ref a from rx)
    obtain ⟨its, _, ⟨o, h1, h2, _⟩, _⟩ := I.tuple h
    exact PySem.W.kia_one PySem.W.kitx_tuple I.kIn ⟨o, h1, h2⟩ e (fun z => nomatch z) fun tk => ⟨.bl b, H, I.tok tk, rfl, q⟩
  | @lstK a xs h =>
    cases (show u = Value.ref a from rx)
    obtain ⟨its, _, ⟨o, n, h1, h2, _⟩, _⟩ := I.list h
    exact PySem.W.kia_one PySem.W.kitx_list I.kIn ⟨o, h1, h2⟩ e (fun z => nomatch z) fun tk => ⟨.bl b, H, I.tok tk, rfl, q⟩
theorem kit_same (K : PySem.W.Frag) (T : String) : PySem.W.kitOne K (.type T) (.type T) = some true := by
  unfold PySem.W.kitOne
  rw [if_pos (beq_self_eq_true _)]
/-! ### texts times ints -/
def rMulS : R2 := fun x y H Q => ∃ z n, x = .str z ∧ y = .int n ∧ z.length ≤ 1000 ∧ -1000 ≤ n ∧ n ≤ 1000 ∧ Q (.str (Txt.mul z n)) H
theorem mulOk_small {z : Str} {n : Int} (h1 : z.length ≤ 1000) (h2 : -1000 ≤ n) (h3 : n ≤ 1000) : MulOk z n := by
  refine ⟨?_, fun h4 h5 => ?_, fun h4 h5 => ?_⟩
  · have a : ¬ n < -(2 ^ 63 : Int) := by omega
    have b : ¬ n ≥ 2 ^ 63 := by omega
    rw [decide_eq_false a, decide_eq_false b]; rfl
  · have : (1000 : Int) ≤ (2 ^ 63 - 1) / n := by
      rw [Int.le_ediv_iff_mul_le (by omega)]
      omega
    omega
  · have : z.length * n.toNat ≤ 1000 * 1000 := Nat.mul_le_mul h1 (by omega)
    unfold Builtin.Str.tooLong
    rw [decide_eq_false]
    have e := sizeLine_eq
    first | omega | (simp at *; omega)
theorem op_mulS : OpR X (binaryOp .Mult) rMulS := by
  intro pins s σ H x y v u Q I rx ry h
  obtain ⟨z, n, rfl, rfl, h1, h2, h3, q⟩ := h
  obtain ⟨t, rfl⟩ := rx
  obtain ⟨t', rfl⟩ := ry
  exact SB.mul (mulOk_small h1 h2 h3) fun t' k => ⟨.str _, H, I.tok k, ⟨_, rfl⟩, q⟩
/-! ### slices of texts -/
def rSlS : V → Option Int → Option Int → Hp → VK → Prop := fun x lo hi H Q => ∃ z, x = .str z ∧ z.length ≤ sizeLine ∧ Q (.str (Txt.slice z lo hi)) H
theorem part_of {v : Value} {o : Option Int} (p : IsPart v o) : ∃ l : Option (Int × Tok), v = partValue l ∧ l.map (·.1) = o := by
  cases p with
  | none => exact ⟨none, rfl, rfl⟩
  | int i t => exact ⟨some (i, t), rfl, rfl⟩
theorem sl_str : SlR X rSlS := by
  intro pins s σ H x v vl vu lo hi sl Q I rx hs pl pu h
  obtain ⟨z, rfl, hz, q⟩ := h
  obtain ⟨t, rfl⟩ := rx
  obtain ⟨l, rfl, el⟩ := part_of pl
  obtain ⟨u, rfl, eu⟩ := part_of pu
  refine ⟨"str", _, F.slot_str_getitem.lookup, typeIs_str _ _ _, wpAny_getItem_str_slice (l := l) (u := u) (st := none) hs rfl ?_⟩
  refine post_val_or_str ⟨?_, fun t' k => ?_⟩
  · subst el; subst eu
    exact Nat.le_trans (Txt.slice_le z _ _) hz
  · subst el; subst eu
    exact ⟨.str _, H, I.tok k, ⟨_, rfl⟩, q⟩
/-! ### xs[::-1] -/
theorem pick_rev (its : List Value) : slicePick its.toArray none none (some (-1)) = its.reverse.toArray := by
  unfold slicePick
  have e : sliceBounds none none (some (-1)) its.toArray.size = ((its.length : Int) - 1, -1, -1) := by
    simp [sliceBounds]
  rw [e]
  have e2 : sliceRange ((its.length : Int) - 1) (-1) (-1) = (List.range its.length).map fun k => its.length - 1 - k := by
    unfold sliceRange
    have c : (if (-1 : Int) > 0 then (if ((its.length : Int) - 1) < -1 then (-1 - ((its.length : Int) - 1) + -1 - 1) / -1 else 0) else (if ((its.length : Int) - 1) > -1 then (((its.length : Int) - 1) - -1 - -1 - 1) / (- -1) else 0)).toNat = its.length := by
      rw [if_neg (by decide)]
      by_cases h : ((its.length : Int) - 1) > -1
      · rw [if_pos h]
        have : (((its.length : Int) - 1) - -1 - -1 - 1) / (- -1) = its.length := by
          have : (- (-1 : Int)) = 1 := rfl
          rw [this, Int.ediv_one]; omega
        rw [this]; simp
      · rw [if_neg h]; simp; omega
    show (List.range (if (-1 : Int) > 0 then (if ((its.length : Int) - 1) < -1 then (-1 - ((its.length : Int) - 1) + -1 - 1) / -1 else 0) else (if ((its.length : Int) - 1) > -1 then (((its.length : Int) - 1) - -1 - -1 - 1) / (- -1) else 0)).toNat).map _ = _
    rw [c]
    apply List.map_congr_left
    intro k hk
    omega
  show ((sliceRange ((its.length : Int) - 1) (-1) (-1)).filterMap (its.toArray[·]?)).toArray = _
  rw [e2, List.filterMap_map]
  congr 1
  apply List.ext_getElem?
  intro i
  have all : (List.range its.length).filterMap ((its.toArray[·]?) ∘ fun k => its.length - 1 - k) = its.reverse := by
    have gen : ∀ (n : Nat) (f : Nat → Option Value) (g : Nat → Value), (∀ k, k < n → f k = some (g k)) → (List.range n).filterMap f = (List.range n).map g := by
      intro n f g hf
      have aux : ∀ l : List Nat, (∀ k ∈ l, f k = some (g k)) → l.filterMap f = l.map g := by
        intro l
        induction l with
        | nil => intro _; rfl
        | cons k l ih =>
          intro h
          rw [List.filterMap_cons, h k (List.mem_cons_self), List.map_cons, ih fun j hj => h j (List.mem_cons_of_mem _ hj)]
      exact aux _ fun k hk => hf k (List.mem_range.mp hk)
    rw [gen its.length _ (fun k => its.reverse.getD k .none) (fun k hk => by
      have h2 : its.length - 1 - k < its.length := by omega
      simp [h2, List.getElem?_reverse, hk])]
    apply List.ext_getElem
    · simp
    · intro k h1 h2
      simp at h1
      simp [List.getElem?_reverse, h1]
  rw [all]
def tRev (K : PySem.W.Frag) (te ts : TE) : TE := fun σ H Q => te σ H fun x H1 => ts σ H1 fun y H2 => ∃ a xs, x = .ref a ∧ y = .int (-1) ∧ SqL K H2 a xs ∧ ∀ p, H2 p = none → Q (.ref p) (upd H2 p (.lst xs.reverse))
theorem pe_rev {e st : Expr} {te ts : TE} {p2 pos : Pos} (he : PE X e te) (hst : PE X st ts) : PE X (.Subscript e (.Slice none none (some st) p2) pos) (tRev X.K te ts) := by
  intro pins s σ H Q I h
  refine Subscript_ (thn (he pins s σ H _ I h) fun v s1 ⟨x, H1, I1, r1, q1⟩ => ?_)
  refine wpAny_Slice ?_
  rw [evalPart_none, evalPart_some]
  refine wpAny_pure (wpAny_pure (thn (hst pins s1 σ H1 _ I1 q1) fun vs s2 ⟨y, H2, I2, r2, q2⟩ => ?_))
  obtain ⟨a, xs, rfl, rfl, hx, q⟩ := q2
  cases r1
  obtain ⟨t, rfl⟩ := r2
  have I4 : Inv X pins σ H2 { s2 with heap := s2.heap.push { cls := .type "slice", data := .fields #[.none, .none, .int (-1) t] } } := I2.kept (t' := s2.toks) fun b ob q => Heap.get?_push_of_some _ q
  obtain ⟨its, r, ht, hz⟩ := I4.list hx
  have hlen := r.length
  show wpAny (model X.prog X.w) X.A (subscriptTail e (.Slice none none (some st) p2) (.ref a) (.ref s2.heap.objs.size)) (EP X pins σ Q) X.xe { s2 with heap := s2.heap.push { cls := .type "slice", data := .fields #[.none, .none, .int (-1) t] } }
  refine tail_any (ops := [.ref a, .ref s2.heap.objs.size]) ht.isList.typeIs slot_list_getitem.lookup ?_ (by with_unfolding_all rfl)
  refine wpAny_getItem_list_slice ht.isList (Heap.IsSliceOf.new ..) .none .none (.int _ _) (by simp) ?_ (by rw [List.size_toArray] <;> omega)
  rw [pick_rev]
  refine ⟨.ref _, _, I4.laid (t' := s2.toks) (o := .lst xs.reverse) (fun b ob q => Heap.get?_push_of_some _ q) (Nat.le_refl _) ?_, rfl, q _ (I4.hok.fresh (Nat.le_refl _))⟩
  exact ⟨by rw [List.length_reverse]; exact hz, _, 0, r.reverse, Heap.get?_push_size _ rfl⟩
/-! ### join -/
theorem strsAre_of : ∀ {ys : List Str} {us : List Value}, Vals (ys.map V.str) us → StrsAre us ys
  | [], _, r => by cases r; exact .nil
  | y :: ys, _, r => by
    cases r with
    | cons h t =>
      obtain ⟨tk, rfl⟩ := h
      exact .cons _ _ (strsAre_of t)
def rJoin (K : PySem.W.Frag) : V → List V → Hp → VK → Prop := fun x vs H Q => ∃ sep l ys, x = .str sep ∧ vs = [.ref l] ∧ SqL K H l (ys.map V.str) ∧ (ys.map (·.length)).sum + ys.length * sep.length ≤ 16777216 ∧ Q (.str (Txt.join sep ys)) H
theorem mt_join : MtM X "str.join" (rJoin X.K) := by
  intro pins s σ H x vs v us Q I rx rv h
  obtain ⟨sep, l, ys, rfl, rfl, hx, hz, q⟩ := h
  obtain ⟨t, rfl⟩ := rx
  obtain ⟨u, rfl, ru⟩ := rv.one
  cases ru
  obtain ⟨its, r, ht, _⟩ := I.list hx
  exact join_list ht.isList (strsAre_of (by simpa using r)) hz fun t' k => ⟨.str _, H, I.tok k, ⟨_, rfl⟩, q⟩
/-! ### f-strings of texts -/
abbrev TF := Str → St → Hp → VK → Prop
def PF (X : Cx) (es : List Expr) (t : TF) : Prop :=
  ∀ (out : Str) (pins : List (Addr × Obj)) (s : Shared) (σ : St) (H : Hp) (Q : VK), Inv X pins σ H s → t out σ H Q → wpAny (model X.prog X.w) X.A (joinParts out (evalEach es X.env)) (EP X pins σ Q) X.xe s
def tF0 : TF := fun out _ H Q => out.length ≤ sizeLine ∧ Q (.str out) H
def tFc (x : Str) (t : TF) : TF := fun out σ H Q => (out ++ x).length ≤ sizeLine ∧ t (out ++ x) σ H Q
def tFv (te : TE) (t : TF) : TF := fun out σ H Q => te σ H fun v H1 => ∃ y, v = .str y ∧ y.length ≤ sizeLine ∧ (out ++ y).length ≤ sizeLine ∧ t (out ++ y) σ H1 Q
theorem pf_nil : PF X [] tF0 := fun out pins s σ H Q I h => joinParts_nil ⟨.str out, H, I.tok _, ⟨_, rfl⟩, h.2⟩ h.1
theorem pf_str {x : Str} {j : Nat} {pos : Pos} {es : List Expr} {t : TF} (h : PF X es t) (hs : evalEach (.Constant (.str x) j pos :: es) X.env = eval (.Constant (.str x) j pos) X.env :: evalEach es X.env := by rfl) : PF X (.Constant (.str x) j pos :: es) (tFc x t) := by
  intro out pins s σ H Q I hw
  rw [hs]
  refine joinParts_cons (Calls.Constant_str ?_)
  exact ⟨hw.1, h _ pins _ σ H Q (I.tok _) hw.2⟩
theorem pf_val {e : Expr} {te : TE} {pos : Pos} {es : List Expr} {t : TF} (he : PE X e te) (h : PF X es t) (hs : evalEach (.FormattedValue e (-1) none pos :: es) X.env = eval (.FormattedValue e (-1) none pos) X.env :: evalEach es X.env := by rfl) : PF X (.FormattedValue e (-1) none pos :: es) (tFv te t) := by
  intro out pins s σ H Q I hw
  rw [hs]
  refine joinParts_cons (FormattedValue_plain (thn (he pins s σ H _ I hw) fun v s1 ⟨x, H1, I1, r1, q1⟩ => ?_))
  obtain ⟨y, rfl, hy, hz, q⟩ := q1
  obtain ⟨tk, rfl⟩ := r1
  exact formatField_str (fun t' k => ⟨hz, h _ pins _ σ H1 Q (I1.tok k) q⟩) hy
def tFs (t : TF) : TE := fun σ H Q => t Str.empty σ H Q
theorem pe_fstr {e1 e2 : Expr} {es : List Expr} {t : TF} {pos : Pos} (h : PF X (e1 :: e2 :: es) t) (hs : evalEach (e1 :: e2 :: es) X.env = eval e1 X.env :: eval e2 X.env :: evalEach es X.env := by rfl) : PE X (.JoinedStr (e1 :: e2 :: es) pos) (tFs t) := by
  intro pins s σ H Q I hw
  refine JoinedStr_many ?_
  rw [← hs]
  exact h _ pins s σ H Q I hw
end
end L2

set_option Elab.async false
set_option linter.all false
set_option maxRecDepth 100000
set_option maxHeartbeats 1000000
/-! WHAT A VALUE DENOTES, through tuples and lists; == and != of such values -/
namespace L2
open PySem PySem.Spec PyProof.Rows
mutual
def Dn (K : PySem.W.Frag) (H : Hp) : V → PyData → Prop
  | v, .none => v = .non
  | v, .bool b => v = .bl b
  | v, .int i => v = .int i
  | v, .str x => v = .str x
  | v, .list ds => ∃ a xs, v = .ref a ∧ SqL K H a xs ∧ DnAll K H xs ds
  | v, .tuple ds => ∃ a xs, v = .ref a ∧ SqT K H a xs ∧ DnAll K H xs ds
  | _, .dict _ => False
def DnAll (K : PySem.W.Frag) (H : Hp) : List V → List PyData → Prop
  | xs, [] => xs = []
  | xs, d :: ds => ∃ x r, xs = x :: r ∧ Dn K H x d ∧ DnAll K H r ds
end
theorem DnAll.length {K : PySem.W.Frag} {H : Hp} : ∀ {xs : List V} {ds : List PyData}, DnAll K H xs ds → xs.length = ds.length
  | xs, [], h => by rw [DnAll] at h; rw [h]; rfl
  | xs, d :: ds, h => by
    rw [DnAll] at h
    obtain ⟨x, r, rfl, _, h⟩ := h
    simp [DnAll.length h]
/-- tuples are kept -/
def KeepT (K : PySem.W.Frag) (H H' : Hp) : Prop := ∀ a xs, SqT K H a xs → SqT K H' a xs
mutual
def noList : PyData → Bool
  | .list _ => false
  | .tuple ds => noLists ds
  | .dict _ => false
  | _ => true
def noLists : List PyData → Bool
  | [] => true
  | d :: ds => noList d && noLists ds
end
mutual
theorem Dn.keepT {K : PySem.W.Frag} {H H' : Hp} (k : KeepT K H H') : ∀ {d : PyData} {v : V}, noList d = true → Dn K H v d → Dn K H' v d
  | .none, v, _, h => by rw [Dn] at h ⊢; exact h
  | .bool _, v, _, h => by rw [Dn] at h ⊢; exact h
  | .int _, v, _, h => by rw [Dn] at h ⊢; exact h
  | .str _, v, _, h => by rw [Dn] at h ⊢; exact h
  | .list _, v, n, h => by rw [noList] at n; cases n
  | .dict _, v, n, h => by rw [noList] at n; cases n
  | .tuple ds, v, n, h => by
    rw [Dn] at h ⊢
    rw [noList] at n
    obtain ⟨a, xs, e, hs, hd⟩ := h
    exact ⟨a, xs, e, k a xs hs, DnAll.keepT k n hd⟩
theorem DnAll.keepT {K : PySem.W.Frag} {H H' : Hp} (k : KeepT K H H') : ∀ {ds : List PyData} {xs : List V}, noLists ds = true → DnAll K H xs ds → DnAll K H' xs ds
  | [], xs, _, h => by rw [DnAll] at h ⊢; exact h
  | d :: ds, xs, n, h => by
    rw [DnAll] at h ⊢
    rw [noLists, Bool.and_eq_true] at n
    obtain ⟨x, r, e, h1, h2⟩ := h
    exact ⟨x, r, e, Dn.keepT k n.1 h1, DnAll.keepT k n.2 h2⟩
end
mutual
theorem Dn.keep {K : PySem.W.Frag} {H H' : Hp} (k : KeepT K H H') (kl : ∀ a xs, SqL K H a xs → SqL K H' a xs) : ∀ {d : PyData} {v : V}, Dn K H v d → Dn K H' v d
  | .none, v, h => by rw [Dn] at h ⊢; exact h
  | .bool _, v, h => by rw [Dn] at h ⊢; exact h
  | .int _, v, h => by rw [Dn] at h ⊢; exact h
  | .str _, v, h => by rw [Dn] at h ⊢; exact h
  | .list ds, v, h => by
    rw [Dn] at h ⊢
    obtain ⟨a, xs, e, hs, hd⟩ := h
    exact ⟨a, xs, e, kl a xs hs, DnAll.keep k kl hd⟩
  | .dict _, v, h => by rw [Dn] at h; exact h.elim
  | .tuple ds, v, h => by
    rw [Dn] at h ⊢
    obtain ⟨a, xs, e, hs, hd⟩ := h
    exact ⟨a, xs, e, k a xs hs, DnAll.keep k kl hd⟩
theorem DnAll.keep {K : PySem.W.Frag} {H H' : Hp} (k : KeepT K H H') (kl : ∀ a xs, SqL K H a xs → SqL K H' a xs) : ∀ {ds : List PyData} {xs : List V}, DnAll K H xs ds → DnAll K H' xs ds
  | [], xs, h => by rw [DnAll] at h ⊢; exact h
  | d :: ds, xs, h => by
    rw [DnAll] at h ⊢
    obtain ⟨x, r, e, h1, h2⟩ := h
    exact ⟨x, r, e, Dn.keep k kl h1, DnAll.keep k kl h2⟩
end
section
variable {X : Cx} {pins : List (Addr × Obj)} {σ : St} {H : Hp} {s : Shared}
mutual
theorem Dn.reads (I : Inv X pins σ H s) : ∀ {d : PyData} {v : V} {u : Value}, Dn X.K H v d → RelV v u → ∃ as, Reads s.heap u d as
  | .none, v, u, h, r => by rw [Dn] at h; subst h; cases (show u = Value.none from r); exact ⟨_, .none⟩
  | .bool b, v, u, h, r => by rw [Dn] at h; subst h; cases (show u = Value.bool b from r); exact ⟨_, .bool b⟩
  | .int i, v, u, h, r => by rw [Dn] at h; subst h; obtain ⟨t, rfl⟩ := r; exact ⟨_, .int i t⟩
  | .str x, v, u, h, r => by rw [Dn] at h; subst h; obtain ⟨t, rfl⟩ := r; exact ⟨_, .str x t⟩
  | .dict _, v, u, h, r => by rw [Dn] at h; exact h.elim
  | .list ds, v, u, h, r => by
    rw [Dn] at h
    obtain ⟨a, xs, rfl, hs, hd⟩ := h
    cases (show u = Value.ref a from r)
    obtain ⟨its, rv, ⟨o, n, h1, h2, _, h3⟩, _⟩ := I.list hs
    obtain ⟨as, q⟩ := DnAll.reads I hd rv
    exact ⟨_, .list h1 h2 h3 (by simpa using q)⟩
  | .tuple ds, v, u, h, r => by
    rw [Dn] at h
    obtain ⟨a, xs, rfl, hs, hd⟩ := h
    cases (show u = Value.ref a from r)
    obtain ⟨its, rv, ⟨o, h1, h2, n, h3⟩, _⟩ := I.tuple hs
    obtain ⟨as, q⟩ := DnAll.reads I hd rv
    exact ⟨_, .tuple h1 h2 h3 (by simpa using q)⟩
theorem DnAll.reads (I : Inv X pins σ H s) : ∀ {ds : List PyData} {xs : List V} {us : List Value}, DnAll X.K H xs ds → Vals xs us → ∃ as, ReadsAll s.heap us ds as
  | [], xs, us, h, r => by rw [DnAll] at h; subst h; cases r; exact ⟨_, .nil⟩
  | d :: ds, xs, us, h, r => by
    rw [DnAll] at h
    obtain ⟨x, r', rfl, h1, h2⟩ := h
    cases r with
    | cons r1 r2 =>
      obtain ⟨as, q1⟩ := Dn.reads I h1 r1
      obtain ⟨bs, q2⟩ := DnAll.reads I h2 r2
      exact ⟨_, .cons q1 q2⟩
end
end
section
variable {X : Cx}
def rEqD (K : PySem.W.Frag) (neg : Bool) : R2 := fun x y H Q => ∃ d e, Dn K H x d ∧ Dn K H y e ∧ d.canLay0 = true ∧ e.canLay0 = true ∧ min d.depth e.depth ≤ 150 ∧ Q (.bl (if neg then !PyData.eqv d e else PyData.eqv d e)) H
theorem op_eqD (hu : X.A.units + 150 < cLine) : OpR X (compareOp .Eq) (rEqD X.K false) := by
  intro pins s σ H x y v u Q I rx ry h
  obtain ⟨d, e, h1, h2, l1, l2, hz, q⟩ := h
  obtain ⟨as, r1⟩ := h1.reads I rx
  obtain ⟨bs, r2⟩ := h2.reads I ry
  exact PySem.W.cmp_ofEq (SeqAt.rcAt_reads r1 r2 l1 l2 (by omega) _ _ _ _ ⟨.bl _, H, I, rfl, q⟩)
theorem op_neD (hu : X.A.units + 150 < cLine) : OpR X (compareOp .NotEq) (rEqD X.K true) := by
  intro pins s σ H x y v u Q I rx ry h
  obtain ⟨d, e, h1, h2, l1, l2, hz, q⟩ := h
  obtain ⟨as, r1⟩ := h1.reads I rx
  obtain ⟨bs, r2⟩ := h2.reads I ry
  exact PySem.W.cmp_ofNotEq (SeqAt.rcNeAt_reads r1 r2 l1 l2 (by omega) _ _ _ _ ⟨.bl _, H, I, rfl, q⟩)
end
theorem hu_150 {A : Around} {k : Nat} (hr : Room k A) : A.units + 150 < cLine := by have := hr.un; omega
end L2

set_option Elab.async false
set_option linter.all false
set_option maxRecDepth 100000
set_option maxHeartbeats 2000000
/-! LIST COMPREHENSIONS (one clause): the block's own context -/
namespace L2
open PySem PySem.Spec PyProof.Rows
/-- the context of a comprehension's block: no exception leaves it -/
def blk (X : Cx) (N' : List Str) (scope : Scope) (cl : List (Str × Addr)) (s : Shared) (H : Hp) (C : Addr) (ex : List Addr) : Cx where
  prog := X.prog
  w := X.w
  K := X.K
  mg := X.mg
  base := X.base
  A := X.A
  N := N'
  s₀ := s
  H₀ := H
  env := compEnvC scope cl C X.env
  outer := X.stack
  stack := X.stack
  ex := ex
  fn := fun _ => false
  calm := X.calm
  pn := []
  xe := fun _ _ => False
structure BlkOk (X : Cx) (scope : Scope) (cl : List (Str × Addr)) (N' : List Str) (nt : Nat) (ci : List Nat) : Prop where
  clos : closureFor scope X.env = pure cl
  cell : ∀ y ∈ scope.names, y.2 ≠ .cell
  kind : scope.kind = .function
  names : ∀ y ∈ scope.names, y.2 = .local → scope.names.lookup y.1 = some .local
  sub : ∀ x c, cl.lookup x = some c → X.env.cells.lookup x = some c
  has : ∀ x, ((relabel scope X.env).names.lookup x = some .cell ∨ (relabel scope X.env).names.lookup x = some .free) → ∃ c, cl.lookup x = some c
  len : N'.length = nt + ci.length
  cap : ∀ (j i : Nat), ci[j]? = some i → ∃ x, N'[nt + j]? = some x ∧ X.N[i]? = some x ∧ X.env.scope.names.lookup x = some .cell ∧ ((relabel scope X.env).names.lookup x = some .cell ∨ (relabel scope X.env).names.lookup x = some .free)
/-- the names' values at a turn's start: the targets are free, the others as they stand around -/
def capt (nt : Nat) (ci : List Nat) (σ : St) : St := List.replicate nt none ++ ci.map fun i => (σ[i]?).join
section
variable {X : Cx} {scope : Scope} {cl : List (Str × Addr)} {N' : List Str} {nt : Nat} {ci : List Nat} {pins : List (Addr × Obj)} {σ : St} {H : Hp} {s : Shared}
theorem blk_start (B : BlkOk X scope cl N' nt ci) (I : Inv X pins σ H s) {fp : List Addr} (hf : ∀ b ∈ fp, FpOk X pins H b) (ho : ∀ b ∈ fp, ∃ o, s.heap.get? b = some o) {C acc : Addr} {h1 : Heap} {tk : Nat}
    (hacc : acc = s.heap.objs.size) (hC : C = s.heap.objs.size + 1) (k : ∀ b u, s.heap.get? b = some u → h1.get? b = some u) (ns : h1.Ns C fun _ => none) (ha : h1.get? acc = some { cls := .type "list", data := .seq #[] }) :
    Inv (blk X N' scope cl s H C fp) [] (capt nt ci σ) (upd H acc (.lst [])) { s with heap := h1, toks := tk } := by
  have hn : H acc = none := I.hok.fresh (by rw [hacc]; exact Nat.le_refl _)
  have hnC : H C = none := I.hok.fresh (by rw [hC]; exact Nat.le_succ _)
  have cellLt : ∀ x c, cl.lookup x = some c → c < s.heap.objs.size := fun x c e => by
    obtain ⟨v, q⟩ := I.cell x c (B.sub x c e)
    exact q.lt
  refine ⟨⟨I.ok.mod, B.kind, I.ok.glob, I.ok.blt, ?_, fun x y c e1 e2 => I.ok.inj x y c (B.sub _ _ e1) (B.sub _ _ e2), fun x hx => B.has x hx, fun x c (z : false = true) => Bool.noConfusion z, fun hc => I.ok.hd hc, I.ok.frames, .inl rfl, fun b hb => ?_, I.bs, ?_, fun b o e hb => ?_, fun b hb => ?_, I.stack, fun b hb => I.stkFree b hb⟩,
    rfl, I.bare, Un.laid (a := acc) (o := .lst []) k (by rw [hacc]; exact Nat.le_refl _) hn, ⟨_, ns, fun i x v e1 e2 e3 => ?_⟩, fun x c e => ?_, ?_, fun x c e => ?_, fun p hp => absurd (show p ∈ ([] : List (Addr × Obj)) from hp) (by simp), I.hok.laid k (by rw [hacc]; exact Nat.le_refl _) ⟨Nat.zero_le _, [], 0, .nil, ha⟩, ?_⟩
  · show s.heap.objs.size ≤ C
    rw [hC]; exact Nat.le_succ _
  · obtain ⟨f0, f1, f2, f3, f4, f5⟩ := hf b hb
    obtain ⟨o, e⟩ := ho b hb
    refine ⟨?_, fun x c e' => f4 x c (B.sub x c e')⟩
    show b ≠ C
    rw [hC]
    exact Nat.ne_of_lt (Nat.lt_succ_of_lt (Heap.lt_size e))
  · exact Nat.le_trans I.ok.bsz I.sz
  · obtain ⟨f0, f1, f2, f3, f4, f5⟩ := hf b hb
    rcases f3 with z | z
    · exact I.ok.noex b o e z
    · exact absurd (Nat.lt_of_lt_of_le (Heap.lt_size e) (Nat.le_trans I.ok.bsz z)) (Nat.lt_irrefl _)
  · intro z
    obtain ⟨f0, f1, f2, f3, f4, f5⟩ := hf b hb
    rcases List.mem_cons.mp (I.stkSub b z) with y | y
    · exact f1 y
    · exact f2 y
  · -- the names
    obtain ⟨m, hm, hl⟩ := I.loc
    unfold capt at e2
    by_cases hi : i < nt
    · rw [List.getElem?_append_left (by simpa using hi), List.getElem?_replicate] at e2
      split at e2 <;> cases e2
    · rw [List.getElem?_append_right (by simpa using hi), List.length_replicate, List.getElem?_map] at e2
      cases q : ci[i - nt]? with
      | none => rw [q] at e2; cases e2
      | some j =>
        rw [q] at e2
        have e2' : (σ[j]?).join = some v := Option.some.inj e2
        obtain ⟨y, a1, a2, a3, a4⟩ := B.cap _ j q
        have ei : nt + (i - nt) = i := by omega
        rw [ei, show N'[i]? = some x from e1] at a1
        cases a1
        have e2'' : σ[j]? = some (some v) := by
          cases z : σ[j]? with
          | none => rw [z] at e2'; cases e2'
          | some w => rw [z] at e2'; exact congrArg some e2'
        obtain ⟨u, r, l⟩ := hl j x v a2 e2'' (.inr (.inl a3))
        refine ⟨u, r, .inr ⟨a4, ?_⟩⟩
        rcases l with ⟨kk, _⟩ | ⟨_, c, c1, c2⟩
        · have kk' : X.env.scope.names.lookup x = some .local := kk
          rw [a3] at kk'; cases kk'
        · obtain ⟨c', ec⟩ := B.has x a4
          have := B.sub x c' ec
          rw [c1] at this; cases this
          exact ⟨c, ec, let ⟨o, e, d⟩ := c2; ⟨o, k _ _ e, d⟩⟩
  · obtain ⟨v, q⟩ := I.cell x c (B.sub x c e)
    exact ⟨v, let ⟨o, e, d⟩ := q; ⟨o, k _ _ e, d⟩⟩
  · show upd H acc (.lst []) C = none
    rw [upd_ne (by rw [hacc, hC]; exact Nat.succ_ne_self _)]; exact hnC
  · have lt := cellLt x c e
    rw [upd_ne (by rw [hacc]; exact Nat.ne_of_lt lt)]
    exact I.freeC x c (B.sub x c e)
  · show (capt nt ci σ).length = N'.length
    unfold capt
    rw [List.length_append, List.length_replicate, List.length_map, B.len]
/-- σ' knows all that σ knows -/
def Wk (σ σ' : St) : Prop := σ'.length = σ.length ∧ ∀ (i : Nat) v, σ[i]? = some (some v) → σ'[i]? = some (some v)
theorem wk_set {σ : St} {i : Nat} {x : V} (h : σ[i]? = some none) : Wk σ (σ.set i (some x)) := by
  refine ⟨by simp, fun j v e => ?_⟩
  by_cases hj : j = i
  · subst hj; rw [h] at e; cases e
  · rw [List.getElem?_set_ne (Ne.symm hj)]; exact e
theorem wk_head {x : V} {r : St} : Wk (none :: r) (some x :: r) := wk_set (σ := none :: r) (i := 0) rfl
theorem Wk.trans {σ1 σ2 σ3 : St} (a : Wk σ1 σ2) (b : Wk σ2 σ3) : Wk σ1 σ3 := ⟨b.1.trans a.1, fun i v e => b.2 i v (a.2 i v e)⟩
theorem Wk.refl (σ : St) : Wk σ σ := ⟨rfl, fun _ _ e => e⟩
/-- a list comprehension with one clause and no test. W: the turn, a measure, what was made so far, the heap -/
def lcW (K : PySem.W.Frag) (σ0 : St) (J : It) (acc : Addr) (g : TG) (te : TE) (Q : VK) (W : Nat → Nat → List V → Hp → Prop) : Prop :=
  ∀ i m ys H2, W i m ys H2 → H2 acc = some (.lst ys) ∧ ys.length < sizeLine ∧ ((J.stop i H2 ∧ Q (.ref acc) H2) ∨
    (J.go i H2 ∧ ∀ x H3, J.yld i H2 x H3 → g x σ0 H3 fun σ4 H4 => Wk σ0 σ4 ∧ te σ4 H4 fun y H5 => H5 acc = some (.lst ys) ∧ ∃ m', m' < m ∧ W (i + 1) m' (ys ++ [y]) (upd H5 acc (.lst (ys ++ [y])))))
def tLC (K : PySem.W.Frag) (nt : Nat) (ci : List Nat) (wi : TI) (g : TG) (te : TE) : TE := fun σ H Q => wi σ H fun J H1 => ∀ acc, H1 acc = none → ∃ W : Nat → Nat → List V → Hp → Prop, (∃ m, W 0 m [] (upd H1 acc (.lst []))) ∧ lcW K (capt nt ci σ) J acc g te Q W
theorem compTurn_one (elt target iter : Expr) (scope : Scope) (pos : Pos) (it acc : Value) (env : Env) :
    compTurn (.ListComp elt [⟨target, iter, [], 0⟩] scope pos) 0 it acc env = (standAt iter.pos >>= fun _ => pyNext it >>= fun r => match r with
      | none => pure (.done .next)
      | some v => letOwnedTupleGo target it v >>= fun _ => assign target env v >>= fun _ =>
        (eval elt env >>= fun x => call (.builtin "list.append") [acc, x] >>= fun _ => pure ()) >>= fun _ =>
          again (.compLoop (.ListComp elt [⟨target, iter, [], 0⟩] scope pos) 0 it acc env)) := by rfl
theorem noE {M : Model} {A : Around} {env : Env} {E : Value → Shared → Prop} : ∀ e s, (fun (_ : Value) (_ : Shared) => False) e s → notedBy M A env E e s := fun _ _ z => z.elim
/-- the block runs from a state that its own context describes -/
theorem lc_loop {tg elt iter : Expr} {pos : Pos} {g : TG} {te : TE} {it acc C : Addr} {fp : List Addr} {tn : Nat → Heap → Prop} {J : It} {Q : VK} {s0 : Shared} {H0 : Hp} {σ0 : St} {R : Result → Shared → Prop} {s : Shared} {i0 m0 : Nat} {ys0 : List V} {H1 : Hp} {W : Nat → Nat → List V → Hp → Prop}
    (hc : X.calm = true) (hg : PG (blk X N' scope cl s0 H0 C fp) tg g) (he : PE (blk X N' scope cl s0 H0 C fp) elt te) (T : Turn X.prog X.w X.K tg J fp it tn)
    (hfp : ∀ (H' : Hp), (∀ b ∈ fp, H' b = none) → ∀ b ∈ fp, FpOk (blk X N' scope cl s0 H0 C fp) [] H' b) (hW : lcW X.K σ0 J acc g te Q W)
    (hR : ∀ s' H', Inv (blk X N' scope cl s0 H0 C fp) [] σ0 H' s' → Q (.ref acc) H' → R (.ok .next) s')
    (I : Inv (blk X N' scope cl s0 H0 C fp) [] σ0 H1 s) (hst : tn i0 s.heap) (hfr : ∀ b ∈ fp, H1 b = none) (w : W i0 m0 ys0 H1) :
    codeAny (model X.prog X.w) X.A (.compLoop (.ListComp elt [⟨tg, iter, [], 0⟩] scope pos) 0 (.ref it) (.ref acc) (compEnvC scope cl C X.env)) R s := by
  refine codeAny_loop rfl (fun n s => ∃ i ys H2, Inv (blk X N' scope cl s0 H0 C fp) [] σ0 H2 s ∧ tn i s.heap ∧ (∀ b ∈ fp, H2 b = none) ∧ W i n ys H2) (fun n s hI => ?_) m0 ⟨i0, ys0, H1, I, hst, hfr, w⟩
  obtain ⟨i, ys, H2, I2, st2, fr2, w2⟩ := hI
  show wpAny _ _ ((compTurn (.ListComp elt [⟨tg, iter, [], 0⟩] scope pos) 0 (.ref it) (.ref acc) (compEnvC scope cl C X.env)).onRaise (fun x => do noteFrame x (compEnvC scope cl C X.env); theTreesLotGoes x)) _ _ s
  refine wpAny_noted ?_
  rw [compTurn_one]
  refine wpAny_bind (wpAny_standAt (wpAny_bind ?_))
  obtain ⟨hacc, hlen, hcase⟩ := hW i n ys H2 w2
  rcases hcase with ⟨stop, q⟩ | ⟨go, step⟩
  · refine thn (T.done (blk X N' scope cl s0 H0 C fp) rfl rfl rfl hc i [] s σ0 H2 _ I2 (hfp H2 fr2) st2 stop) fun r s1 ⟨hr, I3⟩ => ?_
    subst hr
    exact wpAny_pure (hR s1 H2 I3 q)
  · refine thn (T.item (blk X N' scope cl s0 H0 C fp) rfl rfl rfl hc i [] s σ0 H2 _ I2 (hfp H2 fr2) st2 go) fun r s1 ⟨u, hr, h4⟩ => ?_
    subst hr
    refine wpAny_bind (thn h4 fun _ s5 ⟨x, H5, I5, r5, y5, st5, fr5⟩ => ?_)
    have I5' := I5.pinned (hfp H5 fr5) (T.obj _ _ st5)
    refine wpAny_bind (wpAny_mono (hg _ s5 σ0 H5 x u _ I5' r5 (step x H5 y5)) (fun _ s6 ⟨σ6, H6, I6, hw6, q6⟩ => ?_) noE)
    refine wpAny_bind (wpAny_bind (wpAny_mono (he _ s6 σ6 H6 _ I6 q6) (fun v s7 ⟨y, H7, I7, r7, ha7, m', hm', w7⟩ => ?_) noE))
    refine wpAny_bind (wpAny_mono (mt_append (X := blk X N' scope cl s0 H0 C fp) _ s7 σ6 H7 (.ref acc) [y] (.ref acc) [v] (fun _ H8 => H8 = upd H7 acc (.lst (ys ++ [y]))) I7 rfl (.cons r7 .nil) ⟨acc, ys, y, rfl, rfl, ha7, hlen, rfl⟩) (fun _ s8 ⟨_, H8, I8, _, e8⟩ => ?_) noE)
    subst e8
    refine wpAny_pure (wpAny_pure ⟨rfl, m', hm', i + 1, ys ++ [y], _, ?_, ?_, fun b hb => ?_, w7⟩)
    · exact I8.unpinned.weak hw6.1.symm hw6.2
    · exact T.keep _ _ _ st5 fun b hb o e => (I8.pin (b, o) (List.mem_append_right _ (List.mem_append_right _ (mem_pinsAt hb e)))).1
    · obtain ⟨o, e, d⟩ := T.obj _ _ st5 b hb
      exact (I8.pin (b, o) (List.mem_append_right _ (List.mem_append_right _ (mem_pinsAt hb e)))).2.1
/-- what is left when the loop is through: the context around, the block's frame at C still there -/
theorem lc_core {tg elt iter : Expr} {pos pos' : Pos} {wi : TI} {g : TG} {te : TE} {use : Option (Value → Sem Unit)} {Q : VK} {Qf : Value → Shared → Prop} (B : BlkOk X scope cl N' nt ci) (hc : X.calm = true) (hi : PI X tg iter wi)
    (hg : ∀ s H C ex, PG (blk X N' scope cl s H C ex) tg g) (he : ∀ s H C ex, PE (blk X N' scope cl s H C ex) elt te) (hs : ∀ x, foldedSetIterable iter X.env x = pure x) (I : Inv X pins σ H s) (h : tLC X.K nt ci wi g te σ H Q)
    (fin : ∀ (acc C : Addr) (s' : Shared) (H' : Hp), Inv X pins σ H' s' → Q (.ref acc) H' → (∃ m, s'.heap.Ns C m) → FpOk X pins H' C → (∃ o, s'.heap.get? C = some o ∧ ∀ v, o.data ≠ .cell v) → compPost (model X.prog X.w) X.A X.xe use Qf (.ref acc) C (.ok .next) s') :
    wpAny (model X.prog X.w) X.A (comprehension (.ListComp elt [⟨tg, iter, [], 0⟩] scope pos) scope X.env pos' (newList []) false (eval iter X.env) use) Qf X.xe s := by
  refine wpAny_comprehension_free (use := use) rfl hs B.clos B.kind B.names (thn (hi pins s σ H _ I h) fun v s1 h1 => thn h1 fun itv s2 h2 => ?_)
  obtain ⟨it, fp, tn, J, H2, e, I2, T, st2, f2, q2⟩ := h2
  subst e
  have hacc : H2 s2.heap.objs.size = none := I2.hok.fresh (Nat.le_refl _)
  obtain ⟨W, ⟨m0, w0⟩, hW⟩ := q2 s2.heap.objs.size hacc
  refine wpAny_newObj_type (wpAny_newFunctionEnv B.cell (by intro y hy; simp at hy) (fun h₁ hns₁ hsb₁ => ?_) B.kind)
  dsimp only at hns₁ hsb₁ ⊢
  have hCs : (s2.heap.push { cls := .type "list", dict := none, data := .seq ([] : List Value).toArray }).objs.size = s2.heap.objs.size + 1 := Heap.size_push ..
  have k1 : ∀ b u, s2.heap.get? b = some u → h₁.get? b = some u := fun b u e => hsb₁.extBut b u (by rw [hCs]; exact Nat.ne_of_lt (Nat.lt_succ_of_lt (Heap.lt_size e))) (Heap.get?_push_of_some _ (Heap.get?_push_of_some _ e))
  have a1 : h₁.get? s2.heap.objs.size = some { cls := .type "list", data := .seq #[] } := hsb₁.extBut _ _ (by rw [hCs]; exact Nat.ne_of_lt (Nat.lt_succ_self _)) (Heap.get?_push_of_some _ (Heap.get?_push_size _ rfl))
  rw [hCs] at hns₁ ⊢
  have I3 := blk_start (tk := s2.toks + ([] : List (Str × Value)).length) B I2 f2 (fun b hb => let ⟨o, e, _⟩ := T.obj _ _ st2 b hb; ⟨o, e⟩) rfl rfl k1 (by simpa using hns₁) a1
  have hfpB : ∀ (H' : Hp), (∀ b ∈ fp, H' b = none) → ∀ b ∈ fp, FpOk (blk X N' scope cl s2 H2 (s2.heap.objs.size + 1) fp) [] H' b := fun H' hn b hb => by
    obtain ⟨f0, f1, f3, f4, f5, f6⟩ := f2 b hb
    obtain ⟨o, e, _⟩ := T.obj _ _ st2 b hb
    refine ⟨hn b hb, ?_, fun z => ?_, .inl hb, fun x c e' => f5 x c (B.sub x c e'), fun p hp => absurd (show p ∈ ([] : List (Addr × Obj)) from hp) (by simp)⟩
    · exact Nat.ne_of_lt (Nat.lt_succ_of_lt (Heap.lt_size e))
    · rcases List.mem_cons.mp (I2.stkSub b z) with y | y
      · exact f1 y
      · exact f3 y
  have hfr3 : ∀ b ∈ fp, upd H2 s2.heap.objs.size (.lst []) b = none := fun b hb => by
    obtain ⟨o, e, _⟩ := T.obj _ _ st2 b hb
    rw [upd_ne (Nat.ne_of_lt (Heap.lt_size e))]; exact (f2 b hb).1
  have st3 : tn 0 h₁ := T.keep _ _ _ st2 fun b _ o e => k1 b o e
  have loop : codeAny (model X.prog X.w) X.A (.compLoop (.ListComp elt [⟨tg, iter, [], 0⟩] scope pos) 0 (.ref it) (.ref s2.heap.objs.size) (compEnvC scope cl (s2.heap.objs.size + 1) X.env))
      (compPost (model X.prog X.w) X.A X.xe use Qf (.ref s2.heap.objs.size) (s2.heap.objs.size + 1)) { s2 with heap := h₁, toks := s2.toks + ([] : List (Str × Value)).length } := by
    refine lc_loop (Q := Q) hc (hg _ _ _ _) (he _ _ _ _) T hfpB hW (fun s' H' I' q => ?_) I3 st3 hfr3 w0
    have un := I'.base
    have ns := I'.loc
    have fC : H' (s2.heap.objs.size + 1) = none := I'.free
    have I4 : Inv X pins σ H' s' := I2.call' I'.os un I'.hok I'.bare fun b hb => by
      obtain ⟨f0, f1, f3, f4, f5, f6⟩ := f2 b hb
      exact ⟨f4, f1, f5, f6⟩
    obtain ⟨m, hm, _⟩ := ns
    have hm' : s'.heap.Ns (s2.heap.objs.size + 1) m := hm
    refine fin _ _ s' H' I4 q ⟨m, hm'⟩ (I2.fpOk (Nat.le_succ _) fC) ?_
    obtain ⟨o, es, ep, e, d, _⟩ := hm'
    exact ⟨o, e, fun v z => by rw [d] at z; cases z⟩
  exact codeAny_compStart_list loop (T.self _ _ _ _ _ st3 loop)
theorem pe_lc {tg elt iter : Expr} {pos : Pos} {wi : TI} {g : TG} {te : TE} (B : X.Ok → BlkOk X scope cl N' nt ci) (hc : X.calm = true) (hi : PI X tg iter wi)
    (hg : ∀ s H C ex, PG (blk X N' scope cl s H C ex) tg g) (he : ∀ s H C ex, PE (blk X N' scope cl s H C ex) elt te) (hs : ∀ x, foldedSetIterable iter X.env x = pure x := by intro _; rfl) :
    PE X (.ListComp elt [⟨tg, iter, [], 0⟩] scope pos) (tLC X.K nt ci wi g te) := by
  intro pins s σ H Q I h
  rw [eval_ListComp]
  refine lc_core (B I.ok) hc hi hg he hs I h fun acc C s' H' I' q hm hf ho => ?_
  obtain ⟨m, hm⟩ := hm
  obtain ⟨f0, f1, f2, f3, f4, f5⟩ := hf
  exact ⟨m, hm, fun h' sb => ⟨.ref acc, H', I'.turned (t' := s'.toks) (fun b o hb e => (sb.2 b hb).trans e) f0 f1 f3 f4 f5, rfl, q⟩⟩
/-- name = [.. for ..] -/
theorem ps_setLC {i : Nat} {x : Str} {tg elt iter : Expr} {pos spos pos' : Pos} {wi : TI} {g : TG} {te : TE} (hN : X.N.Nodup) (hi : X.N[i]? = some x) (hx : Loc X.env.scope x) (B : X.Ok → BlkOk X scope cl N' nt ci) (hc : X.calm = true) (hit : PI X tg iter wi)
    (hg : ∀ s H C ex, PG (blk X N' scope cl s H C ex) tg g) (he : ∀ s H C ex, PE (blk X N' scope cl s H C ex) elt te) (hsw : swapsWith (.ListComp elt [⟨tg, iter, [], 0⟩] scope pos) (some (.Name x pos')) spos.line X.env = pure true)
    (hs : ∀ x, foldedSetIterable iter X.env x = pure x := by intro _; rfl) (hf : X.fn x = true ∨ X.env.scope.names.lookup x = some .local := by first | exact .inl rfl | exact .inr rfl | assumption) :
    PS X (.Assign [.Name x pos'] (.ListComp elt [⟨tg, iter, [], 0⟩] scope pos) spos) (tAsg (tLC X.K nt ci wi g te) (gName i)) := by
  intro pins s σ H D I h
  rw [exec_Assign_Name_used _ _ _ _ hsw]
  refine wpAny_bind (wpAny_standAt (wpAny_bind ?_))
  rw [arm_evalThenUse_ListComp]
  refine wpAny_bind (lc_core (B I.ok) hc hit hg he hs I h fun acc C s' H' I' q hm hfC ho => ?_)
  obtain ⟨f0, f1, f2, f3, f4, f5⟩ := hfC
  obtain ⟨m, hm⟩ := hm
  obtain ⟨o, e, d⟩ := ho
  have Ip : Inv X (pins ++ [(C, o)]) σ H' s' := I'.pins_of fun p hp => (List.mem_append.mp hp).elim (fun z => I'.pin p (List.mem_append_right _ z)) fun z => by
    have e' : p = (C, o) := by simpa using z
    subst e'
    exact ⟨e, f0, f1, f2, d⟩
  refine wpAny_assign_Name (store_ok Ip hN hi hx (show RelV (.ref acc) (Value.ref acc) from rfl) (fun s2 I2 => ?_) hf)
  have e2 := (I2.pin (C, o) (List.mem_append_right _ (List.mem_append_right _ (by simp)))).1
  obtain ⟨o', es, ep, h1, h2, h3⟩ := hm
  rw [e] at h1; cases h1
  refine ⟨m, ⟨o, es, ep, e2, h2, h3⟩, fun h' sb => wpAny_pure (wpAny_pure ?_)⟩
  have I3 : Inv X pins (σ.set i (some (.ref acc))) H' s2 := I2.unpinned
  exact ⟨_, H', I3.turned (t' := s2.toks) (fun b o hb e => (sb.2 b hb).trans e) f0 f1 f3 f4 f5, q⟩
end
end L2

set_option Elab.async false
set_option linter.all false
set_option maxRecDepth 100000
set_option maxHeartbeats 2000000
/-! for a, b in zip(xs, ys); list(reversed(xs)) -/
namespace L2
open PySem PySem.Spec PyProof.Rows
def Itz (K : PySem.W.Frag) (a b : Addr) : It :=
  ⟨fun i H => ∃ xs ys x y, SqL K H a xs ∧ SqL K H b ys ∧ xs[i]? = some x ∧ ys[i]? = some y,
   fun i H v H' => ∃ T x y, v = .ref T ∧ H T = none ∧ H' = upd H T (.tup [x, y]) ∧ (∀ xs, SqL K H a xs → xs[i]? = some x) ∧ ∀ ys, SqL K H b ys → ys[i]? = some y,
   fun i H => ∃ xs ys, SqL K H a xs ∧ SqL K H b ys ∧ (xs.length ≤ i ∨ ys.length ≤ i)⟩
def zipSt (z TI TO i1 i2 l1 l2 : Addr) (i : Nat) (h : Heap) : Prop :=
  IsZip h z TI TO .none ∧ IsPair h TI (.ref i1) (.ref i2) ∧ (∃ a b, IsPair h TO a b) ∧ h.IsListIter i1 l1 i ∧ h.IsListIter i2 l2 i
theorem turn_zip {P : Program} {w : World} {K : PySem.W.Frag} {elts : List Expr} {k0 : Nat} {tpos : Pos} (z TI TO i1 i2 l1 l2 : Addr) (D : ZipApart z TI TO i1 i2 l1 l2) :
    Turn P w K (.Tuple elts k0 tpos) (Itz K l1 l2) [z, TI, TO, i1, i2] z (zipSt z TI TO i1 i2 l1 l2) where
  mem := by simp
  obj := fun i h st b hb => by
    obtain ⟨hz, hTI, ⟨a, c, hTO⟩, ⟨o1, e1, c1, d1⟩, ⟨o2, e2, c2, d2⟩⟩ := st
    simp only [List.mem_cons, List.not_mem_nil, or_false] at hb
    rcases hb with rfl | rfl | rfl | rfl | rfl
    · exact ⟨_, hz, fun v q => by cases q⟩
    · exact ⟨_, hTI, fun v q => by cases q⟩
    · exact ⟨_, hTO, fun v q => by cases q⟩
    · exact ⟨o1, e1, fun v q => by rw [d1] at q; cases q⟩
    · exact ⟨o2, e2, fun v q => by rw [d2] at q; cases q⟩
  keep := fun i h h' st k => by
    obtain ⟨hz, hTI, ⟨a, c, hTO⟩, h1, h2⟩ := st
    exact ⟨k z (by simp) _ hz, k TI (by simp) _ hTI, ⟨a, c, k TO (by simp) _ hTO⟩, h1.at fun o e => k i1 (by simp) o e, h2.at fun o e => k i2 (by simp) o e⟩
  item := by
    intro X hP hw hK hc i pins s σ H E I hf st hg
    subst hP hw hK
    obtain ⟨hz, hTI, ⟨a, c, hTO⟩, h1, h2⟩ := st
    obtain ⟨xs, ys, x, y, q1, q2, hx, hy⟩ := hg
    obtain ⟨its1, rv1, p1, _⟩ := I.list q1
    obtain ⟨its2, rv2, p2, _⟩ := I.list q2
    obtain ⟨u1, hu1, ru1⟩ := rv1.get hx
    obtain ⟨u2, hu2, ru2⟩ := rv2.get hy
    refine wpAny_pyNext_zip_item D hz hTI hTO h1 h2 p1.isList p2.isList (x := u1) (y := u2) (by simpa using hu1) (by simpa using hu2) fun h' a1 a2 a3 a4 a5 a6 kk => ?_
    have hT : H s.heap.objs.size = none := I.hok.fresh (Nat.le_refl _)
    have nch : ∀ b u, H b = some u → b ∉ [z, TO, i1, i2] := fun b u e hb => by
      have hb' : b ∈ [z, TI, TO, i1, i2] := by
        simp only [List.mem_cons, List.not_mem_nil, or_false] at hb ⊢
        rcases hb with q | q | q | q
        · exact .inl q
        · exact .inr (.inr (.inl q))
        · exact .inr (.inr (.inr (.inl q)))
        · exact .inr (.inr (.inr (.inr q)))
      rw [(hf b hb').1] at e; cases e
    have kk' : ∀ b o, b ∉ [z, TO, i1, i2] → s.heap.get? b = some o → h'.get? b = some o := fun b o hb e => by
      simp only [List.mem_cons, List.not_mem_nil, or_false, not_or] at hb
      exact kk b o hb.1 hb.2.1 hb.2.2.1 hb.2.2.2 e
    have ltT : ∀ b o, s.heap.get? b = some o → b ≠ s.heap.objs.size := fun b o e => Nat.ne_of_lt (Heap.lt_size e)
    have hokT : HOk X.prog X.w (upd H s.heap.objs.size (.tup [x, y])) h' := fun b ob e => by
      by_cases hb : b = s.heap.objs.size
      · subst hb
        rw [upd_same] at e
        cases e
        exact ⟨by show 2 ≤ sizeLine; decide, [u1, u2], .cons ru1 (.cons ru2 .nil), _, a5, rfl, _, rfl⟩
      · rw [upd_ne hb] at e
        refine (I.hok b ob e).stay (fun c v hcv q => kk' c v ?_ q) (fun c q => by rw [upd_ne (ne_of_none q hT)]; exact q) fun c xs q => by rw [upd_ne (ne_of_none q hT)]; exact q
        rcases hcv with rfl | hcv
        · exact nch _ _ e
        · exact nch _ _ hcv
    have I1 : Inv X pins σ (upd H s.heap.objs.size (.tup [x, y])) { s with heap := h' } := by
      refine I.step (g' := s.gens) (d' := s.drawn) (t' := s.toks) (ch := [z, TO, i1, i2]) (fun b hb => ?_) (fun b o _ _ hb e _ => kk' b o hb e) (fun b o _ _ hb e _ => ⟨o.slots, kk' b o hb e⟩) (fun b o _ e n => by rw [upd_ne (ltT b o e)]; exact n) (fun b o hb e => ⟨o, kk' b o hb e⟩)
        (fun b xs q => by rw [upd_ne (ne_of_none q hT)]; exact q) (fun b o u q => by rw [upd_ne (ne_of_none q hT)]; exact q) (fun b ps q => ⟨#[], by rw [upd_ne (ne_of_none q hT), q]; simp⟩) (fun m hm => ?_) hokT I.bare
      · have hb' : b ∈ [z, TI, TO, i1, i2] := by
          simp only [List.mem_cons, List.not_mem_nil, or_false] at hb ⊢
          rcases hb with q | q | q | q
          · exact .inl q
          · exact .inr (.inr (.inl q))
          · exact .inr (.inr (.inr (.inl q)))
          · exact .inr (.inr (.inr (.inr q)))
        obtain ⟨f0, f1, f2, f3, f4, f5⟩ := hf b hb'
        exact ⟨f3, f1, f4, f5⟩
      · obtain ⟨o, es, ep, ho, r⟩ := hm
        refine ⟨o, es, ep, kk' _ o ?_ ho, r⟩
        simp only [List.mem_cons, List.not_mem_nil, or_false, not_or]
        exact ⟨((hf z (by simp)).2.1).symm, ((hf TO (by simp)).2.1).symm, ((hf i1 (by simp)).2.1).symm, ((hf i2 (by simp)).2.1).symm⟩
    refine ⟨_, rfl, wpAny_letOwnedTupleGo_zip a1 fun h'' hz'' sb => ?_⟩
    obtain ⟨f0, f1, f2, f3, f4, f5⟩ := hf z (by simp)
    have ltz : ∀ b ∈ [z, TI, TO, i1, i2], b ≠ s.heap.objs.size := fun b hb => by
      simp only [List.mem_cons, List.not_mem_nil, or_false] at hb
      obtain ⟨o1, e1, _⟩ := h1
      obtain ⟨o2, e2, _⟩ := h2
      rcases hb with rfl | rfl | rfl | rfl | rfl
      · exact ltT _ _ hz
      · exact ltT _ _ hTI
      · exact ltT _ _ hTO
      · exact ltT _ _ e1
      · exact ltT _ _ e2
    have fn : ∀ b ∈ [z, TI, TO, i1, i2], upd H s.heap.objs.size (.tup [x, y]) b = none := fun b hb => by rw [upd_ne (ltz b hb)]; exact (hf b hb).1
    have I2 : Inv X pins σ (upd H s.heap.objs.size (.tup [x, y])) { s with heap := h'' } := I1.turned (t' := s.toks) (fun b o hb e => (sb.2 b hb).trans e) (fn z (by simp)) f1 f3 f4 f5
    refine ⟨.ref s.heap.objs.size, _, I2, rfl, ⟨_, x, y, rfl, hT, rfl, fun ys hy' => by rw [I.list_inj hy' q1]; exact hx, fun ys hy' => by rw [I.list_inj hy' q2]; exact hy⟩, ⟨hz'', ?_, ⟨u1, u2, ?_⟩, ?_, ?_⟩, fn⟩
    · exact (sb.2 TI D.TIz).trans (kk' TI _ (by simp only [List.mem_cons, List.not_mem_nil, or_false, not_or]; exact ⟨D.TIz, D.TITO, D.TIi1, D.TIi2⟩) hTI)
    · exact (sb.2 TO D.TOz).trans a2
    · exact a3.extBut sb.extBut D.i1z
    · exact a4.extBut sb.extBut D.i2z
  done := by
    intro X hP hw hK hc i pins s σ H E I hf st hg
    subst hP hw hK
    obtain ⟨hz, hTI, ⟨a, c, hTO⟩, h1, h2⟩ := st
    obtain ⟨xs, ys, q1, q2, hend⟩ := hg
    obtain ⟨its1, rv1, p1, _⟩ := I.list q1
    obtain ⟨its2, rv2, p2, _⟩ := I.list q2
    have e1 := rv1.length
    have e2 := rv2.length
    refine wpAny_pyNext_zip_end (I.ok.hd hc) D hz hTI hTO h1 h2 p1.isList p2.isList ?_ fun h' kk => ⟨rfl, ?_⟩
    · rcases hend with q | q
      · exact .inl (by simp; omega)
      · exact .inr (by simp; omega)
    · have nch : ∀ b u, H b = some u → b ∉ [z, TO, i1, i2] := fun b u e hb => by
        have hb' : b ∈ [z, TI, TO, i1, i2] := by
          simp only [List.mem_cons, List.not_mem_nil, or_false] at hb ⊢
          rcases hb with q | q | q | q
          · exact .inl q
          · exact .inr (.inr (.inl q))
          · exact .inr (.inr (.inr (.inl q)))
          · exact .inr (.inr (.inr (.inr q)))
        rw [(hf b hb').1] at e; cases e
      have kk' : ∀ b o, b ∉ [z, TO, i1, i2] → s.heap.get? b = some o → h'.get? b = some o := fun b o hb e => by
        simp only [List.mem_cons, List.not_mem_nil, or_false, not_or] at hb
        exact kk b o hb.1 hb.2.1 hb.2.2.1 hb.2.2.2 e
      have hok' : HOk X.prog X.w H h' := fun b ob e => by
        refine (I.hok b ob e).stay (fun c v hcv q => kk' c v ?_ q) (fun c q => q) fun c xs q => q
        rcases hcv with rfl | hcv
        · exact nch _ _ e
        · exact nch _ _ hcv
      refine I.step (g' := s.gens) (d' := s.drawn) (t' := s.toks) (ch := [z, TO, i1, i2]) (fun b hb => ?_) (fun b o _ _ hb e _ => kk' b o hb e) (fun b o _ _ hb e _ => ⟨o.slots, kk' b o hb e⟩) (fun b o _ e n => n) (fun b o _ e => ?_)
        (fun b xs q => q) (fun b o u q => q) (fun b ps q => ⟨#[], by rw [q]; simp⟩) (fun m hm => ?_) hok' I.bare
      · have hb' : b ∈ [z, TI, TO, i1, i2] := by
          simp only [List.mem_cons, List.not_mem_nil, or_false] at hb ⊢
          rcases hb with q | q | q | q
          · exact .inl q
          · exact .inr (.inr (.inl q))
          · exact .inr (.inr (.inr (.inl q)))
          · exact .inr (.inr (.inr (.inr q)))
        obtain ⟨f0, f1, f2, f3, f4, f5⟩ := hf b hb'
        exact ⟨f3, f1, f4, f5⟩
      · rename_i hb
        exact ⟨o, kk' b o hb e⟩
      · obtain ⟨o, es, ep, ho, r⟩ := hm
        refine ⟨o, es, ep, kk' _ o ?_ ho, r⟩
        simp only [List.mem_cons, List.not_mem_nil, or_false, not_or]
        exact ⟨((hf z (by simp)).2.1).symm, ((hf TO (by simp)).2.1).symm, ((hf i1 (by simp)).2.1).symm, ((hf i2 (by simp)).2.1).symm⟩
  self := fun _ _ _ _ _ st h => wpAny_pyIter_zip st.1 h
section
variable {X : Cx}
def iZip (K : PySem.W.Frag) (ta : TA) : TI := fun σ H R => ta σ H fun vs H1 => ∃ a b, vs = [.ref a, .ref b] ∧ (∃ xs, SqL K H1 a xs) ∧ (∃ ys, SqL K H1 b ys) ∧ R (Itz K a b) H1
theorem pi_zip {a b : Expr} {ta : TA} {p pos : Pos} {elts : List Expr} {k0 : Nat} {tpos : Pos} (hg : Gl X "zip") (hm : X.mg "zip" = none) (ha : PA X [a, b] ta) (hs : starEach [a, b] X.env = [(false, eval a X.env), (false, eval b X.env)] := by rfl) (hs2 : starEach [b] X.env = [(false, eval b X.env)] := by rfl) :
    PI X (.Tuple elts k0 tpos) (.Call (.Name "zip" p) [a, b] [] pos) (iZip X.K ta) := by
  intro pins s σ H R I h
  refine Call_ (ld_blt I hg hm (by first | exact PySem.boot_zip | rfl) (PyProof.Rows.callWith_type1 (thn (ha pos pins s σ H _ I h) fun us s1 ⟨vs, H1, I1, r1, q1⟩ => ?_) (by rw [hs, hs2]) (by rw [hs2]; rfl)))
  obtain ⟨l1, l2, e, ⟨xs, q1⟩, ⟨ys, q2⟩, q⟩ := q1
  subst e
  obtain ⟨u1, u2, rfl, ru1, ru2⟩ := vals2 r1
  cases ru1
  cases ru2
  obtain ⟨its1, rv1, p1, _⟩ := I1.list q1
  obtain ⟨its2, rv2, p2, _⟩ := I1.list q2
  have a1 : l1 < s1.heap.objs.size := by obtain ⟨_, e, _⟩ := p1.isList; exact Heap.lt_size e
  have a2 : l2 < s1.heap.objs.size := by obtain ⟨_, e, _⟩ := p2.isList; exact Heap.lt_size e
  refine call_zip_2 p1.isList p2.isList fun h' hz hTI hTO hi1 hi2 _ hk => wpAny_pyIter_zip hz ?_
  have I2 : Inv X pins σ H1 { s1 with heap := h' } := I1.kept (t' := s1.toks) hk
  refine ⟨_, _, _, _, H1, rfl, I2, turn_zip _ _ _ _ _ l1 l2 (zipApart_new a1 a2), ⟨hz, hTI, ⟨_, _, hTO⟩, hi1, hi2⟩, fun b hb => ?_, q⟩
  have hb' : s1.heap.objs.size ≤ b := by
    simp only [List.mem_cons, List.not_mem_nil, or_false] at hb
    rcases hb with rfl | rfl | rfl | rfl | rfl <;> omega
  exact I1.fpOk hb' (I1.hok.fresh hb')
/-- over two lists that the body leaves as they are -/
theorem for_zip {K : PySem.W.Frag} {a b : Addr} {xs ys : List V} {g : TG} {tb : TS} {D : Ends} {σ : St} {H : Hp} (Pv : Nat → St → Hp → Prop) (hxy : xs.length = ys.length) (h0 : Pv 0 σ H) (hl : ∀ i σ H, i ≤ xs.length → Pv i σ H → SqL K H a xs ∧ SqL K H b ys)
    (hs : ∀ i x y σ H T, xs[i]? = some x → ys[i]? = some y → H T = none → Pv i σ H → g (.ref T) σ (upd H T (.tup [x, y])) fun σ2 H2 => tb { D with nx := Pv (i + 1), ct := Pv (i + 1), bk := D.nx } σ2 H2) (hd : ∀ σ H, Pv xs.length σ H → D.nx σ H) :
    ∃ W : Nat → Nat → St → Hp → Prop, (∃ m, W 0 m σ H) ∧ ∀ i m σ H, W i m σ H →
      ((Itz K a b).stop i H ∧ D.nx σ H) ∨ ((Itz K a b).go i H ∧ ∃ N : St → Hp → Prop, (∀ σ' H', N σ' H' → ∃ m', m' < m ∧ W (i + 1) m' σ' H') ∧ ∀ x H', (Itz K a b).yld i H x H' → g x σ H' fun σ2 H2 => tb { D with nx := N, ct := N, bk := D.nx } σ2 H2) := by
  refine ⟨fun i m σ H => m = xs.length - i ∧ i ≤ xs.length ∧ Pv i σ H, ⟨xs.length, by simp, Nat.zero_le _, h0⟩, ?_⟩
  rintro i m σ H ⟨rfl, hi, p⟩
  obtain ⟨q1, q2⟩ := hl i σ H hi p
  by_cases hlt : i < xs.length
  · refine .inr ⟨⟨xs, ys, xs[i], ys[i], q1, q2, by simp [hlt], by simp [hxy ▸ hlt]⟩, Pv (i + 1), fun σ' H' p' => ⟨xs.length - (i + 1), by omega, rfl, hlt, p'⟩, fun v H' z => ?_⟩
    obtain ⟨T, x, y, rfl, hT, rfl, z1, z2⟩ := z
    exact hs i x y σ H T (z1 xs q1) (z2 ys q2) hT p
  · have e : i = xs.length := by omega
    subst e
    exact .inl ⟨⟨xs, ys, q1, q2, .inl (Nat.le_refl _)⟩, hd σ H p⟩
end
end L2

set_option Elab.async false
set_option linter.all false
set_option maxRecDepth 100000
set_option maxHeartbeats 2000000
namespace PySem
open Sem (wp)
namespace F
theorem nolen_lri : typeLookup (.type "list_reverseiterator") "__len__" = pure none := by rw [typeLookup_type, builtinLookup_eq_fast]; kernel_rfl
theorem hint_lri : typeLookup (.type "list_reverseiterator") "__length_hint__" = pure (some (.builtin "list_reverseiterator.__length_hint__")) := by rw [typeLookup_type, builtinLookup_eq_fast]; kernel_rfl
end F
section
variable {prog : Program} {w : World} {A : Around} {E : Value → Shared → Prop} {s : Shared}
theorem wpAny_hint_lri {a l : Addr} {i : Int} {Q : Bool → Shared → Prop} (hr : s.heap.IsRevIter a l i) (h : Q false s) : wpAny (model prog w) A (Builtin.List.listLengthHint (.ref a)) Q E s := by
  unfold Builtin.List.listLengthHint
  refine wpAny_bind (wpAny_specialOf hr.typeIs F.nolen_lri ?_)
  show wpAny _ A (specialOf (Value.ref a) (Str.ofString "__length_hint__") >>= _) _ _ _
  refine wpAny_bind (wpAny_specialOf hr.typeIs F.hint_lri ?_)
  generalize hid : ("list_reverseiterator.__length_hint__" : String) = id0
  wp_delta
  rw [show splitId id0 = some ("list_reverseiterator", "__length_hint__") from by subst hid; decide +kernel]
  subst hid
  refine wpAny_bind (wpAny_isInstance (b := true) hr.typeIs (by rw [isSubtype_type]; kernel_rfl) ?_)
  exact wpAny_pure h
theorem call_list_lri {Q : Value → Shared → Prop} {a l : Addr} {items : Array Value} (hh : A.handled = none) (hne : l ≠ a) (hr : s.heap.IsRevIter a l ((items.size : Int) - 1)) (hl : s.heap.IsList l items) (hlen : items.size ≤ 2 ^ 23)
    (hQ : ∀ h' tk acc' c', (∀ b o, b ≠ a → s.heap.get? b = some o → h'.get? b = some o) →
      h'.get? s.heap.objs.size = some { cls := .type "list", dict := none, data := .seq acc' c', slots := #[] } → ItemsOf (fun i v => items[items.size - 1 - i]? = some v) acc' items.size → Q (.ref s.heap.objs.size) { s with heap := h', toks := tk }) :
    wpAny (model prog w) A (call (.type "list") [.ref a]) Q E s := by
  refine callType_codes (Q₁ := fun obj s₁ => obj = .ref s.heap.objs.size ∧ s₁ = { s with heap := s.heap.push { cls := .type "list", data := .seq #[] } }) F.called_list (F.typeCall_list_1 _) F.entry_list_init
    (code_list_new _ ⟨rfl, rfl⟩) fun obj s₁ h₁ => ?_
  obtain ⟨rfl, rfl⟩ := h₁
  have hS : (s.heap.push { cls := .type "list", data := .seq #[] }).get? s.heap.objs.size = some { cls := .type "list", data := .seq #[] } := Heap.get?_push_size _ rfl
  have hSa : s.heap.objs.size ≠ a := by obtain ⟨o, e, _⟩ := hr; exact Nat.ne_of_gt (Heap.lt_size e)
  have hSl : s.heap.objs.size ≠ l := by obtain ⟨o, e, _⟩ := hl; exact Nat.ne_of_gt (Heap.lt_size e)
  refine ⟨⟨_, hS, rfl⟩, F.args_list_init_2 _ _, ?_⟩
  show wpAny _ _ (do let old ← Builtin.List.listItems (.ref s.heap.objs.size); Builtin.List.listUpdate (.ref s.heap.objs.size) (fun _ => #[]); letGo old.toList.reverse; Builtin.List.listExtendWith (.ref s.heap.objs.size) (.ref a) .none) _ _ _
  refine wpAny_bind ?_
  unfold Builtin.List.listItems
  refine wpAny_bind (wpAny_seqItems hS rfl (wpAny_pure ?_))
  show wpAny _ _ (updateSeq s.heap.objs.size (fun _ => #[]) >>= fun _ => letGo (#[] : Array Value).toList.reverse >>= fun _ => Builtin.List.listExtendWith (.ref s.heap.objs.size) (.ref a) .none) _ _ _
  refine wpAny_bind (wpAny_updateSeq hS rfl ?_)
  have hS₂ := Heap.get?_update_self (Obj.mapSeq (fun _ => (#[] : Array Value))) hS rfl
  have oth : ∀ b o, s.heap.get? b = some o → ((s.heap.push { cls := .type "list", data := .seq #[] }).update s.heap.objs.size (Obj.mapSeq (fun _ => (#[] : Array Value)))).get? b = some o :=
    fun b o e => (Heap.get?_update_other _ _ (Ne.symm (Nat.ne_of_lt (Heap.lt_size e)))).trans (Heap.get?_push_of_some _ e)
  refine wpAny_bind (wpAny_letGo ?_)
  have hr₂ := hr.at fun o e => oth _ _ e
  have hl₂ : Heap.IsList ((s.heap.push { cls := .type "list", data := .seq #[] }).update s.heap.objs.size (Obj.mapSeq (fun _ => (#[] : Array Value)))) l items := hl.at fun o e => oth _ _ e
  have h1 : Builtin.List.listSameRef (.ref s.heap.objs.size) (.ref a) = false := by simp [Builtin.List.listSameRef, hSa]
  unfold Builtin.List.listExtendWith
  refine wpAny_bind (wpAny_typeOf (T := "list_reverseiterator") (by obtain ⟨o, e, c, _⟩ := hr₂; exact ⟨o, e, c⟩) ?_)
  have h2 : (Value.type "list_reverseiterator" == Value.type "list") = false := by decide
  have h3 : (Value.type "list_reverseiterator" == Value.type "tuple") = false := by decide
  simp only [h1, h2, h3, Bool.or_false, Bool.false_eq_true, if_false]
  refine wpAny_bind (wpAny_pyIter_revIter hr₂ ?_)
  refine wpAny_bind (wpAny_holding (wpAny_hint_lri hr₂ ?_))
  have W := (Walks.listRev (prog := prog) (w := w) (A := A.in1.in1) hh a l hne items).toS
  refine wpAny_ite_split (fun hab => absurd hab (by decide)) (fun _ => wpAny_pure ⟨plainId_quiet F.plain_extend_loop _, ?_⟩)
  refine codeAny_extend_loopS W (by rw [sizeLine_eq]; omega) s.heap.objs.size (by simp [hSa, hSl]) .none items.size 0 _ #[] _ rfl (Nat.zero_le _) ⟨Nat.zero_le _, ?_, hl₂⟩ hS₂ (ItemsOf.nil _) fun s' acc' c' hm hS' hacc => ?_
  · simpa using hr₂
  · rw [Moved.eq_with hm]
    exact ⟨rfl, hQ s'.heap s'.toks acc' c' (fun b o hb e => hm.heap b o (fun hmem => by
      rcases List.mem_cons.mp hmem with e' | hmem
      · exact absurd e' (Nat.ne_of_lt (Heap.lt_size e))
      · exact hb (List.mem_singleton.mp hmem)) (oth b o e)) hS' hacc⟩
end
end PySem
namespace L2
open PySem PySem.Spec PyProof.Rows
section
variable {X : Cx}
/-- list(reversed(xs)): a new list -/
def rRevd (K : PySem.W.Frag) : List V → Hp → VK → Prop := fun vs H Q => ∃ a xs, vs = [.ref a] ∧ SqL K H a xs ∧ xs.length ≤ 8000000 ∧ ∀ p, H p = none → Q (.ref p) (upd H p (.lst xs.reverse))
theorem pe_revd {e : Expr} {t : TA} {p1 p2 pos1 pos2 : Pos} (hc : X.calm = true) (hg1 : Gl X "list") (hm1 : X.mg "list" = none) (hg2 : Gl X "reversed") (hm2 : X.mg "reversed" = none) (ha : PA X [e] t)
    (he : starEach [e] X.env = [(false, eval e X.env)] := by rfl) (he2 : starEach [.Call (.Name "reversed" p2) [e] [] pos2] X.env = [(false, eval (.Call (.Name "reversed" p2) [e] [] pos2) X.env)] := by rfl) :
    PE X (.Call (.Name "list" p1) [.Call (.Name "reversed" p2) [e] [] pos2] [] pos1) (tCB (rRevd X.K) t) := by
  intro pins s σ H Q I h
  refine wpAny_Call_Name_kw (ld_blt I hg1 hm1 (by first | exact PySem.boot_list | rfl) ?_)
  refine PyProof.Rows.callWith_type1 ?_ he2 rfl
  rw [he2]
  show wpAny _ _ (spliced ((false, eval (.Call (.Name "reversed" p2) [e] [] pos2) X.env) :: backTo pos1 (starEach [] X.env))) _ _ s
  refine Calls.spliced_cons (wpAny_Call_Name_kw (ld_blt I hg2 hm2 (by first | exact PySem.boot_reversed | rfl) ?_))
  refine PyProof.Rows.callWith_type1 (thn (ha pos2 pins s σ H _ I h) fun us s1 ⟨vs, H1, I1, r1, q1⟩ => ?_) he rfl
  obtain ⟨l, xs, rfl, hx, hz, q⟩ := q1
  obtain ⟨u, rfl, ru⟩ := vals1 r1
  cases ru
  obtain ⟨its, r, ht, _⟩ := I1.list hx
  have hlen := r.length
  have ll : l < s1.heap.objs.size := by obtain ⟨_, e, _⟩ := ht.isList; exact Heap.lt_size e
  refine call_reversed_list ht.isList (Calls.spliced_nil ?_)
  have hit : Heap.IsRevIter (s1.heap.push (revObj l ((its.toArray.size : Int) - 1))) s1.heap.objs.size l ((its.toArray.size : Int) - 1) := ⟨_, Heap.get?_push_size _ rfl, rfl, rfl⟩
  refine call_list_lri (I1.ok.hd hc) (Nat.ne_of_lt ll) hit (ht.isList.at fun o e => Heap.get?_push_of_some _ e) (by rw [List.size_toArray]; omega) fun h' tk acc' c' hk hS hacc => ?_
  have es : (s1.heap.push (revObj l ((its.toArray.size : Int) - 1))).objs.size = s1.heap.objs.size + 1 := Heap.size_push ..
  have keep : ∀ b o, s1.heap.get? b = some o → h'.get? b = some o := fun b o e => hk b o (Nat.ne_of_lt (Heap.lt_size e)) (Heap.get?_push_of_some _ e)
  have ea : acc'.toList = its.reverse := by
    obtain ⟨n1, n2⟩ := hacc
    apply List.ext_getElem?
    intro j
    by_cases hj : j < acc'.size
    · have v := n2 j acc'[j] (by simp [hj])
      rw [n1, List.size_toArray] at hj
      rw [Array.getElem?_toList, List.getElem?_reverse hj, Array.getElem?_eq_getElem (by rw [n1, List.size_toArray]; exact hj)]
      simpa using v.symm
    · rw [List.getElem?_eq_none (by simpa using hj), List.getElem?_eq_none (by rw [List.length_reverse]; rw [n1, List.size_toArray] at hj; omega)]
  rw [es] at hS ⊢
  have fr : H1 (s1.heap.objs.size + 1) = none := I1.hok.fresh (Nat.le_succ _)
  refine ⟨.ref (s1.heap.objs.size + 1), _, I1.laid (a := s1.heap.objs.size + 1) (o := .lst xs.reverse) keep (Nat.le_succ _) ⟨?_, acc'.toList, c', ?_, by simpa using hS⟩, rfl, q _ fr⟩
  · rw [List.length_reverse, sizeLine_eq]; omega
  · rw [ea]; exact r.reverse
end
end L2

set_option Elab.async false
set_option linter.all false
set_option maxRecDepth 100000
set_option maxHeartbeats 2000000
/-! a dict of the module with keys that are texts: read, asked -/
namespace L2
open PySem PySem.Spec PyProof.Rows
structure KDict (K : PySem.W.Frag) (w : World) (a : Addr) (kvs : List (Str × V)) : Prop where
  ex : ∃ (o : Obj) (es : Array DictEntry) (ep : Nat), K.lookup a = some o ∧ o.ExactDict ∧ o.data = .dict es ep ∧ Paired (fun (p : Str × V) (e : DictEntry) => (∃ tk, e.key = .str p.1 tk) ∧ e.hash = PyData.keyHash w.params p.1 ∧ RelV p.2 e.val) kvs es.toList
  nd : (kvs.map (·.1)).Nodup
  ns : (a == sysModules) = false
def kvK (kvs : List (Str × V)) : List (Key × V) := kvs.map fun p => (Sum.inr p.1, p.2)
section
variable {X : Cx} {pins : List (Addr × Obj)} {σ : St} {H : Hp} {s : Shared} {a : Addr} {kvs : List (Str × V)}
theorem kd_pairs {P : Program} {w : World} : ∀ {kvs : List (Str × V)} {es : List DictEntry}, Paired (fun (p : Str × V) (e : DictEntry) => (∃ tk, e.key = .str p.1 tk) ∧ e.hash = PyData.keyHash w.params p.1 ∧ RelV p.2 e.val) kvs es →
    (∀ e ∈ es, ∃ k, (mixKind P w).is k e.key = true ∧ e.hash = (mixKind P w).hash k) ∧ Pairs (mixKind P w) es (List.zip (kvs.map fun p => (Sum.inr p.1 : Key)) (es.map (·.val))) ∧ KV (kvK kvs) (List.zip (kvs.map fun p => (Sum.inr p.1 : Key)) (es.map (·.val)))
  | [], _, r => by cases r; exact ⟨(fun _ h => (nomatch h)), .nil, .nil⟩
  | p :: kvs, _, r => by
    cases r with
    | @cons _ e _ es h t =>
      obtain ⟨⟨tk, h1⟩, h2, h3⟩ := h
      obtain ⟨q1, q2, q3⟩ := kd_pairs (P := P) t
      have hi : (mixKind P w).is (Sum.inr p.1) e.key = true := by rw [h1]; exact mixKind_str P w p.1 tk
      refine ⟨fun e' he => ?_, .cons hi rfl q2, .cons ⟨rfl, h3⟩ q3⟩
      rcases List.mem_cons.mp he with rfl | he
      · exact ⟨Sum.inr p.1, hi, h2⟩
      · exact q1 e' he
theorem KDict.of (D : KDict X.K X.w a kvs) (I : Inv X pins σ H s) : ∃ vs, KV (kvK kvs) vs ∧ s.heap.DictOf (mixKind X.prog X.w) a vs := by
  obtain ⟨o, es, ep, lk, ex, d, pr⟩ := D.ex
  obtain ⟨q1, q2, q3⟩ := kd_pairs (P := X.prog) pr
  refine ⟨_, q3, o, es, ep, I.kIn a o lk, ex, d, fun e he => q1 e (by simpa using he), q2, ?_⟩
  have e : (List.zip (kvs.map fun p => (Sum.inr p.1 : Key)) (es.toList.map (·.val))).map (·.1) = kvs.map fun p => (Sum.inr p.1 : Key) := by
    rw [List.map_fst_zip]
    have := Paired.length pr
    simp only [List.length_map]; omega
  rw [e]
  have inj : ∀ l : List (Str × V), (l.map (·.1)).Nodup → (l.map fun p => (Sum.inr p.1 : Key)).Nodup := by
    intro l
    induction l with
    | nil => intro _; exact List.nodup_nil
    | cons p r ih =>
      intro h
      rw [List.map_cons, List.nodup_cons] at h
      rw [List.map_cons, List.nodup_cons]
      refine ⟨fun m => h.1 ?_, ih h.2⟩
      obtain ⟨q, hq, eq⟩ := List.mem_map.mp m
      exact List.mem_map.mpr ⟨q, hq, Sum.inr.inj eq⟩
  exact inj kvs D.nd
theorem valV_kvK (kvs : List (Str × V)) (x : Str) : valV (kvK kvs) (Sum.inr x) = kvs.lookup x := by
  unfold valV kvK
  induction kvs with
  | nil => rfl
  | cons p r ih =>
    rw [List.map_cons, List.find?_cons]
    obtain ⟨k, v⟩ := p
    by_cases e : k = x
    · subst e; simp [List.lookup_cons]
    · have e1 : ¬ (Sum.inr k : Key) = Sum.inr x := fun q => e (Sum.inr.inj q)
      have e2 : (x == k) = false := beq_eq_false_iff_ne.mpr (Ne.symm e)
      simp only [decide_eq_false e1, List.lookup_cons, e2]
      exact ih
def tKD (kvs : List (Str × V)) (ti : TE) : TE := fun σ H Q => ti σ H fun y H1 => ∃ x v, y = .str x ∧ kvs.lookup x = some v ∧ Q v H1
theorem pe_kdget {name : Str} {i : Expr} {ti : TE} {p pos : Pos} (D : KDict X.K X.w a kvs) (hg : Gl X name) (hm : X.mg name = some (.ref a)) (hi : PE X i ti) (hs : NoSl i := by exact fun _ _ => rfl) (hd : (name == ("__debug__" : Str)) = false := by decide) :
    PE X (.Subscript (.Name name p) i pos) (tKD kvs ti) := by
  intro pins s σ H Q I h
  refine subD_of PySem.F.slot_dict_getitem.lookup hs (ld_glob I hg hm (thn (hi pins s σ H _ I h) fun iv s2 ⟨y, H2, I2, ry, x, v, ey, hl, q2⟩ => ?_) hd)
  subst ey
  obtain ⟨vs, rel, dd⟩ := D.of I2
  obtain ⟨w', hw, rw'⟩ := RelO.some_of (v := v) (o := valueAt vs (Sum.inr x)) (by rw [← hl, ← valV_kvK]; exact rel.val (Sum.inr x))
  exact ⟨dd.typeIs, wpAny_getItem_of (kV_is (k := Sum.inr x) ry) dd.mapOf hw ⟨v, H2, I2.tok _, rw', q2⟩⟩
def tKNotIn (kvs : List (Str × V)) (ti : TE) : TE := fun σ H Q => ti σ H fun y H1 => ∃ x, y = .str x ∧ Q (.bl (!(kvs.lookup x).isSome)) H1
theorem pc_knotin {name : Str} {i : Expr} {ti : TE} {p : Pos} (D : KDict X.K X.w a kvs) (hg : Gl X name) (hm : X.mg name = some (.ref a)) (hi : PE X i ti) (hd : (name == ("__debug__" : Str)) = false := by decide) :
    PC X .NotIn i (.Name name p) (tKNotIn kvs ti) := by
  intro pins s σ H Q I h
  refine thn (hi pins s σ H _ I h) fun iv s1 ⟨y, H1, I1, ry, x, ey, q1⟩ => ?_
  subst ey
  refine ld_glob I1 hg hm ?_ hd
  obtain ⟨vs, rel, dd⟩ := D.of I1
  refine wpAny_notIn_of (kV_is (k := Sum.inr x) ry) D.ns dd.mapOf ?_
  rw [← (rel.val (Sum.inr x)).isSome_eq, valV_kvK]
  exact ⟨.bl _, H1, I1.tok _, rfl, q1⟩
end
end L2

set_option Elab.async false
set_option linter.all false
set_option maxRecDepth 100000
set_option maxHeartbeats 2000000
namespace L2
open PySem PySem.Spec PyProof.Rows
/-! blocks without and with names from around -/
section
variable {X : Cx} {scope : Scope} {N' : List Str}
theorem relabel_nofree {scope : Scope} {env : Env} (h : ∀ y ∈ scope.names, y.2 ≠ .free) : (relabel scope env).names = scope.names := by
  unfold relabel
  simp only
  have aux : ∀ l : List (Str × NameKind), (∀ y ∈ l, y.2 ≠ .free) → l.map (fun (n, k) => if (k == NameKind.free && env.scope.kind == .function && env.kindOf n == some .cell) then (n, NameKind.cell) else (n, k)) = l := by
    intro l
    induction l with
    | nil => intro _; rfl
    | cons y r ih =>
      intro h
      rw [List.map_cons, ih fun z hz => h z (List.mem_cons_of_mem _ hz)]
      obtain ⟨n, k⟩ := y
      have : (k == NameKind.free) = false := by simpa using h (n, k) List.mem_cons_self
      simp [this]
  exact aux _ h
theorem blk0 (hc : ∀ y ∈ scope.names, y.2 ≠ .cell) (hf : ∀ y ∈ scope.names, y.2 ≠ .free) (hk : scope.kind = .function) (hn : ∀ y ∈ scope.names, y.2 = .local → scope.names.lookup y.1 = some .local) (_ : X.Ok) : BlkOk X scope [] N' N'.length [] where
  clos := closureFor_none hf
  cell := hc
  kind := hk
  names := hn
  sub := fun _ _ h => by cases h
  has := fun x h => by
    rw [relabel_nofree hf] at h
    rcases h with h | h
    · exact absurd rfl (hc _ (PySem.mem_of_lookup h))
    · exact absurd rfl (hf _ (PySem.mem_of_lookup h))
  len := by simp
  cap := fun j i h => by simp at h
/-- the cells that a block takes from around -/
def closL (cells : List (Str × Addr)) : List (Str × NameKind) → List (Str × Addr) → List (Str × Addr)
  | [], acc => acc
  | (n, k) :: r, acc => if k == .free then closL cells r ((n, (cells.lookup n).getD 0) :: acc) else closL cells r acc
theorem closL_eq {env : Env} : ∀ (names : List (Str × NameKind)) (acc : List (Str × Addr)), (∀ y ∈ names, y.2 = .free → ∃ c, env.cells.lookup y.1 = some c) →
    (forIn names acc fun (x : Str × NameKind) cs => (match x with | (name, kind) => if (kind == .free) = true then do let c ← cellOf env name; pure (ForInStep.yield ((name, c) :: cs)) else pure (ForInStep.yield cs) : Sem (ForInStep (List (Str × Addr))))) = pure (closL env.cells names acc)
  | [], acc, _ => rfl
  | (n, k) :: r, acc, h => by
    rw [List.forIn_cons]
    unfold closL
    by_cases hk : (k == NameKind.free) = true
    · obtain ⟨c, hc⟩ := h (n, k) List.mem_cons_self (by simpa using hk)
      have e : cellOf env n = pure c := by unfold cellOf; rw [show env.cells.lookup n = some c from hc]
      have hc' : env.cells.lookup n = some c := hc
      simp only [hk, if_true, e, pure_bind, hc', Option.getD_some]
      exact closL_eq r _ fun y hy => h y (List.mem_cons_of_mem _ hy)
    · simp only [hk, if_false, pure_bind]
      exact closL_eq r acc fun y hy => h y (List.mem_cons_of_mem _ hy)
theorem closureFor_eq {scope : Scope} {env : Env} (h : ∀ y ∈ scope.names, y.2 = .free → ∃ c, env.cells.lookup y.1 = some c) : closureFor scope env = pure (closL env.cells scope.names []) := by
  unfold closureFor
  have e := closL_eq (env := env) scope.names [] h
  simp only [bind_pure_comp] at e ⊢
  first
    | exact e
    | (rw [e]; rfl)
    | (refine Eq.trans ?_ e; rfl)
theorem closL_mem {cells : List (Str × Addr)} : ∀ {names : List (Str × NameKind)} {acc : List (Str × Addr)} {x : Str} {c : Addr}, (x, c) ∈ closL cells names acc → (x, c) ∈ acc ∨ ((x, NameKind.free) ∈ names ∧ c = (cells.lookup x).getD 0)
  | [], acc, x, c, h => .inl h
  | (n, k) :: r, acc, x, c, h => by
    unfold closL at h
    by_cases hk : (k == NameKind.free) = true
    · rw [if_pos hk] at h
      have hk' : k = .free := by simpa using hk
      rcases closL_mem h with h | ⟨h1, h2⟩
      · rcases List.mem_cons.mp h with e | h
        · cases e
          subst hk'
          exact .inr ⟨List.mem_cons_self, rfl⟩
        · exact .inl h
      · exact .inr ⟨List.mem_cons_of_mem _ h1, h2⟩
    · rw [if_neg hk] at h
      rcases closL_mem h with h | ⟨h1, h2⟩
      · exact .inl h
      · exact .inr ⟨List.mem_cons_of_mem _ h1, h2⟩
theorem closL_has {cells : List (Str × Addr)} : ∀ {names : List (Str × NameKind)} {acc : List (Str × Addr)} {x : Str}, (x, NameKind.free) ∈ names ∨ (∃ c, (x, c) ∈ acc) → ∃ c, (x, c) ∈ closL cells names acc
  | [], acc, x, h => by
    rcases h with h | h
    · cases h
    · exact h
  | (n, k) :: r, acc, x, h => by
    unfold closL
    by_cases hk : (k == NameKind.free) = true
    · rw [if_pos hk]
      refine closL_has ?_
      rcases h with h | ⟨c, h⟩
      · rcases List.mem_cons.mp h with e | h
        · cases e
          exact .inr ⟨_, List.mem_cons_self⟩
        · exact .inl h
      · exact .inr ⟨c, List.mem_cons_of_mem _ h⟩
    · rw [if_neg hk]
      refine closL_has ?_
      rcases h with h | h
      · rcases List.mem_cons.mp h with e | h
        · cases e
          exact absurd (beq_self_eq_true NameKind.free) hk
        · exact .inl h
      · exact .inr h
theorem lookup_of_mem {l : List (Str × Addr)} {x : Str} {c : Addr} (h : (x, c) ∈ l) : ∃ c', l.lookup x = some c' := by
  induction l with
  | nil => cases h
  | cons p r ih =>
    obtain ⟨n, a⟩ := p
    by_cases e : (x == n) = true
    · exact ⟨a, by simp [List.lookup_cons, e]⟩
    · have e' : (x == n) = false := by simpa using e
      rcases List.mem_cons.mp h with h | h
      · cases h; simp at e
      · obtain ⟨c', q⟩ := ih h
        exact ⟨c', by simp only [List.lookup_cons, e']; exact q⟩
theorem relabel_free {env : Env} : ∀ {names : List (Str × NameKind)} {x : Str} {k : NameKind}, (names.map fun (n, k) => if (k == NameKind.free && env.scope.kind == .function && env.kindOf n == some .cell) then (n, NameKind.cell) else (n, k)).lookup x = some k → (k = .cell ∨ k = .free) → (∀ y ∈ names, y.2 ≠ .cell) → (x, NameKind.free) ∈ names
  | [], x, k, h, _, _ => by cases h
  | (n, j) :: r, x, k, h, hk, hc => by
    rw [List.map_cons] at h
    by_cases e : (x == n) = true
    · have e' : x = n := by simpa using e
      subst e'
      have hj : j ≠ .cell := hc (x, j) List.mem_cons_self
      by_cases q : (j == NameKind.free && env.scope.kind == .function && env.kindOf x == some .cell) = true
      · have : j = .free := by
          rw [Bool.and_eq_true, Bool.and_eq_true] at q
          simpa using q.1.1
        subst this
        exact List.mem_cons_self
      · simp only [q, if_false, List.lookup_cons, beq_self_eq_true] at h
        have h' : j = k := by simpa using h
        subst h'
        rcases hk with z | z
        · exact absurd z hj
        · subst z; exact List.mem_cons_self
    · have e' : (x == n) = false := by simpa using e
      refine List.mem_cons_of_mem _ (relabel_free (env := env) (k := k) ?_ hk fun y hy => hc y (List.mem_cons_of_mem _ hy))
      have h' : List.lookup x ((if (j == NameKind.free && env.scope.kind == .function && env.kindOf n == some .cell) = true then (n, NameKind.cell) else (n, j)) :: _) = some k := h
      by_cases q : (j == NameKind.free && env.scope.kind == .function && env.kindOf n == some .cell) = true
      · rw [if_pos q, List.lookup_cons, e'] at h'; exact h'
      · rw [if_neg q, List.lookup_cons, e'] at h'; exact h'
theorem relabel_cell {env : Env} {x : Str} (h1 : env.scope.kind = .function) (h2 : env.kindOf x = some .cell) : ∀ {names : List (Str × NameKind)}, names.lookup x = some .free → (names.map fun (n, k) => if (k == NameKind.free && env.scope.kind == .function && env.kindOf n == some .cell) then (n, NameKind.cell) else (n, k)).lookup x = some .cell
  | [], h => by cases h
  | (n, j) :: r, h => by
    rw [List.map_cons]
    by_cases e : (x == n) = true
    · have e' : x = n := by simpa using e
      subst e'
      simp only [List.lookup_cons, beq_self_eq_true] at h
      have hj : j = .free := by simpa using h
      subst hj
      have q : ((NameKind.free == NameKind.free) && env.scope.kind == .function && env.kindOf x == some .cell) = true := by rw [h1, h2]; rfl
      show List.lookup x ((if ((NameKind.free == NameKind.free) && env.scope.kind == .function && env.kindOf x == some .cell) = true then (x, NameKind.cell) else (x, NameKind.free)) :: _) = _
      rw [if_pos q, List.lookup_cons, beq_self_eq_true]
    · have e' : (x == n) = false := by simpa using e
      simp only [List.lookup_cons, e'] at h
      by_cases q : (j == NameKind.free && env.scope.kind == .function && env.kindOf n == some .cell) = true
      · show List.lookup x ((if (j == NameKind.free && env.scope.kind == .function && env.kindOf n == some .cell) = true then (n, NameKind.cell) else (n, j)) :: _) = _
        rw [if_pos q, List.lookup_cons, e']; exact relabel_cell h1 h2 h
      · show List.lookup x ((if (j == NameKind.free && env.scope.kind == .function && env.kindOf n == some .cell) = true then (n, NameKind.cell) else (n, j)) :: _) = _
        rw [if_neg q, List.lookup_cons, e']; exact relabel_cell h1 h2 h
def capOk (N' : List Str) (nt : Nat) (ci : List Nat) (Xn : List Str) (fsc scope : Scope) : Bool :=
  (List.range ci.length).all fun j => match ci[j]?, N'[nt + j]? with
    | some i, some x => Xn[i]? == some x && fsc.names.lookup x == some .cell && scope.names.lookup x == some .free
    | _, _ => false
/-- with names from around -/
theorem blkC {nt : Nat} {ci : List Nat} (Xn : List Str) (fsc : Scope) (hN : X.N = Xn) (hs : X.env.scope = fsc) (hc : ∀ y ∈ scope.names, y.2 ≠ .cell) (hk : scope.kind = .function) (hn : ∀ y ∈ scope.names, y.2 = .local → scope.names.lookup y.1 = some .local)
    (hfr : ∀ y ∈ scope.names, y.2 = .free → fsc.names.lookup y.1 = some .cell) (hl : N'.length = nt + ci.length) (cap : capOk N' nt ci Xn fsc scope = true) (ok : X.Ok) : BlkOk X scope (closL X.env.cells scope.names []) N' nt ci := by
  have fr : ∀ y ∈ scope.names, y.2 = .free → ∃ c, X.env.cells.lookup y.1 = some c := fun y hy e => ok.has y.1 (.inl (by show X.env.scope.names.lookup y.1 = _; rw [hs]; exact hfr y hy e))
  have sub : ∀ x c, (closL X.env.cells scope.names []).lookup x = some c → X.env.cells.lookup x = some c := fun x c h => by
    rcases closL_mem (PySem.mem_of_lookup h) with z | ⟨z1, z2⟩
    · cases z
    · obtain ⟨c', e⟩ := fr _ z1 rfl
      rw [show X.env.cells.lookup x = some c' from e] at z2 ⊢
      rw [z2]; rfl
  refine ⟨closureFor_eq fr, hc, hk, hn, sub, fun x h => ?_, hl, fun j i h => ?_⟩
  · have hm : (x, NameKind.free) ∈ scope.names := by
      rcases h with h | h
      · exact relabel_free h (.inl rfl) hc
      · exact relabel_free h (.inr rfl) hc
    obtain ⟨c, q⟩ := closL_has (cells := X.env.cells) (acc := []) (.inl hm)
    exact lookup_of_mem q
  · unfold capOk at cap
    rw [List.all_eq_true] at cap
    have hj : j < ci.length := (List.getElem?_eq_some_iff.mp h).1
    have q := cap j (List.mem_range.mpr hj)
    rw [h] at q
    cases e : N'[nt + j]? with
    | none => rw [e] at q; cases q
    | some x =>
      rw [e] at q
      simp only [Bool.and_eq_true, beq_iff_eq] at q
      refine ⟨x, rfl, by rw [hN]; exact q.1.1, by rw [hs]; exact q.1.2, .inl (relabel_cell ok.kind ?_ q.2)⟩
      show X.env.scope.names.lookup x = _
      rw [hs]; exact q.1.2
end
/-! heaps -/
theorem Same.sqt {K : PySem.W.Frag} {H H' : Hp} {a : Addr} {xs : List V} (e : Same H H') (h : SqT K H a xs) : SqT K H' a xs := by
  rcases h with (h | ⟨o, h⟩) | h
  · exact .inl (.inl (e _ _ h))
  · exact .inl (.inr ⟨o, e _ _ h⟩)
  · exact .inr h
theorem Same.keepT {K : PySem.W.Frag} {H H' : Hp} (e : Same H H') : KeepT K H H' := fun _ _ h => e.sqt h
theorem same_new {H : Hp} {p : Addr} (h : H p = none) (o : HO) : Same H (upd H p o) := fun b u q => by rw [upd_ne (ne_of_none q h)]; exact q
theorem KeepT.trans {K : PySem.W.Frag} {H H1 H2 : Hp} (a : KeepT K H H1) (b : KeepT K H1 H2) : KeepT K H H2 := fun x xs h => b x xs (a x xs h)
theorem KeepT.refl {K : PySem.W.Frag} (H : Hp) : KeepT K H H := fun _ _ h => h
/-- a list is written -/
theorem keepT_lst {K : PySem.W.Frag} {H : Hp} {l : Addr} {xs : List V} {o : HO} (h : H l = some (.lst xs)) : KeepT K H (upd H l o) := fun a ys q => by
  rcases q with (q | ⟨ob, q⟩) | q
  · exact .inl (.inl (by rw [upd_ne (ne_of q h (by intro z; cases z))]; exact q))
  · exact .inl (.inr ⟨ob, by rw [upd_ne (ne_of q h (by intro z; cases z))]; exact q⟩)
  · exact .inr q
theorem keepT_new {K : PySem.W.Frag} {H : Hp} {l : Addr} {o : HO} (h : H l = none) : KeepT K H (upd H l o) := (same_new h o).keepT
/-- what stood at the entry stands, though a younger object was written -/
theorem Same.write {H0 H : Hp} {l : Addr} {o : HO} (e : Same H0 H) (h : H0 l = none) : Same H0 (upd H l o) := fun b u q => by
  rw [upd_ne (ne_of_none q h)]; exact e b u q
theorem sqL_ne {K : PySem.W.Frag} {H : Hp} {l a : Addr} {xs : List V} {o : HO} (q : SqL K H a xs) (h : a ≠ l) : SqL K (upd H l o) a xs := by
  rcases q with (q | ⟨ob, q⟩) | q
  · exact .inl (.inl (by rw [upd_ne h]; exact q))
  · exact .inl (.inr ⟨ob, by rw [upd_ne h]; exact q⟩)
  · exact .inr q
theorem cxOf_K (CX : CXT) (P : Program) (w : World) (K : PySem.W.Frag) (mg : Str → Option Value) (base : Heap) (N : List Str) (qual : Str) (scope : Scope) (f : Addr) (cd : Value) (A : Around) (outer : List Env) (s : Shared) (H : Hp) (E : XK) : (cxOf CX P w K mg base N qual scope f cd A outer s H E).K = K := rfl
theorem blk_K (X : Cx) (N' : List Str) (scope : Scope) (cl : List (Str × Addr)) (s : Shared) (H : Hp) (C : Addr) (ex : List Addr) : (blk X N' scope cl s H C ex).K = X.K := rfl
/-! tests -/
theorem scal_int (a b : Int) : scal (.int a) (.int b) = true := rfl
theorem scal_str (a b : Str) : scal (.str a) (.str b) = true := rfl
theorem scal_bl (a b : Bool) : scal (.bl a) (.bl b) = true := rfl
theorem ex2 {p q : Prop} (a : p) (b : q) : p ∧ q := ⟨a, b⟩
theorem mul_left {i j : Int} (h1 : -(2 ^ 64) < i) (h2 : i < 2 ^ 64) : CMul i j := .inl ⟨h1, h2⟩
theorem mul_right {i j : Int} (h1 : -(2 ^ 64) < j) (h2 : j < 2 ^ 64) : CMul i j := .inr ⟨h1, h2⟩
/-! one statement at a time -/
theorem seq_then {t u : TS} {D : Ends} {σ : St} {H : Hp} (R : St → Hp → Prop) (rest : ∀ σ' H', R σ' H' → u D σ' H') (first : ∀ C : St → Hp → Prop, (∀ σ' H', R σ' H' → C σ' H') → t { D with nx := C } σ H) : tSeq t u D σ H := first (u D) rest
/-! comprehensions over a range, over a list -/
theorem lcW_range {K : PySem.W.Frag} {σ0 : St} {n : Nat} {lo : Int} {acc : Addr} {g : TG} {te : TE} {Q : VK} {H : Hp} (Pv : Nat → List V → Hp → Prop) (h0 : Pv 0 [] (upd H acc (.lst []))) (hl : ∀ i ys H2, i ≤ n → Pv i ys H2 → H2 acc = some (.lst ys) ∧ ys.length < sizeLine)
    (hs : ∀ i ys H2, i < n → Pv i ys H2 → ∀ C : VK, (∀ y H5, H5 acc = some (.lst ys) → Pv (i + 1) (ys ++ [y]) (upd H5 acc (.lst (ys ++ [y]))) → C y H5) → g (.int (lo + i)) σ0 H2 fun σ4 H4 => Wk σ0 σ4 ∧ te σ4 H4 C) (hd : ∀ ys H2, Pv n ys H2 → Q (.ref acc) H2) :
    ∃ W : Nat → Nat → List V → Hp → Prop, (∃ m, W 0 m [] (upd H acc (.lst []))) ∧ lcW K σ0 (Itr lo n) acc g te Q W := by
  refine ⟨fun i m ys H2 => m = n - i ∧ i ≤ n ∧ Pv i ys H2, ⟨n, by simp, Nat.zero_le _, h0⟩, ?_⟩
  rintro i m ys H2 ⟨rfl, hi, p⟩
  obtain ⟨a, b⟩ := hl i ys H2 hi p
  refine ⟨a, b, ?_⟩
  by_cases hlt : i < n
  · refine .inr ⟨hlt, fun x H3 y => ?_⟩
    obtain ⟨e, y⟩ := y
    subst e y
    exact hs i ys _ hlt p _ fun v H5 z1 z2 => ⟨z1, n - (i + 1), by omega, rfl, hlt, z2⟩
  · have e : i = n := by omega
    subst e
    exact .inl ⟨Nat.le_refl _, hd ys H2 p⟩
theorem lcW_list {K : PySem.W.Frag} {σ0 : St} {a : Addr} {xs : List V} {acc : Addr} {g : TG} {te : TE} {Q : VK} {H : Hp} (Pv : Nat → List V → Hp → Prop) (h0 : Pv 0 [] (upd H acc (.lst []))) (hl : ∀ i ys H2, i ≤ xs.length → Pv i ys H2 → H2 acc = some (.lst ys) ∧ ys.length < sizeLine ∧ SqL K H2 a xs)
    (hs : ∀ i x ys H2, xs[i]? = some x → Pv i ys H2 → ∀ C : VK, (∀ y H5, H5 acc = some (.lst ys) → Pv (i + 1) (ys ++ [y]) (upd H5 acc (.lst (ys ++ [y]))) → C y H5) → g x σ0 H2 fun σ4 H4 => Wk σ0 σ4 ∧ te σ4 H4 C) (hd : ∀ ys H2, Pv xs.length ys H2 → Q (.ref acc) H2) :
    ∃ W : Nat → Nat → List V → Hp → Prop, (∃ m, W 0 m [] (upd H acc (.lst []))) ∧ lcW K σ0 (Itl K a) acc g te Q W := by
  refine ⟨fun i m ys H2 => m = xs.length - i ∧ i ≤ xs.length ∧ Pv i ys H2, ⟨xs.length, by simp, Nat.zero_le _, h0⟩, ?_⟩
  rintro i m ys H2 ⟨rfl, hi, p⟩
  obtain ⟨e1, e2, q⟩ := hl i ys H2 hi p
  refine ⟨e1, e2, ?_⟩
  by_cases hlt : i < xs.length
  · refine .inr ⟨⟨xs, xs[i], q, by simp [hlt]⟩, fun x H3 y => ?_⟩
    obtain ⟨e, y⟩ := y
    subst e
    exact hs i x ys _ (y xs q) p _ fun v H5 z1 z2 => ⟨z1, xs.length - (i + 1), by omega, rfl, hlt, z2⟩
  · have e : i = xs.length := by omega
    subst e
    exact .inl ⟨⟨xs, q, Nat.le_refl _⟩, hd ys H2 p⟩
/-! texts -/
theorem str_ext {x y : Str} (h : x.cps.toList = y.cps.toList) : x = y := by
  obtain ⟨a⟩ := x
  obtain ⟨b⟩ := y
  have : a = b := by simpa using congrArg List.toArray h
  rw [this]
theorem cps_append (x y : Str) : (x ++ y).cps.toList = x.cps.toList ++ y.cps.toList := by
  show (x.cps ++ y.cps).toList = _
  simp
theorem len_cps (x : Str) : x.length = x.cps.toList.length := by simp [Str.length]
theorem join_cps : ∀ ys : List Str, (Txt.join Str.empty ys).cps.toList = (ys.map fun y => y.cps.toList).flatten := by
  intro ys
  show (Builtin.Str.glued Str.empty ys).cps.toList = _
  rw [StrLaws.glued_eq_join]
  induction ys with
  | nil => rfl
  | cons y r ih =>
    cases r with
    | nil => simp [Str.join]
    | cons z r =>
      show (y ++ Str.empty ++ Str.join Str.empty (z :: r)).cps.toList = _
      rw [cps_append, cps_append, ih]
      simp [Str.empty]
/-- the slice of a text between two places -/
theorem slice_cps (x : Str) (a b : Nat) (hab : a ≤ b) (hb : b ≤ x.length) : (Txt.slice x (some (a : Int)) (some (b : Int))).cps.toList = (x.cps.toList.drop a).take (b - a) := by
  have e : Txt.slice x (some (a : Int)) (some (b : Int)) = StrLaws.sliceText x (some (a : Int)) (some (b : Int)) := rfl
  rw [e, StrLaws.sliceText_nat x hab hb]
end L2

set_option Elab.async false
set_option linter.all false
set_option maxRecDepth 100000
set_option maxHeartbeats 2000000
/-! STATEMENTS as trees, their parts, and what a value of the heap says of them -/
namespace Ken
open PySem L2
/-! the built-in names -/
theorem boot_len : bootBuiltins "len" = some (.builtin "len") := by decide +kernel
theorem boot_isinstance : bootBuiltins "isinstance" = some (.builtin "isinstance") := by decide +kernel
theorem boot_max : bootBuiltins "max" = some (.builtin "max") := by decide +kernel
theorem boot_min : bootBuiltins "min" = some (.builtin "min") := by decide +kernel
theorem boot_sorted : bootBuiltins "sorted" = some (.builtin "sorted") := by decide +kernel
theorem boot_sum : bootBuiltins "sum" = some (.builtin "sum") := by decide +kernel
theorem boot_any : bootBuiltins "any" = some (.builtin "any") := by decide +kernel
theorem boot_all : bootBuiltins "all" = some (.builtin "all") := by decide +kernel
theorem boot_str : bootBuiltins "str" = some (.type "str") := by decide +kernel
theorem boot_int : bootBuiltins "int" = some (.type "int") := by decide +kernel
theorem boot_bool : bootBuiltins "bool" = some (.type "bool") := by decide +kernel
theorem boot_tuple : bootBuiltins "tuple" = some (.type "tuple") := by decide +kernel
theorem boot_list : bootBuiltins "list" = some (.type "list") := by decide +kernel
theorem boot_set : bootBuiltins "set" = some (.type "set") := by decide +kernel
theorem boot_dict : bootBuiltins "dict" = some (.type "dict") := by decide +kernel
theorem boot_range : bootBuiltins "range" = some (.type "range") := by decide +kernel
theorem boot_zip : bootBuiltins "zip" = some (.type "zip") := by decide +kernel
theorem boot_enumerate : bootBuiltins "enumerate" = some (.type "enumerate") := by decide +kernel
theorem boot_reversed : bootBuiltins "reversed" = some (.type "reversed") := by decide +kernel
theorem kit_ts (K : PySem.W.Frag) : PySem.W.kitOne K (.type "tuple") (.type "str") = some false := rfl
inductive Kd where
  | both | one | thn
  deriving DecidableEq
def Kd.str : Kd → Str
  | .both => "both"
  | .one => "one"
  | .thn => "then"
inductive Tm where
  | low
  | ltr (w : Str)
  | nd (k : Kd) (a b : Tm)
  deriving DecidableEq
def Tm.data : Tm → PyData
  | .low => .tuple [.str "low"]
  | .ltr w => .tuple [.str "letter", .str w]
  | .nd k a b => .tuple [.str k.str, a.data, b.data]
def Tm.parts : Tm → Nat
  | .low => 1
  | .ltr _ => 1
  | .nd _ a b => 1 + a.parts + b.parts
def Tm.deep : Tm → Nat
  | .low => 1
  | .ltr _ => 1
  | .nd _ a b => 1 + max a.deep b.deep
theorem Tm.parts_pos : ∀ t : Tm, 1 ≤ t.parts
  | .low => Nat.le_refl _
  | .ltr _ => Nat.le_refl _
  | .nd _ a b => by show 1 ≤ 1 + a.parts + b.parts; omega
theorem Tm.deep_pos : ∀ t : Tm, 1 ≤ t.deep
  | .low => Nat.le_refl _
  | .ltr _ => Nat.le_refl _
  | .nd _ a b => by show 1 ≤ 1 + max a.deep b.deep; omega
/-- one to eight small letters -/
def Word (x : Str) : Prop := 1 ≤ x.cps.toList.length ∧ x.cps.toList.length ≤ 8 ∧ ∀ c ∈ x.cps.toList, 97 ≤ c ∧ c ≤ 122
theorem Word.strOk {x : Str} (h : Word x) : PySem.PyData.strOk x = true := by
  unfold PySem.PyData.strOk
  rw [Array.all_eq_true_iff_forall_mem]
  intro c hc
  have := h.2.2 c (by simpa using hc)
  exact decide_eq_true (by omega)
def Tm.ok : Tm → Prop
  | .low => True
  | .ltr w => Word w
  | .nd _ a b => a.ok ∧ b.ok
abbrev IsT (K : PySem.W.Frag) (H : Hp) (v : V) (t : Tm) : Prop := Dn K H v t.data
theorem Tm.noList : ∀ t : Tm, L2.noList t.data = true
  | .low => rfl
  | .ltr _ => rfl
  | .nd k a b => by
    show (true && (L2.noList a.data && (L2.noList b.data && true))) = true
    rw [a.noList, b.noList]; rfl
theorem Tm.lay : ∀ t : Tm, t.ok → t.data.canLay0 = true
  | .low, _ => by
    show (PySem.PyData.strOk "low" && true) = true
    decide +kernel
  | .ltr w, h => by
    show (PySem.PyData.strOk "letter" && (PySem.PyData.strOk w && true)) = true
    rw [Word.strOk h]; decide +kernel
  | .nd k a b, h => by
    show (PySem.PyData.strOk k.str && (a.data.canLay0 && (b.data.canLay0 && true))) = true
    rw [a.lay h.1, b.lay h.2]
    cases k <;> decide +kernel
theorem Tm.depth : ∀ t : Tm, t.data.depth = t.deep
  | .low => rfl
  | .ltr _ => rfl
  | .nd k a b => by
    show max 0 (max a.data.depth (max b.data.depth 0)) + 1 = 1 + max a.deep b.deep
    rw [a.depth, b.depth]; omega
section
variable {K : PySem.W.Frag} {H H' : Hp} {v : V}
theorem IsT.keep {t : Tm} (h : IsT K H v t) (k : KeepT K H H') : IsT K H' v t := Dn.keepT k t.noList h
theorem isT_low : IsT K H v .low ↔ ∃ a, v = .ref a ∧ SqT K H a [.str "low"] := by
  show Dn K H v (.tuple [.str "low"]) ↔ _
  rw [Dn]
  constructor
  · rintro ⟨a, xs, rfl, hs, hd⟩
    rw [DnAll] at hd
    obtain ⟨x, r, rfl, h1, h2⟩ := hd
    rw [Dn] at h1
    rw [DnAll] at h2
    subst h1; subst h2
    exact ⟨a, rfl, hs⟩
  · rintro ⟨a, rfl, hs⟩
    refine ⟨a, _, rfl, hs, ?_⟩
    rw [DnAll]
    exact ⟨_, _, rfl, by rw [Dn], by rw [DnAll]⟩
theorem isT_ltr {w : Str} : IsT K H v (.ltr w) ↔ ∃ a, v = .ref a ∧ SqT K H a [.str "letter", .str w] := by
  show Dn K H v (.tuple [.str "letter", .str w]) ↔ _
  rw [Dn]
  constructor
  · rintro ⟨a, xs, rfl, hs, hd⟩
    rw [DnAll] at hd
    obtain ⟨x, r, rfl, h1, h2⟩ := hd
    rw [DnAll] at h2
    obtain ⟨y, r, rfl, h3, h4⟩ := h2
    rw [Dn] at h1 h3
    rw [DnAll] at h4
    subst h1; subst h3; subst h4
    exact ⟨a, rfl, hs⟩
  · rintro ⟨a, rfl, hs⟩
    refine ⟨a, _, rfl, hs, ?_⟩
    rw [DnAll]
    refine ⟨_, _, rfl, by rw [Dn], ?_⟩
    rw [DnAll]
    exact ⟨_, _, rfl, by rw [Dn], by rw [DnAll]⟩
theorem isT_nd {k : Kd} {a b : Tm} : IsT K H v (.nd k a b) ↔ ∃ p x y, v = .ref p ∧ SqT K H p [.str k.str, x, y] ∧ IsT K H x a ∧ IsT K H y b := by
  show Dn K H v (.tuple [.str k.str, a.data, b.data]) ↔ _
  rw [Dn]
  constructor
  · rintro ⟨p, xs, rfl, hs, hd⟩
    rw [DnAll] at hd
    obtain ⟨x, r, rfl, h1, h2⟩ := hd
    rw [DnAll] at h2
    obtain ⟨y, r, rfl, h3, h4⟩ := h2
    rw [DnAll] at h4
    obtain ⟨z, r, rfl, h5, h6⟩ := h4
    rw [Dn] at h1
    rw [DnAll] at h6
    subst h1; subst h6
    exact ⟨p, y, z, rfl, hs, h3, h5⟩
  · rintro ⟨p, x, y, rfl, hs, h1, h2⟩
    refine ⟨p, _, rfl, hs, ?_⟩
    rw [DnAll]
    refine ⟨_, _, rfl, by rw [Dn], ?_⟩
    rw [DnAll]
    refine ⟨_, _, rfl, h1, ?_⟩
    rw [DnAll]
    exact ⟨_, _, rfl, h2, by rw [DnAll]⟩
end
theorem beq_str (x y : Str) : (x == y) = decide (x = y) := rfl
theorem eqvAll3 (a b c d e f : PyData) : PyData.eqvAll [a, b, c] [d, e, f] = (PyData.eqv a d && (PyData.eqv b e && PyData.eqv c f)) := by
  simp [PyData.eqvAll]
theorem Kd.str_inj {a b : Kd} (h : a.str = b.str) : a = b := by
  cases a <;> cases b <;> first | rfl | exact absurd h (by decide)
theorem Tm.eqv : ∀ s t : Tm, PyData.eqv s.data t.data = decide (s = t)
  | .low, .low => by decide
  | .low, .ltr w => by
    show PyData.eqvAll [.str "low"] [.str "letter", .str w] = _
    simp [PyData.eqvAll]
  | .low, .nd k a b => by
    show PyData.eqvAll [.str "low"] [.str k.str, a.data, b.data] = _
    simp [PyData.eqvAll]
  | .ltr w, .low => by
    show PyData.eqvAll [.str "letter", .str w] [.str "low"] = _
    simp [PyData.eqvAll]
  | .ltr w, .ltr v => by
    show (PyData.eqv (.str "letter") (.str "letter") && (PyData.eqv (.str w) (.str v) && true)) = _
    simp [PyData.eqv]
    rfl
  | .ltr w, .nd k a b => by
    show PyData.eqvAll [.str "letter", .str w] [.str k.str, a.data, b.data] = _
    simp [PyData.eqvAll]
  | .nd k a b, .low => by
    show PyData.eqvAll [.str k.str, a.data, b.data] [.str "low"] = _
    simp [PyData.eqvAll]
  | .nd k a b, .ltr w => by
    show PyData.eqvAll [.str k.str, a.data, b.data] [.str "letter", .str w] = _
    simp [PyData.eqvAll]
  | .nd k a b, .nd l c d => by
    show PyData.eqvAll [.str k.str, a.data, b.data] [.str l.str, c.data, d.data] = _
    rw [eqvAll3, a.eqv c, b.eqv d]
    have e : PyData.eqv (.str k.str) (.str l.str) = decide (k = l) := by
      show (k.str == l.str) = _
      by_cases h : k = l
      · subst h; simp
      · have : ¬ k.str = l.str := fun z => h (Kd.str_inj z)
        rw [decide_eq_false h]; exact beq_eq_false_iff_ne.mpr this
    rw [e]
    by_cases h1 : k = l <;> by_cases h2 : a = c <;> by_cases h3 : b = d <;> simp [h1, h2, h3]
end Ken

set_option Elab.async false
set_option linter.all false
set_option maxRecDepth 100000
set_option maxHeartbeats 2000000
/-! WHAT THE LAWS' OWN DRAWING DEFS PROMISE (they stand in each law's text) -/
namespace Ken
open PySem L2
def mix (c k : Int) : Int := ((c + 1) * (48271 + 118 * k) % 2147483629 / 977 * 16807 + (c + 1) * (48271 + 118 * k) % 2147483629 * (k * k + 7) + k) % 2147483587
theorem mix_nn (c k : Int) : 0 ≤ mix c k := by unfold mix; exact Int.emod_nonneg _ (by decide)
theorem mix_lt (c k : Int) : mix c k < 2147483587 := by unfold mix; exact Int.emod_lt_of_pos _ (by decide)
def sp_mix : Sp := fun vs H Q _ => ∃ c k : Int, vs = [.int c, .int k] ∧ 0 ≤ k ∧ k ≤ 100000 ∧ Q (.int (mix c k)) H
def cellOf (ns : List Int) (k : Int) : Int := mix (if k < (ns.length : Int) then (ns[k.toNat]?.getD 0) % 2147483647 else 0) (k + 101)
theorem cell_nn (ns : List Int) (k : Int) : 0 ≤ cellOf ns k := mix_nn _ _
theorem cell_lt (ns : List Int) (k : Int) : cellOf ns k < 2147483587 := mix_lt _ _
def sp_cell (K : PySem.W.Frag) : Sp := fun vs H Q _ => ∃ (a : Addr) (ns : List Int) (k : Int), vs = [.ref a, .int k] ∧ SqL K H a (ns.map V.int) ∧ ns.length ≤ 63 ∧ 0 ≤ k ∧ k ≤ 1000 ∧ Q (.int (cellOf ns k)) H
/-- words that may stand in a list of words -/
def Words (ws : List Str) : Prop := 2 ≤ ws.length ∧ ws.length ≤ 6 ∧ ∀ w ∈ ws, Word w
def sp_words : Sp := fun vs H Q _ => ∃ c m : Int, vs = [.int c, .int m] ∧ 0 ≤ c ∧ 2 ≤ m ∧ m ≤ 6 ∧
  ∀ (r : Addr) (H' : Hp) (ws : List Str), Same H H' → H r = none → H' r = some (.lst (ws.map V.str)) → Words ws → Q (.ref r) H'
/-- its letters are among these -/
def Tm.inW (ws : List Str) : Tm → Prop
  | .low => True
  | .ltr w => w ∈ ws
  | .nd _ a b => a.inW ws ∧ b.inW ws
theorem Tm.inW.ok {ws : List Str} (hw : ∀ w ∈ ws, Word w) : ∀ {t : Tm}, t.inW ws → t.ok
  | .low, _ => trivial
  | .ltr w, h => hw w h
  | .nd _ a b, h => ⟨Tm.inW.ok hw h.1, Tm.inW.ok hw h.2⟩
/-- a made statement: of these words, so many parts, so deep -/
def Made (K : PySem.W.Frag) (H : Hp) (ws : List Str) (p d : Nat) (r : V) (t : Tm) : Prop := IsT K H r t ∧ t.inW ws ∧ t.parts ≤ p ∧ t.deep ≤ d
theorem Made.mono {K : PySem.W.Frag} {H H' : Hp} {ws : List Str} {p d p' d' : Nat} {r : V} {t : Tm} (h : Made K H ws p d r t) (k : KeepT K H H') (hp : p ≤ p') (hd : d ≤ d') : Made K H' ws p' d' r t :=
  ⟨h.1.keep k, h.2.1, Nat.le_trans h.2.2.1 hp, Nat.le_trans h.2.2.2 hd⟩
def sp_leaf (K : PySem.W.Frag) : Sp := fun vs H Q _ => ∃ (c : Int) (wa : Addr) (ws : List Str), vs = [.int c, .ref wa] ∧ SqL K H wa (ws.map V.str) ∧ Words ws ∧
  ∀ (r : V) (H' : Hp) (t : Tm), Same H H' → Made K H' ws 1 1 r t → Q r H'
/-- how deep a drawn statement of so many parts may be -/
def rk (n : Int) : Nat := if n < 40 then n.toNat else if n ≤ 53 then 40 else if n ≤ 71 then 41 else if n ≤ 95 then 42 else if n ≤ 127 then 43 else if n ≤ 170 then 44 else if n ≤ 227 then 45 else 46
theorem rk_le (n : Int) : rk n ≤ 46 := by
  unfold rk
  repeat' split
  all_goals omega
theorem rk_two {n : Int} (h0 : 3 ≤ n) (h1 : n < 40) : rk (n - 2) < rk n := by
  unfold rk
  rw [if_pos (by omega), if_pos (by omega)]
  omega
theorem rk_less {n m : Int} (h0 : 3 ≤ n) (h1 : n < 40) (h2 : m ≤ n - 1) : rk m < rk n := by
  unfold rk
  rw [if_pos (by omega), if_pos (by omega)]
  omega
theorem rk_big {n m : Int} (h0 : 40 ≤ n) (h1 : n ≤ 300) (h2 : m ≤ n - 1 - (n - 1) / 4) : rk m < rk n := by
  unfold rk
  rw [if_neg (show ¬ n < 40 by omega)]
  repeat' split
  all_goals omega
def sp_stm (K : PySem.W.Frag) (n : Nat) : Sp := fun vs H Q _ => ∃ (c size : Int) (wa : Addr) (ws : List Str), vs = [.int c, .int size, .ref wa] ∧ 0 ≤ c ∧ 0 ≤ size ∧ size ≤ 300 ∧ rk size < n ∧ SqL K H wa (ws.map V.str) ∧ Words ws ∧
  ∀ (r : V) (H' : Hp) (t : Tm), Same H H' → Made K H' ws (max 1 size.toNat) (rk size + 1) r t → Q r H'
def sp_comb (K : PySem.W.Frag) : Sp := fun vs H Q _ => ∃ (c many : Int) (wa : Addr) (ws : List Str), vs = [.int c, .int many, .ref wa] ∧ 0 ≤ c ∧ 0 ≤ many ∧ many ≤ 100 ∧ SqL K H wa (ws.map V.str) ∧ Words ws ∧
  ∀ (r : V) (H' : Hp) (t : Tm), Same H H' → Made K H' ws (1 + 2 * many.toNat) (1 + many.toNat) r t → Q r H'
def sp_drawn (K : PySem.W.Frag) : Sp := fun vs H Q _ => ∃ (c most : Int) (wa : Addr) (ws : List Str), vs = [.int c, .int most, .ref wa] ∧ 0 ≤ c ∧ 1 ≤ most ∧ most ≤ 40 ∧ SqL K H wa (ws.map V.str) ∧ Words ws ∧
  ∀ (r : V) (H' : Hp) (t : Tm), Same H H' → Made K H' ws 300 47 r t → Q r H'
section
variable {K : PySem.W.Frag} {H : Hp} {p : Addr}
theorem made_low (ws : List Str) (hp : H p = none) : Made K (upd H p (.tup [.str "low"])) ws 1 1 (.ref p) .low :=
  ⟨isT_low.mpr ⟨p, rfl, .inl (.inl upd_same)⟩, trivial, Nat.le_refl _, Nat.le_refl _⟩
theorem made_ltr {ws : List Str} {w : Str} (hw : w ∈ ws) (hp : H p = none) : Made K (upd H p (.tup [.str "letter", .str w])) ws 1 1 (.ref p) (.ltr w) :=
  ⟨isT_ltr.mpr ⟨p, rfl, .inl (.inl upd_same)⟩, hw, Nat.le_refl _, Nat.le_refl _⟩
theorem made_nd {ws : List Str} {k : Kd} {x y : V} {a b : Tm} {pa da pb db : Nat} (ha : Made K H ws pa da x a) (hb : Made K H ws pb db y b) (hp : H p = none) :
    Made K (upd H p (.tup [.str k.str, x, y])) ws (1 + pa + pb) (1 + max da db) (.ref p) (.nd k a b) := by
  refine ⟨isT_nd.mpr ⟨p, x, y, rfl, .inl (.inl upd_same), ha.1.keep (keepT_new hp), hb.1.keep (keepT_new hp)⟩, ⟨ha.2.1, hb.2.1⟩, ?_, ?_⟩
  · show 1 + a.parts + b.parts ≤ _
    have := ha.2.2.1
    have := hb.2.2.1
    omega
  · show 1 + max a.deep b.deep ≤ _
    have := ha.2.2.2
    have := hb.2.2.2
    omega
end
/-! words that are made -/
theorem word_mul {c : Nat} {n : Int} (h1 : 97 ≤ c) (h2 : c ≤ 122) (h3 : 1 ≤ n) (h4 : n ≤ 8) : Word (Txt.mul ⟨#[c]⟩ n) := by
  unfold Word
  rw [PyProof.Rows.mul_one_list]
  refine ⟨by rw [List.length_replicate]; omega, by rw [List.length_replicate]; omega, fun d hd => ?_⟩
  rw [List.mem_replicate] at hd
  omega
theorem word_mid {c d : Nat} {a b : Int} (h1 : 97 ≤ c) (h2 : c ≤ 122) (h3 : 97 ≤ d) (h4 : d ≤ 122) (h5 : 0 ≤ a) (h6 : 0 ≤ b) (h7 : a + b ≤ 7) : Word (Txt.mul ⟨#[c]⟩ a ++ ⟨#[d]⟩ ++ Txt.mul ⟨#[c]⟩ b) := by
  unfold Word
  rw [cps_append, cps_append, PyProof.Rows.mul_one_list, PyProof.Rows.mul_one_list]
  refine ⟨by simp only [List.length_append, List.length_replicate, List.length_cons, List.length_nil]; omega, by simp only [List.length_append, List.length_replicate, List.length_cons, List.length_nil]; omega, fun e he => ?_⟩
  simp only [List.mem_append, List.mem_replicate, List.mem_cons, List.not_mem_nil, or_false] at he
  omega
theorem mul_len {c : Nat} {n : Int} : (Txt.mul ⟨#[c]⟩ n).length = n.toNat := by rw [len_cps, PyProof.Rows.mul_one_list, List.length_replicate]
def wordB (x : Str) : Bool := decide (1 ≤ x.cps.toList.length) && decide (x.cps.toList.length ≤ 8) && x.cps.toList.all fun c => decide (97 ≤ c) && decide (c ≤ 122)
theorem word_of {x : Str} (h : wordB x = true) : Word x := by
  unfold wordB at h
  simp only [Bool.and_eq_true, decide_eq_true_eq, List.all_eq_true] at h
  exact ⟨h.1.1, h.1.2, fun c hc => by have := h.2 c hc; simpa using this⟩
/-- a list of six words in the heap -/
def Six (H0 H : Hp) (p : Addr) (ws : List Str) : Prop := Same H0 H ∧ H0 p = none ∧ H p = some (.lst (ws.map V.str)) ∧ ws.length = 6 ∧ ∀ w ∈ ws, Word w
theorem cut_map (ws : List Str) (lo hi : Option Int) : cutV (ws.map V.str) lo hi = ((ws.drop (HT.sIx ws.length 0 lo)).take (HT.sIx ws.length ws.length hi - HT.sIx ws.length 0 lo)).map V.str := by
  unfold cutV
  rw [List.length_map, ← List.map_drop, ← List.map_take]
/-- the kind that a draw of four picks -/
def kd4 (i : Int) : Kd := if i = 0 then .both else if i = 1 then .one else .thn
theorem at_kd4 {i : Int} (h0 : 0 ≤ i) (h1 : i < 4) : atI [V.str "both", V.str "one", V.str "then", V.str "then"] i = some (.str (kd4 i).str) := by
  have : i = 0 ∨ i = 1 ∨ i = 2 ∨ i = 3 := by omega
  rcases this with rfl | rfl | rfl | rfl <;> rfl
theorem at_list {α : Type} {xs : List α} {i : Int} (h0 : 0 ≤ i) (h1 : i < (xs.length : Int)) : ∃ v, v ∈ xs ∧ atI xs i = some v := by
  obtain ⟨j, rfl⟩ := Int.eq_ofNat_of_zero_le h0
  have hj : j < xs.length := by omega
  exact ⟨xs[j], List.getElem_mem hj, atI_nat (List.getElem?_eq_getElem hj)⟩
end Ken

set_option Elab.async false
set_option linter.all false
set_option maxRecDepth 100000
set_option maxHeartbeats 2000000
/-! TEXTS of statements -/
namespace Ken
open PySem L2
theorem small1M {n : Nat} (h : n ≤ 1000000) : n < sizeLine := Nat.lt_of_le_of_lt h (by rw [sizeLine_eq]; decide)
def Kd.sgn : Kd → Nat
  | .both => 38
  | .one => 124
  | .thn => 62
def Kd.sign : Kd → Str := fun k => ⟨#[k.sgn]⟩
def Tm.text : Tm → List Nat
  | .low => [48]
  | .ltr w => w.cps.toList
  | .nd k a b => if k = .thn ∧ b = .low then 126 :: a.text else 40 :: (a.text ++ (32 :: k.sgn :: 32 :: (b.text ++ [41])))
def Tm.shown (t : Tm) : Str := ⟨t.text.toArray⟩
theorem shown_cps (t : Tm) : t.shown.cps.toList = t.text := by simp [Tm.shown]
abbrev Itm := Str ⊕ Tm
def steps : Tm → List Itm
  | .low => [.inl "0"]
  | .ltr w => [.inl w]
  | .nd k a b => if k = .thn ∧ b = .low then [.inl "~", .inr a] else [.inl "(", .inr a, .inl (" " ++ k.sign ++ " "), .inr b, .inl ")"]
def itText : Itm → List Nat
  | .inl x => x.cps.toList
  | .inr t => t.text
def itsText (is : List Itm) : List Nat := (is.map itText).flatten
theorem itsText_cons (i : Itm) (is : List Itm) : itsText (i :: is) = itText i ++ itsText is := by simp [itsText]
theorem itsText_append (a b : List Itm) : itsText (a ++ b) = itsText a ++ itsText b := by simp [itsText]
theorem steps_text (t : Tm) : itsText (steps t) = t.text := by
  cases t with
  | low => rfl
  | ltr w => simp [steps, itsText, itText, Tm.text]
  | nd k a b =>
    show itsText (if k = .thn ∧ b = .low then [.inl "~", .inr a] else [.inl "(", .inr a, .inl (" " ++ k.sign ++ " "), .inr b, .inl ")"]) = if k = .thn ∧ b = .low then 126 :: a.text else 40 :: (a.text ++ (32 :: k.sgn :: 32 :: (b.text ++ [41])))
    by_cases h : k = .thn ∧ b = .low
    · rw [if_pos h, if_pos h, itsText_cons, itsText_cons]
      show [126] ++ (a.text ++ []) = _
      simp
    · rw [if_neg h, if_neg h, itsText_cons, itsText_cons, itsText_cons, itsText_cons, itsText_cons]
      have e : itText (.inl (" " ++ k.sign ++ " " : Str)) = [32, k.sgn, 32] := by
        show (" " ++ k.sign ++ " " : Str).cps.toList = _
        rw [cps_append, cps_append]; rfl
      rw [e]
      show [40] ++ (a.text ++ ([32, k.sgn, 32] ++ (b.text ++ ([41] ++ [])))) = _
      simp
def itW : Itm → Nat
  | .inl _ => 1
  | .inr t => 6 * t.parts
def itsW (is : List Itm) : Nat := (is.map itW).sum
theorem itsW_cons (i : Itm) (is : List Itm) : itsW (i :: is) = itW i + itsW is := by simp [itsW]
theorem itsW_append (a b : List Itm) : itsW (a ++ b) = itsW a + itsW b := by simp [itsW]
theorem steps_w (t : Tm) : itsW (steps t) < 6 * t.parts := by
  cases t with
  | low => decide
  | ltr w => show itsW [.inl w] < 6; simp [itsW, itW]
  | nd k a b =>
    show itsW (if k = .thn ∧ b = .low then [.inl "~", .inr a] else [.inl "(", .inr a, .inl (" " ++ k.sign ++ " "), .inr b, .inl ")"]) < 6 * (1 + a.parts + b.parts)
    have := b.parts_pos
    split <;> simp [itsW, itW] <;> omega
theorem len_le_w : ∀ is : List Itm, is.length ≤ itsW is
  | [] => Nat.le_refl _
  | i :: is => by
    rw [itsW_cons, List.length_cons]
    have := len_le_w is
    have : 1 ≤ itW i := by
      cases i with
      | inl x => exact Nat.le_refl _
      | inr t => have := t.parts_pos; show 1 ≤ 6 * t.parts; omega
    omega
theorem text_len : ∀ t : Tm, t.ok → t.text.length ≤ 10 * t.parts
  | .low, _ => by decide
  | .ltr w, h => by
    show w.cps.toList.length ≤ 10
    have := h.2.1
    omega
  | .nd k a b, h => by
    have ha := text_len a h.1
    have hb := text_len b h.2
    have := b.parts_pos
    show (if k = .thn ∧ b = .low then 126 :: a.text else 40 :: (a.text ++ (32 :: k.sgn :: 32 :: (b.text ++ [41])))).length ≤ 10 * (1 + a.parts + b.parts)
    split <;> simp <;> omega
/-- what a value says: a text, or a statement -/
def DIt (K : PySem.W.Frag) (H : Hp) : V → Itm → Prop
  | v, .inl x => v = .str x
  | v, .inr t => IsT K H v t ∧ t.ok
abbrev DIts (K : PySem.W.Frag) (H : Hp) : List V → List Itm → Prop := Paired (DIt K H)
theorem DIt.keep {K : PySem.W.Frag} {H H' : Hp} (k : KeepT K H H') : ∀ {v : V} {i : Itm}, DIt K H v i → DIt K H' v i
  | _, .inl _, h => h
  | _, .inr _, h => ⟨h.1.keep k, h.2⟩
theorem DIts.keep {K : PySem.W.Frag} {H H' : Hp} (k : KeepT K H H') {vs : List V} {is : List Itm} (h : DIts K H vs is) : DIts K H' vs is := Paired.mapP h fun _ _ q => q.keep k
theorem DIts.append {K : PySem.W.Frag} {H : Hp} : ∀ {a b : List V} {c d : List Itm}, DIts K H a c → DIts K H b d → DIts K H (a ++ b) (c ++ d)
  | _, _, _, _, .nil, q => q
  | _, _, _, _, .cons h t, q => .cons h (DIts.append t q)
theorem isT_tup {K : PySem.W.Frag} {H : Hp} {v : V} {t : Tm} (h : IsT K H v t) : ∃ a xs, v = .ref a ∧ SqT K H a xs := by
  cases t with
  | low => obtain ⟨a, rfl, hs⟩ := isT_low.mp h; exact ⟨a, _, rfl, hs⟩
  | ltr w => obtain ⟨a, rfl, hs⟩ := isT_ltr.mp h; exact ⟨a, _, rfl, hs⟩
  | nd k x y => obtain ⟨a, vx, vy, rfl, hs, _, _⟩ := isT_nd.mp h; exact ⟨a, _, rfl, hs⟩
theorem paired_len {K : PySem.W.Frag} {H : Hp} {vs : List V} {is : List Itm} (h : DIts K H vs is) : vs.length = is.length := Paired.length h
def sp_step (K : PySem.W.Frag) : Sp := fun vs H Q _ => ∃ v t, vs = [v] ∧ IsT K H v t ∧ t.ok ∧ ∀ (r : Addr) (H' : Hp) (zs : List V), Same H H' → H r = none → H' r = some (.lst zs) → DIts K H' zs (steps t) → Q (.ref r) H'
def sp_shown (K : PySem.W.Frag) : Sp := fun vs H Q _ => ∃ v t, vs = [v] ∧ IsT K H v t ∧ t.ok ∧ t.parts ≤ 300 ∧ ∀ H', Same H H' → Q (.str t.shown) H'
def sp_fits (K : PySem.W.Frag) : Sp := fun vs H Q _ => ∃ v t, vs = [.str t.shown, v] ∧ IsT K H v t ∧ t.ok ∧ t.parts ≤ 300 ∧ ∀ H', Same H H' → Q (.bl true) H'
/-! the stack of texts and statements as data -/
def itD : Itm → PyData
  | .inl x => .str x
  | .inr t => t.data
def itOk : Itm → Prop
  | .inl x => PyData.strOk x = true
  | .inr t => t.ok
theorem steps_ok : ∀ t : Tm, t.ok → ∀ i ∈ steps t, itOk i
  | .low, _, i, h => by
    rcases List.mem_singleton.mp h with rfl
    show PyData.strOk "0" = true
    decide +kernel
  | .ltr w, ho, i, h => by
    rcases List.mem_singleton.mp h with rfl
    exact Word.strOk ho
  | .nd k a b, ho, i, h => by
    dsimp only [steps] at h
    by_cases e : k = .thn ∧ b = .low
    · rw [if_pos e] at h
      simp only [List.mem_cons, List.not_mem_nil, or_false] at h
      rcases h with rfl | rfl
      · show PyData.strOk "~" = true
        decide +kernel
      · exact ho.1
    · rw [if_neg e] at h
      simp only [List.mem_cons, List.not_mem_nil, or_false] at h
      rcases h with rfl | rfl | rfl | rfl | rfl
      · show PyData.strOk "(" = true
        decide +kernel
      · exact ho.1
      · show PyData.strOk (" " ++ k.sign ++ " ") = true
        cases k <;> decide +kernel
      · exact ho.2
      · show PyData.strOk ")" = true
        decide +kernel
theorem itD_lay : ∀ {i : Itm}, itOk i → (itD i).canLay0 = true
  | .inl x, h => h
  | .inr t, h => t.lay h
theorem dnAll_append {K : PySem.W.Frag} {H : Hp} : ∀ {a b : List V} {c d : List PyData}, DnAll K H a c → DnAll K H b d → DnAll K H (a ++ b) (c ++ d)
  | a, b, [], d, h, q => by rw [DnAll] at h; subst h; exact q
  | a, b, e :: c, d, h, q => by
    rw [DnAll] at h
    obtain ⟨x, r, rfl, h1, h2⟩ := h
    show DnAll K H (x :: (r ++ b)) (e :: (c ++ d))
    rw [DnAll]
    exact ⟨x, _, rfl, h1, dnAll_append h2 q⟩
theorem its_dn {K : PySem.W.Frag} {H : Hp} : ∀ {st : List V} {is : List Itm}, DIts K H st is → DnAll K H st.reverse (is.map itD).reverse
  | _, _, .nil => by show DnAll K H [] []; rw [DnAll]
  | _, _, .cons (a := v) (b := i) h t => by
    rw [List.reverse_cons, List.map_cons, List.reverse_cons]
    refine dnAll_append (its_dn t) ?_
    rw [DnAll]
    refine ⟨v, [], rfl, ?_, by rw [DnAll]⟩
    cases i with
    | inl x => show Dn K H v (.str x); rw [Dn]; exact h
    | inr t => exact h.1
theorem canLay_list {ds : List PyData} (h : ∀ d ∈ ds, d.canLay0 = true) : (PyData.list ds).canLay0 = true := by
  show PyData.canLayAll0 ds = true
  induction ds with
  | nil => rfl
  | cons d ds ih =>
    show (d.canLay0 && PyData.canLayAll0 ds) = true
    rw [h d List.mem_cons_self, ih fun e he => h e (List.mem_cons_of_mem _ he)]; rfl
theorem eqv_nil (ds : List PyData) : PyData.eqv (.list ds) (.list []) = ds.isEmpty := by
  cases ds <;> rfl
end Ken

set_option Elab.async false
set_option linter.all false
set_option maxRecDepth 100000
set_option maxHeartbeats 2000000
namespace Ken
open PySem L2
/-- the law's own def: at any script it answers True -/
def sp_law (K : PySem.W.Frag) : Sp := fun vs H Q _ => ∃ (a : Addr) (ns : List Int), vs = [.ref a] ∧ SqL K H a (ns.map V.int) ∧ ns.length ≤ 63 ∧ ∀ H', Q (.bl true) H'
/-- a list of statements, each of at most so many parts -/
abbrev IsTs (K : PySem.W.Frag) (H : Hp) (n : Nat) : List V → List Tm → Prop := Paired fun v t => IsT K H v t ∧ t.ok ∧ t.parts ≤ n
theorem IsTs.keep {K : PySem.W.Frag} {H H' : Hp} {n : Nat} (k : KeepT K H H') {vs : List V} {ts : List Tm} (h : IsTs K H n vs ts) : IsTs K H' n vs ts := Paired.mapP h fun _ _ q => ⟨q.1.keep k, q.2⟩
theorem paired_get {α β : Type} {F : α → β → Prop} : ∀ {l : List α} {m : List β} {i : Nat} {x : α}, Paired F l m → l[i]? = some x → ∃ y, m[i]? = some y ∧ F x y
  | _, _, 0, _, .cons h t, e => by cases e; exact ⟨_, rfl, h⟩
  | _, _, i + 1, _, .cons h t, e => paired_get (i := i) t (by simpa using e)
end Ken

set_option Elab.async false
set_option linter.all false
set_option maxRecDepth 100000
set_option maxHeartbeats 2000000
/-! for i, x in enumerate(xs); for c in a text; <= of texts -/
namespace L2
open PySem PySem.Spec PyProof.Rows
def Ite (K : PySem.W.Frag) (l : Addr) : It :=
  ⟨fun i H => ∃ xs x, SqL K H l xs ∧ xs[i]? = some x,
   fun i H v H' => ∃ T x, v = .ref T ∧ H T = none ∧ H' = upd H T (.tup [.int i, x]) ∧ ∀ xs, SqL K H l xs → xs[i]? = some x,
   fun i H => ∃ xs, SqL K H l xs ∧ xs.length ≤ i⟩
def enSt (e it l : Addr) (i : Nat) (h : Heap) : Prop := (∃ old, IsEnum h e it i old) ∧ h.IsListIter it l i
theorem turn_enum {P : Program} {w : World} {K : PySem.W.Frag} {elts : List Expr} {k0 : Nat} {tpos : Pos} (e it l : Addr) (hne : e ≠ it) :
    Turn P w K (.Tuple elts k0 tpos) (Ite K l) [e, it] e (enSt e it l) where
  mem := by simp
  obj := fun i h st b hb => by
    obtain ⟨⟨old, hz⟩, ⟨o1, e1, c1, d1⟩⟩ := st
    simp only [List.mem_cons, List.not_mem_nil, or_false] at hb
    rcases hb with rfl | rfl
    · exact ⟨_, hz, fun v q => by cases q⟩
    · exact ⟨o1, e1, fun v q => by rw [d1] at q; cases q⟩
  keep := fun i h h' st k => by
    obtain ⟨⟨old, hz⟩, h1⟩ := st
    exact ⟨⟨old, k e (by simp) _ hz⟩, h1.at fun o q => k it (by simp) o q⟩
  item := by
    intro X hP hw hK hc i pins s σ H E I hf st hg
    subst hP hw hK
    obtain ⟨⟨old, hz⟩, h1⟩ := st
    obtain ⟨xs, x, q1, hx⟩ := hg
    obtain ⟨its1, rv1, p1, _⟩ := I.list q1
    obtain ⟨u1, hu1, ru1⟩ := rv1.get hx
    refine wpAny_pyNext_enum_item hz h1 p1.isList (x := u1) (by simpa using hu1) hne fun h' a1 a2 a5 a6 kk => ?_
    have hT : H s.heap.objs.size = none := I.hok.fresh (Nat.le_refl _)
    have nch : ∀ b u, H b = some u → b ∉ [e, it] := fun b u q hb => by rw [(hf b hb).1] at q; cases q
    have kk' : ∀ b o, b ∉ [e, it] → s.heap.get? b = some o → h'.get? b = some o := fun b o hb q => by
      simp only [List.mem_cons, List.not_mem_nil, or_false, not_or] at hb
      exact kk b o hb.1 hb.2 q
    have ltT : ∀ b o, s.heap.get? b = some o → b ≠ s.heap.objs.size := fun b o q => Nat.ne_of_lt (Heap.lt_size q)
    have hokT : HOk X.prog X.w (upd H s.heap.objs.size (.tup [.int i, x])) h' := fun b ob q => by
      by_cases hb : b = s.heap.objs.size
      · subst hb
        rw [upd_same] at q
        cases q
        exact ⟨by show 2 ≤ sizeLine; decide, [.int i s.toks, u1], .cons ⟨_, rfl⟩ (.cons ru1 .nil), _, a5, rfl, _, rfl⟩
      · rw [upd_ne hb] at q
        refine (I.hok b ob q).stay (fun c v hcv q' => kk' c v ?_ q') (fun c q' => by rw [upd_ne (ne_of_none q' hT)]; exact q') fun c xs q' => by rw [upd_ne (ne_of_none q' hT)]; exact q'
        rcases hcv with rfl | hcv
        · exact nch _ _ q
        · exact nch _ _ hcv
    have I1 : Inv X pins σ (upd H s.heap.objs.size (.tup [.int i, x])) { s with heap := h', toks := s.toks + 1 } := by
      refine I.step (g' := s.gens) (d' := s.drawn) (t' := s.toks + 1) (ch := [e, it]) (fun b hb => ?_) (fun b o _ _ hb q _ => kk' b o hb q) (fun b o _ _ hb q _ => ⟨o.slots, kk' b o hb q⟩) (fun b o _ q n => by rw [upd_ne (ltT b o q)]; exact n) (fun b o hb q => ⟨o, kk' b o hb q⟩)
        (fun b xs q => by rw [upd_ne (ne_of_none q hT)]; exact q) (fun b o u q => by rw [upd_ne (ne_of_none q hT)]; exact q) (fun b ps q => ⟨#[], by rw [upd_ne (ne_of_none q hT), q]; simp⟩) (fun m hm => ?_) hokT I.bare
      · obtain ⟨f0, f1, f2, f3, f4, f5⟩ := hf b hb
        exact ⟨f3, f1, f4, f5⟩
      · obtain ⟨o, es, ep, ho, r⟩ := hm
        refine ⟨o, es, ep, kk' _ o ?_ ho, r⟩
        simp only [List.mem_cons, List.not_mem_nil, or_false, not_or]
        exact ⟨((hf e (by simp)).2.1).symm, ((hf it (by simp)).2.1).symm⟩
    refine ⟨_, rfl, wpAny_letOwnedTupleGo_enum a1 fun h'' hz'' sb => ?_⟩
    obtain ⟨f0, f1, f2, f3, f4, f5⟩ := hf e (by simp)
    have ltz : ∀ b ∈ [e, it], b ≠ s.heap.objs.size := fun b hb => by
      simp only [List.mem_cons, List.not_mem_nil, or_false] at hb
      obtain ⟨o1, e1, _⟩ := h1
      rcases hb with rfl | rfl
      · exact ltT _ _ hz
      · exact ltT _ _ e1
    have fn : ∀ b ∈ [e, it], upd H s.heap.objs.size (.tup [.int i, x]) b = none := fun b hb => by rw [upd_ne (ltz b hb)]; exact (hf b hb).1
    have I2 : Inv X pins σ (upd H s.heap.objs.size (.tup [.int i, x])) { s with heap := h'', toks := s.toks + 1 } := I1.turned (t' := s.toks + 1) (fun b o hb q => (sb.2 b hb).trans q) (fn e (by simp)) f1 f3 f4 f5
    refine ⟨.ref s.heap.objs.size, _, I2, rfl, ⟨_, x, rfl, hT, rfl, fun ys hy' => by rw [I.list_inj hy' q1]; exact hx⟩, ⟨⟨u1, ?_⟩, ?_⟩, fn⟩
    · rw [Int.natCast_add]; exact hz''
    · exact a2.extBut sb.extBut (Ne.symm hne)
  done := by
    intro X hP hw hK hc i pins s σ H E I hf st hg
    subst hP hw hK
    obtain ⟨⟨old, hz⟩, h1⟩ := st
    obtain ⟨xs, q1, hend⟩ := hg
    obtain ⟨its1, rv1, p1, _⟩ := I.list q1
    have e1 := rv1.length
    refine wpAny_pyNext_enum_end (I.ok.hd hc) hz h1 p1.isList (by simp; omega) fun h' eb => ⟨rfl, ?_⟩
    obtain ⟨f0, f1, f2, f3, f4, f5⟩ := hf it (by simp)
    exact I.turned (t' := s.toks) (fun b o hb q => eb b o hb q) f0 f1 f3 f4 f5
  self := fun _ _ _ _ _ st h => by
    obtain ⟨⟨old, hz⟩, _⟩ := st
    exact wpAny_pyIter_enum hz h
/-- the signs of a text -/
def Its (x : Str) : It := ⟨fun i _ => i < x.length, fun i H v H' => H' = H ∧ ∃ c, x.cps.toList[i]? = some c ∧ v = .str ⟨#[c]⟩, fun i _ => x.length ≤ i⟩
theorem turn_str {P : Program} {w : World} {K : PySem.W.Frag} {tg : Expr} (it : Addr) (x : Str) (t : Tok) : Turn P w K tg (Its x) [it] it (fun i h => h.IsStrIter it "str_ascii_iterator" x t i) where
  mem := by simp
  obj := fun i h st b hb => by
    have e : b = it := by simpa using hb
    subst e
    obtain ⟨o, e, c, d⟩ := st
    exact ⟨o, e, fun v z => by rw [d] at z; cases z⟩
  keep := fun i h h' st k => by
    obtain ⟨o, e, c, d⟩ := st
    exact ⟨o, k it (by simp) o e, c, d⟩
  item := by
    intro X hP hw hK hc i pins s σ H E I hf st hg
    subst hP hw hK
    have hg' : i < x.cps.size := hg
    obtain ⟨f0, f1, f2, f3, f4, f5⟩ := hf it (by simp)
    refine wpAny_pyNext_ascii_item st (c := x.cps[i]) (by simp [hg']) fun h' st' sb => ?_
    have I1 : Inv X pins σ H { s with heap := h', toks := s.toks + 1 } := I.turned (t' := s.toks + 1) (fun b o hb e => (sb.2 b hb).trans e) f0 f1 f3 f4 f5
    obtain ⟨o, e, c, d⟩ := id st'
    exact ⟨_, rfl, go_of (s := { s with heap := h', toks := s.toks + 1 }) e c d (by decide) ⟨.str _, H, I1, ⟨_, rfl⟩, ⟨rfl, _, by simp [hg'], rfl⟩, st', fun b hb => (hf b hb).1⟩⟩
  done := by
    intro X hP hw hK hc i pins s σ H E I hf st hg
    subst hP hw hK
    have hg' : x.cps.size ≤ i := hg
    obtain ⟨f0, f1, f2, f3, f4, f5⟩ := hf it (by simp)
    exact wpAny_pyNext_ascii_end (I.ok.hd hc) st (by simp; omega) fun h' eb => ⟨rfl, I.turned (t' := s.toks) (fun b o hb e => eb b o hb e) f0 f1 f3 f4 f5⟩
  self := fun _ _ _ _ _ st h => wpAny_pyIter_striter_ascii st h
section
variable {X : Cx}
def iEnum (K : PySem.W.Frag) (ta : TA) : TI := fun σ H R => ta σ H fun vs H1 => ∃ a, vs = [.ref a] ∧ (∃ xs, SqL K H1 a xs) ∧ R (Ite K a) H1
theorem pi_enum {a : Expr} {ta : TA} {p pos : Pos} {elts : List Expr} {k0 : Nat} {tpos : Pos} (hg : Gl X "enumerate") (hm : X.mg "enumerate" = none) (ha : PA X [a] ta) (hs : starEach [a] X.env = [(false, eval a X.env)] := by rfl) :
    PI X (.Tuple elts k0 tpos) (.Call (.Name "enumerate" p) [a] [] pos) (iEnum X.K ta) := by
  intro pins s σ H R I h
  refine Call_ (ld_blt I hg hm (by first | exact PySem.boot_enumerate | rfl) (PyProof.Rows.callWith_type1 (thn (ha pos pins s σ H _ I h) fun us s1 ⟨vs, H1, I1, r1, q1⟩ => ?_) (by rw [hs]; rfl) rfl))
  obtain ⟨l, e, ⟨xs, q1⟩, q⟩ := q1
  subst e
  obtain ⟨u1, rfl, ru1⟩ := r1.one
  cases ru1
  obtain ⟨its1, rv1, p1, _⟩ := I1.list q1
  refine call_enumerate_list p1.isList fun h' hz hi _ hk => wpAny_pyIter_enum hz ?_
  have I2 : Inv X pins σ H1 { s1 with heap := h' } := I1.kept (t' := s1.toks) hk
  refine ⟨_, _, _, _, H1, rfl, I2, turn_enum _ _ l (Nat.succ_ne_self _), ⟨⟨_, hz⟩, hi⟩, fun b hb => ?_, q⟩
  have hb' : s1.heap.objs.size ≤ b := by
    simp only [List.mem_cons, List.not_mem_nil, or_false] at hb
    rcases hb with rfl | rfl <;> omega
  exact I1.fpOk hb' (I1.hok.fresh hb')
def iStr (te : TE) : TI := fun σ H R => te σ H fun v H1 => ∃ x : Str, v = .str x ∧ (x.cps.all fun c => decide (c < 128)) = true ∧ R (Its x) H1
theorem pi_str {tg e : Expr} {te : TE} (he : PE X e te) : PI X tg e (iStr te) := by
  intro pins s σ H R I h
  refine thn (he pins s σ H _ I h) fun v s1 ⟨x, H1, I1, r1, q1⟩ => ?_
  obtain ⟨x, rfl, ha, q⟩ := q1
  obtain ⟨t, rfl⟩ := r1
  refine wpAny_pyIter_strU ?_
  have et : strIterType x = "str_ascii_iterator" := by rw [strIterType, if_pos ha]
  rw [et]
  have I2 : Inv X pins σ H1 { s1 with heap := s1.heap.push { cls := .type "str_ascii_iterator", data := .fields #[.str x t, .int 0 0] } } := I1.kept (t' := s1.toks) fun b o e => Heap.get?_push_of_some _ e
  refine ⟨_, _, _, _, H1, rfl, I2, turn_str _ x t, ⟨_, Heap.get?_push_size _ rfl, rfl, rfl⟩, fun b hb => ?_, q⟩
  have hb' : b = s1.heap.objs.size := by simpa using hb
  subst hb'
  exact I1.fpOk (Nat.le_refl _) (I1.hok.fresh (Nat.le_refl _))
theorem op_le_str : OpR X (compareOp .LtE) (fun x y H Q => ∃ i j, x = .str i ∧ y = .str j ∧ Q (.bl (!decide (j.cps.toList < i.cps.toList))) H) := by
  intro pins s σ H x y v u Q I rx ry h
  obtain ⟨i, j, rfl, rfl, q⟩ := h
  obtain ⟨t, rfl⟩ := rx
  obtain ⟨t', rfl⟩ := ry
  exact P.le_str (fin_bl I q rfl)
end
/-- over a list that the body leaves as it is -/
theorem for_enum {K : PySem.W.Frag} {a : Addr} {xs : List V} {g : TG} {tb : TS} {D : Ends} {σ : St} {H : Hp} (Pv : Nat → St → Hp → Prop) (h0 : Pv 0 σ H) (hl : ∀ i σ H, i ≤ xs.length → Pv i σ H → SqL K H a xs)
    (hs : ∀ i x σ H T, xs[i]? = some x → H T = none → Pv i σ H → g (.ref T) σ (upd H T (.tup [.int i, x])) fun σ2 H2 => tb { D with nx := Pv (i + 1), ct := Pv (i + 1), bk := D.nx } σ2 H2) (hd : ∀ σ H, Pv xs.length σ H → D.nx σ H) :
    ∃ W : Nat → Nat → St → Hp → Prop, (∃ m, W 0 m σ H) ∧ ∀ i m σ H, W i m σ H →
      ((Ite K a).stop i H ∧ D.nx σ H) ∨ ((Ite K a).go i H ∧ ∃ N : St → Hp → Prop, (∀ σ' H', N σ' H' → ∃ m', m' < m ∧ W (i + 1) m' σ' H') ∧ ∀ x H', (Ite K a).yld i H x H' → g x σ H' fun σ2 H2 => tb { D with nx := N, ct := N, bk := D.nx } σ2 H2) := by
  refine ⟨fun i m σ H => m = xs.length - i ∧ i ≤ xs.length ∧ Pv i σ H, ⟨xs.length, by simp, Nat.zero_le _, h0⟩, ?_⟩
  rintro i m σ H ⟨rfl, hi, p⟩
  have q1 := hl i σ H hi p
  by_cases hlt : i < xs.length
  · refine .inr ⟨⟨xs, xs[i], q1, by simp [hlt]⟩, Pv (i + 1), fun σ' H' p' => ⟨xs.length - (i + 1), by omega, rfl, hlt, p'⟩, fun v H' z => ?_⟩
    obtain ⟨T, x, rfl, hT, rfl, z1⟩ := z
    exact hs i x σ H T (z1 xs q1) hT p
  · have e : i = xs.length := by omega
    subst e
    exact .inl ⟨⟨xs, q1, Nat.le_refl _⟩, hd σ H p⟩
theorem lcW_enum {K : PySem.W.Frag} {σ0 : St} {a : Addr} {xs : List V} {acc : Addr} {g : TG} {te : TE} {Q : VK} {H : Hp} (Pv : Nat → List V → Hp → Prop) (h0 : Pv 0 [] (upd H acc (.lst []))) (hl : ∀ i ys H2, i ≤ xs.length → Pv i ys H2 → H2 acc = some (.lst ys) ∧ ys.length < sizeLine ∧ SqL K H2 a xs)
    (hs : ∀ i x ys H2 T, xs[i]? = some x → H2 T = none → Pv i ys H2 → ∀ C : VK, (∀ y H5, H5 acc = some (.lst ys) → Pv (i + 1) (ys ++ [y]) (upd H5 acc (.lst (ys ++ [y]))) → C y H5) → g (.ref T) σ0 (upd H2 T (.tup [.int i, x])) fun σ4 H4 => Wk σ0 σ4 ∧ te σ4 H4 C) (hd : ∀ ys H2, Pv xs.length ys H2 → Q (.ref acc) H2) :
    ∃ W : Nat → Nat → List V → Hp → Prop, (∃ m, W 0 m [] (upd H acc (.lst []))) ∧ lcW K σ0 (Ite K a) acc g te Q W := by
  refine ⟨fun i m ys H2 => m = xs.length - i ∧ i ≤ xs.length ∧ Pv i ys H2, ⟨xs.length, by simp, Nat.zero_le _, h0⟩, ?_⟩
  rintro i m ys H2 ⟨rfl, hi, p⟩
  obtain ⟨e1, e2, q⟩ := hl i ys H2 hi p
  refine ⟨e1, e2, ?_⟩
  by_cases hlt : i < xs.length
  · refine .inr ⟨⟨xs, xs[i], q, by simp [hlt]⟩, fun x H3 y => ?_⟩
    obtain ⟨T, x, rfl, hT, rfl, z1⟩ := y
    exact hs i x ys _ T (z1 xs q) hT p _ fun v H5 z1 z2 => ⟨z1, xs.length - (i + 1), by omega, rfl, hlt, z2⟩
  · have e : i = xs.length := by omega
    subst e
    exact .inl ⟨⟨xs, q, Nat.le_refl _⟩, hd ys H2 p⟩
theorem lcW_str {K : PySem.W.Frag} {σ0 : St} {x : Str} {acc : Addr} {g : TG} {te : TE} {Q : VK} {H : Hp} (Pv : Nat → List V → Hp → Prop) (h0 : Pv 0 [] (upd H acc (.lst []))) (hl : ∀ i ys H2, i ≤ x.length → Pv i ys H2 → H2 acc = some (.lst ys) ∧ ys.length < sizeLine)
    (hs : ∀ i c ys H2, x.cps.toList[i]? = some c → Pv i ys H2 → ∀ C : VK, (∀ y H5, H5 acc = some (.lst ys) → Pv (i + 1) (ys ++ [y]) (upd H5 acc (.lst (ys ++ [y]))) → C y H5) → g (.str ⟨#[c]⟩) σ0 H2 fun σ4 H4 => Wk σ0 σ4 ∧ te σ4 H4 C) (hd : ∀ ys H2, Pv x.length ys H2 → Q (.ref acc) H2) :
    ∃ W : Nat → Nat → List V → Hp → Prop, (∃ m, W 0 m [] (upd H acc (.lst []))) ∧ lcW K σ0 (Its x) acc g te Q W := by
  refine ⟨fun i m ys H2 => m = x.length - i ∧ i ≤ x.length ∧ Pv i ys H2, ⟨x.length, by simp, Nat.zero_le _, h0⟩, ?_⟩
  rintro i m ys H2 ⟨rfl, hi, p⟩
  obtain ⟨e1, e2⟩ := hl i ys H2 hi p
  refine ⟨e1, e2, ?_⟩
  by_cases hlt : i < x.length
  · refine .inr ⟨hlt, fun v H3 y => ?_⟩
    obtain ⟨rfl, c, hc, rfl⟩ := y
    exact hs i c ys _ hc p _ fun v H5 z1 z2 => ⟨z1, x.length - (i + 1), by omega, rfl, hlt, z2⟩
  · have e : i = x.length := by omega
    subst e
    exact .inl ⟨Nat.le_refl _, hd ys H2 p⟩
/-- the same in a comprehension's block: what it reads may not name the block -/
theorem pg_tupK {X : Cx} {K : PySem.W.Frag} {pos : Pos} {es : List Expr} {k : Nat} {t : TGs} {n : Nat} (hc : X.calm = true) (hK : X.K = K) (h : PGs X es t)
    (hn : (assignEach es X.env).length = n) (hst : (assignEach es X.env).findIdx? (·.1) = none) : PG X (.Tuple es k pos) (gTup K n t) := hK ▸ pg_tup hc h hn hst
end L2

set_option Elab.async false
set_option linter.all false
set_option maxRecDepth 100000
set_option maxHeartbeats 2000000
/-! TEXTS that are read, and what has begun -/
namespace Ken
open PySem L2
/-- this text says this statement -/
inductive Wr : Tm → List Nat → Prop where
  | low : Wr .low [48]
  | ltr (w : Str) : Wr (.ltr w) w.cps.toList
  | neg {a : Tm} {x : List Nat} : Wr a x → Wr (.nd .thn a .low) (126 :: x)
  | nd {k : Kd} {a b : Tm} {x y : List Nat} : Wr a x → Wr b y → Wr (.nd k a b) (40 :: (x ++ (32 :: k.sgn :: 32 :: (y ++ [41]))))
theorem Wr.shown : ∀ t : Tm, Wr t t.text
  | .low => .low
  | .ltr w => .ltr w
  | .nd k a b => by
    show Wr _ (if k = .thn ∧ b = .low then 126 :: a.text else 40 :: (a.text ++ (32 :: k.sgn :: 32 :: (b.text ++ [41]))))
    by_cases h : k = .thn ∧ b = .low
    · rw [if_pos h]
      obtain ⟨rfl, rfl⟩ := h
      exact .neg (Wr.shown a)
    · rw [if_neg h]
      exact .nd (Wr.shown a) (Wr.shown b)
theorem Wr.len : ∀ {t : Tm} {x : List Nat}, Wr t x → t.ok → x.length ≤ 10 * t.parts
  | _, _, .low, _ => by decide
  | _, _, .ltr w, h => by
    show w.cps.toList.length ≤ 10
    have := h.2.1
    omega
  | _, _, .neg (a := a) (x := x) ha, h => by
    have := ha.len h.1
    show x.length + 1 ≤ 10 * (1 + a.parts + 1)
    omega
  | _, _, .nd (k := k) (a := a) (b := b) (x := x) (y := y) ha hb, h => by
    have h1 := ha.len h.1
    have h2 := hb.len h.2
    show (40 :: (x ++ (32 :: k.sgn :: 32 :: (y ++ [41])))).length ≤ 10 * (1 + a.parts + b.parts)
    simp
    omega
def goodC (c : Nat) : Prop := c < 128
theorem Wr.ascii : ∀ {t : Tm} {x : List Nat}, Wr t x → t.ok → ∀ c ∈ x, c < 128
  | _, _, .low, _, c, hc => by simp at hc; omega
  | _, _, .ltr w, h, c, hc => by have := h.2.2 c hc; omega
  | _, _, .neg ha, h, c, hc => by
    rcases List.mem_cons.mp hc with rfl | hc
    · decide
    · exact ha.ascii h.1 c hc
  | _, _, .nd (k := k) ha hb, h, c, hc => by
    simp only [List.mem_cons, List.mem_append, List.not_mem_nil, or_false] at hc
    rcases hc with rfl | hc | rfl | rfl | rfl | hc | rfl
    · decide
    · exact ha.ascii h.1 c hc
    · decide
    · cases k <;> decide
    · decide
    · exact hb.ascii h.2 c hc
    · decide
/-- what has begun: ~; ( and the second statement to come; kind and the first statement -/
inductive Fr where
  | ng
  | op (k : Kd) (b : Tm) (y : List Nat)
  | sn (k : Kd) (a : Tm)
def Fr.ok : Fr → Prop
  | .ng => True
  | .op _ b y => Wr b y ∧ b.ok
  | .sn _ a => a.ok
def restF : List Fr → List Nat
  | [] => []
  | .ng :: fs => restF fs
  | .op k _ y :: fs => 32 :: k.sgn :: 32 :: (y ++ (41 :: restF fs))
  | .sn _ _ :: fs => 41 :: restF fs
def plug : List Fr → Tm → Tm
  | [], t => t
  | .ng :: fs, t => plug fs (.nd .thn t .low)
  | .op k b _ :: fs, t => plug fs (.nd k t b)
  | .sn k a :: fs, t => plug fs (.nd k a t)
/-- no small letter -/
def noLet : List Nat → Prop
  | [] => True
  | c :: _ => ¬ (97 ≤ c ∧ c ≤ 122)
theorem restF_noLet : ∀ fs : List Fr, noLet (restF fs)
  | [] => trivial
  | .ng :: fs => restF_noLet fs
  | .op k b y :: fs => by show ¬ (97 ≤ 32 ∧ 32 ≤ 122); omega
  | .sn _ _ :: fs => by show ¬ (97 ≤ 41 ∧ 41 ≤ 122); omega
/-- a letter, or what can't be -/
def simple : Tm → Prop
  | .nd _ _ _ => False
  | _ => True
/-- the sign by which a frame begins -/
def frSign : Fr → Nat
  | .ng => 126
  | _ => 40
def newFr : Fr → Prop
  | .sn _ _ => False
  | _ => True
/-- the openings: frames that begin here, and the simple statement behind them -/
theorem Wr.open : ∀ {t : Tm} {x : List Nat}, Wr t x → t.ok → ∃ (gs : List Fr) (u : Tm), simple u ∧ u.ok ∧ (∀ g ∈ gs, g.ok ∧ newFr g) ∧ ∀ fs : List Fr, x ++ restF fs = (gs.map frSign) ++ (u.text ++ restF (gs.reverse ++ fs)) ∧ plug (gs.reverse ++ fs) u = plug fs t
  | _, _, .low, _ => ⟨[], .low, trivial, trivial, by simp, fun fs => ⟨rfl, rfl⟩⟩
  | _, _, .ltr w, h => ⟨[], .ltr w, trivial, h, by simp, fun fs => ⟨rfl, rfl⟩⟩
  | _, _, .neg (a := a) (x := x) ha, h => by
    obtain ⟨gs, u, h1, h2, h3, h4⟩ := ha.open h.1
    refine ⟨.ng :: gs, u, h1, h2, ?_, fun fs => ?_⟩
    · intro g hg
      rcases List.mem_cons.mp hg with rfl | hg
      · exact ⟨trivial, trivial⟩
      · exact h3 g hg
    · obtain ⟨e1, e2⟩ := h4 (.ng :: fs)
      rw [List.reverse_cons, List.append_assoc]
      refine ⟨?_, e2⟩
      show 126 :: (x ++ restF fs) = 126 :: (gs.map frSign ++ (u.text ++ restF (gs.reverse ++ (.ng :: fs))))
      rw [← e1]; rfl
  | _, _, .nd (k := k) (a := a) (b := b) (x := x) (y := y) ha hb, h => by
    obtain ⟨gs, u, h1, h2, h3, h4⟩ := ha.open h.1
    refine ⟨.op k b y :: gs, u, h1, h2, ?_, fun fs => ?_⟩
    · intro g hg
      rcases List.mem_cons.mp hg with rfl | hg
      · exact ⟨⟨hb, h.2⟩, trivial⟩
      · exact h3 g hg
    · obtain ⟨e1, e2⟩ := h4 (.op k b y :: fs)
      rw [List.reverse_cons, List.append_assoc]
      refine ⟨?_, e2⟩
      show 40 :: ((x ++ (32 :: k.sgn :: 32 :: (y ++ [41]))) ++ restF fs) = 40 :: (gs.map frSign ++ (u.text ++ restF (gs.reverse ++ (.op k b y :: fs))))
      rw [← e1]
      show 40 :: ((x ++ (32 :: k.sgn :: 32 :: (y ++ [41]))) ++ restF fs) = 40 :: (x ++ (32 :: k.sgn :: 32 :: (y ++ (41 :: restF fs))))
      simp
/-- what a value of the list of what has begun says -/
def DFr (K : PySem.W.Frag) (H : Hp) (v : V) : Fr → Prop
  | .ng => ∃ p, v = .ref p ∧ SqT K H p [.str "~", .non]
  | .op _ _ _ => ∃ p, v = .ref p ∧ SqT K H p [.str "(", .non]
  | .sn k a => ∃ p x, v = .ref p ∧ SqT K H p [.str k.str, x] ∧ IsT K H x a
theorem DFr.keep {K : PySem.W.Frag} {H H' : Hp} (k : KeepT K H H') : ∀ {v : V} {f : Fr}, DFr K H v f → DFr K H' v f
  | _, .ng, ⟨p, e, h⟩ => ⟨p, e, k _ _ h⟩
  | _, .op _ _ _, ⟨p, e, h⟩ => ⟨p, e, k _ _ h⟩
  | _, .sn _ _, ⟨p, x, e, h, i⟩ => ⟨p, x, e, k _ _ h, i.keep k⟩
abbrev DFrs (K : PySem.W.Frag) (H : Hp) : List V → List Fr → Prop := Paired (DFr K H)
theorem DFrs.keep {K : PySem.W.Frag} {H H' : Hp} (k : KeepT K H H') {vs : List V} {fs : List Fr} (h : DFrs K H vs fs) : DFrs K H' vs fs := Paired.mapP h fun _ _ q => q.keep k
/-! places in a text -/
theorem slice1 (x : Str) (a : Nat) (ha : a ≤ x.length) : (Txt.slice x (some (a : Int)) (some ((a : Int) + 1))).cps.toList = (x.cps.toList.drop a).take 1 := by
  by_cases h : a + 1 ≤ x.length
  · have := slice_cps x a (a + 1) (by omega) h
    rw [Nat.add_sub_cancel_left] at this
    rw [← this]
    rfl
  · have e : a = x.length := by omega
    subst e
    have z : Builtin.Str.strSliceIndices (some ((x.length : Nat) : Int)) (some (((x.length : Nat) : Int) + 1)) 1 x.length = Builtin.Str.strSliceIndices (some ((x.length : Nat) : Int)) (some ((x.length : Nat) : Int)) 1 x.length := by
      unfold Builtin.Str.strSliceIndices
      have n1 : ¬ ((x.length : Nat) : Int) + 1 < 0 := by omega
      have n2 : ¬ ((x.length : Nat) : Int) < 0 := by omega
      have m : min (((x.length : Nat) : Int) + 1) ((x.length : Nat) : Int) = min ((x.length : Nat) : Int) ((x.length : Nat) : Int) := by omega
      have p1 : (1 : Int) > 0 := by decide
      simp only [if_neg n1, if_neg n2, m, if_pos p1]
    have z2 : Txt.slice x (some ((x.length : Nat) : Int)) (some (((x.length : Nat) : Int) + 1)) = Txt.slice x (some ((x.length : Nat) : Int)) (some ((x.length : Nat) : Int)) := by
      unfold Txt.slice
      rw [z]
    have e2 : x.length = x.cps.toList.length := len_cps x
    rw [z2, slice_cps x x.length x.length (Nat.le_refl _) (Nat.le_refl _), Nat.sub_self, List.take_zero, e2, List.drop_length, List.take_nil]
/-- the sign at a place -/
theorem sign_at {x : Str} {a c : Nat} {r : List Nat} (h : x.cps.toList.drop a = c :: r) : Txt.slice x (some (a : Int)) (some ((a : Int) + 1)) = ⟨#[c]⟩ := by
  have hl : a < x.cps.toList.length := by
    by_cases q : a < x.cps.toList.length
    · exact q
    · rw [List.drop_of_length_le (by omega)] at h; cases h
  refine str_ext ?_
  rw [slice1 x a (by rw [len_cps]; omega), h]
  rfl
theorem sign_end {x : Str} {a : Nat} (ha : a ≤ x.length) (h : x.cps.toList.drop a = []) : Txt.slice x (some (a : Int)) (some ((a : Int) + 1)) = Str.empty := by
  refine str_ext ?_
  rw [slice1 x a ha, h]
  rfl
theorem drop_add {α : Type} {l : List α} {a : Nat} {p q : List α} (h : l.drop a = p ++ q) : l.drop (a + p.length) = q := by
  rw [← List.drop_drop, h, List.drop_left]
theorem drop_lt {α : Type} {l : List α} {a : Nat} {p q : List α} (ha : a ≤ l.length) (h : l.drop a = p ++ q) : a + p.length ≤ l.length := by
  have := congrArg List.length h
  rw [List.length_drop, List.length_append] at this
  omega
/-! contracts -/
/-- a text of small size, and a place in it -/
def At (x : Str) (a : Nat) (cs : List Nat) : Prop := x.length ≤ 5000 ∧ a ≤ x.length ∧ x.cps.toList.drop a = cs
theorem At.move {x : Str} {a : Nat} {p q : List Nat} (h : At x a (p ++ q)) : At x (a + p.length) q := by
  refine ⟨h.1, ?_, drop_add h.2.2⟩
  have := drop_lt (by rw [← len_cps]; exact h.2.1) h.2.2
  rw [len_cps]; exact this
theorem At.step {x : Str} {a c : Nat} {q : List Nat} (h : At x a (c :: q)) : At x (a + 1) q := At.move (p := [c]) h
def sp_past : Sp := fun vs H Q _ => ∃ (x : Str) (a c : Nat) (r : List Nat), vs = [.str x, .int a, .str ⟨#[c]⟩] ∧ At x a (c :: r) ∧ Q (.int ((a : Int) + 1)) H
def sp_wend : Sp := fun vs H Q _ => ∃ (x w : Str) (a : Nat) (r : List Nat), vs = [.str x, .int a] ∧ Word w ∧ noLet r ∧ At x a (w.cps.toList ++ r) ∧ Q (.int ((a + w.length : Nat) : Int)) H
def sp_simple (K : PySem.W.Frag) : Sp := fun vs H Q _ => ∃ (x : Str) (a : Nat) (t : Tm) (r : List Nat), vs = [.str x, .int a] ∧ simple t ∧ t.ok ∧ noLet r ∧ At x a (t.text ++ r) ∧
  ∀ (p : Addr) (v : V) (H' : Hp), Same H H' → SqT K H' p [v, .int ((a + t.text.length : Nat) : Int)] → IsT K H' v t → Q (.ref p) H'
def sp_kind (K : PySem.W.Frag) : Sp := fun vs H Q _ => ∃ (x : Str) (a : Nat) (k : Kd) (r : List Nat), vs = [.str x, .int a] ∧ At x a (32 :: k.sgn :: 32 :: r) ∧
  ∀ (p : Addr) (H' : Hp), Same H H' → SqT K H' p [.str k.str, .int ((a + 3 : Nat) : Int)] → Q (.ref p) H'
def noOpen : List Nat → Prop
  | [] => True
  | c :: _ => c ≠ 40 ∧ c ≠ 126
def sp_opens : Sp := fun vs H Q _ => ∃ (x : Str) (a : Nat) (os r : List Nat), vs = [.str x, .int a] ∧ (∀ c ∈ os, c = 40 ∨ c = 126) ∧ noOpen r ∧ At x a (os ++ r) ∧ ∀ H', Same H H' → Q (.int ((a + os.length : Nat) : Int)) H'
def sp_atend : Sp := fun vs H Q _ => ∃ (x : Str) (v : V), vs = [.str x, .int (x.length : Nat), v] ∧ x.length ≤ 5000 ∧ Q v H
def sp_neg (K : PySem.W.Frag) : Sp := fun vs H Q _ => ∃ v t, vs = [v] ∧ IsT K H v t ∧ ∀ (r : V) (H' : Hp), Same H H' → IsT K H' r (.nd .thn t .low) → Q r H'
def sp_read (K : PySem.W.Frag) : Sp := fun vs H Q _ => ∃ (x : Str) (t : Tm), vs = [.str x] ∧ t.ok ∧ Wr t x.cps.toList ∧ x.length ≤ 5000 ∧ ∀ (r : V) (H' : Hp), Same H H' → IsT K H' r t → Q r H'
def sp_written (K : PySem.W.Frag) : Sp := fun vs H Q _ => ∃ (v : V) (t : Tm) (c : Int), vs = [v, .int c] ∧ IsT K H v t ∧ t.ok ∧ t.parts ≤ 300 ∧ ∀ (x : Str) (H' : Hp), Same H H' → Wr t x.cps.toList → Q (.str x) H'
theorem str1_inj {c d : Nat} : ((⟨#[c]⟩ : Str) = ⟨#[d]⟩) ↔ c = d := by
  constructor
  · intro h
    have := congrArg (fun z : Str => z.cps.toList) h
    simpa using this
  · rintro rfl; rfl
theorem in_open (z : Str) : inV (.str z) [.str "(", .str "~"] = (decide (z = "(") || decide (z = "~")) := by
  show (eqV (.str "(") (.str z) || (eqV (.str "~") (.str z) || false)) = _
  rw [Bool.or_false]
  congr 1
  · show decide (("(" : Str) = z) = decide (z = "(")
    exact decide_eq_decide.mpr eq_comm
  · show decide (("~" : Str) = z) = decide (z = "~")
    exact decide_eq_decide.mpr eq_comm
theorem in_open1 (c : Nat) : inV (.str ⟨#[c]⟩) [.str "(", .str "~"] = (decide (c = 40) || decide (c = 126)) := by
  rw [in_open]
  congr 1
  · exact decide_eq_decide.mpr (str1_inj (d := 40))
  · exact decide_eq_decide.mpr (str1_inj (d := 126))
theorem lt1 {c d : Nat} : (([c] : List Nat) < [d]) ↔ c < d := by
  simp [List.cons_lt_cons_iff]
theorem paired_rev {α β : Type} {F : α → β → Prop} : ∀ {l : List α} {m : List β}, Paired F l m → Paired F l.reverse m.reverse
  | _, _, .nil => .nil
  | _, _, .cons h t => by rw [List.reverse_cons, List.reverse_cons]; exact Paired.snoc (paired_rev t) h
theorem paired_app {α β : Type} {F : α → β → Prop} : ∀ {l l' : List α} {m m' : List β}, Paired F l m → Paired F l' m' → Paired F (l ++ l') (m ++ m')
  | _, _, _, _, .nil, q => q
  | _, _, _, _, .cons h t, q => .cons h (paired_app t q)
theorem at_last {α : Type} (l : List α) (u : α) : atI (l ++ [u]) (-1) = some u := by
  unfold atI ixN
  rw [if_neg (by decide), if_pos (by rw [List.length_append]; simp; omega)]
  show (l ++ [u])[((-1 : Int) + ((l ++ [u]).length : Int)).toNat]? = some u
  have : ((-1 : Int) + ((l ++ [u]).length : Int)).toNat = l.length := by rw [List.length_append]; simp; omega
  rw [this]; simp
theorem ix_last {α : Type} (l : List α) (u : α) : ixN (l ++ [u]).length (-1) = some l.length := by
  unfold ixN
  rw [if_neg (by decide), if_pos (by rw [List.length_append]; simp; omega)]
  congr 1
  rw [List.length_append]; simp; omega
theorem set_last {α : Type} (l : List α) (u v : α) : (l ++ [u]).set l.length v = l ++ [v] := by
  rw [List.set_append_right _ _ (Nat.le_refl _), Nat.sub_self]; rfl
end Ken

set_option Elab.async false
set_option linter.all false
set_option maxRecDepth 100000
set_option maxHeartbeats 2000000
namespace Ken
open PySem L2
/-- texts that say these items one behind another -/
inductive WrI : List Itm → List Nat → Prop where
  | nil : WrI [] []
  | str {x : Str} {is : List Itm} {z : List Nat} : WrI is z → WrI (.inl x :: is) (x.cps.toList ++ z)
  | tm {t : Tm} {is : List Itm} {y z : List Nat} : Wr t y → WrI is z → WrI (.inr t :: is) (y ++ z)
/-- items: a text, or a statement (not looked into) -/
def DIx (K : PySem.W.Frag) (H : Hp) : V → Itm → Prop
  | v, .inl x => v = .str x
  | v, .inr t => IsT K H v t
theorem DIx.keep {K : PySem.W.Frag} {H H' : Hp} (k : KeepT K H H') : ∀ {v : V} {i : Itm}, DIx K H v i → DIx K H' v i
  | _, .inl _, h => h
  | _, .inr _, h => IsT.keep h k
def itDeep : Itm → Nat
  | .inl _ => 0
  | .inr t => t.deep
def sp_same (K : PySem.W.Frag) (n : Nat) : Sp := fun vs H Q _ => ∃ (v u : V) (i : Itm), vs = [v, u] ∧ DIx K H v i ∧ DIx K H u i ∧ itDeep i < n ∧ Q (.bl true) H
/-- a statement as a tuple of items -/
def subs : Tm → List Itm
  | .low => [.inl "low"]
  | .ltr w => [.inl "letter", .inl w]
  | .nd k a b => [.inl k.str, .inr a, .inr b]
theorem isT_subs {K : PySem.W.Frag} {H : Hp} {v : V} {t : Tm} (h : IsT K H v t) : ∃ p xs, v = .ref p ∧ SqT K H p xs ∧ Paired (DIx K H) xs (subs t) := by
  cases t with
  | low => obtain ⟨a, rfl, hs⟩ := isT_low.mp h; exact ⟨a, _, rfl, hs, .cons rfl .nil⟩
  | ltr w => obtain ⟨a, rfl, hs⟩ := isT_ltr.mp h; exact ⟨a, _, rfl, hs, .cons rfl (.cons rfl .nil)⟩
  | nd k x y => obtain ⟨a, vx, vy, rfl, hs, hx, hy⟩ := isT_nd.mp h; exact ⟨a, _, rfl, hs, .cons rfl (.cons hx (.cons hy .nil))⟩
theorem subs_deep {t : Tm} : ∀ i ∈ subs t, itDeep i < t.deep := by
  intro i hi
  cases t with
  | low => simp [subs] at hi; subst hi; decide
  | ltr w => simp [subs] at hi; rcases hi with rfl | rfl <;> exact Nat.one_pos
  | nd k a b =>
    simp [subs] at hi
    rcases hi with rfl | rfl | rfl
    · show 0 < 1 + max a.deep b.deep; omega
    · show a.deep < 1 + max a.deep b.deep; omega
    · show b.deep < 1 + max a.deep b.deep; omega
theorem subs_len (t : Tm) : (subs t).length ≤ 3 := by cases t <;> simp [subs]
theorem flat_snoc (ys : List Str) (y : Str) (z : List Nat) : ((ys ++ [y]).map fun y => y.cps.toList).flatten ++ z = (ys.map fun y => y.cps.toList).flatten ++ (y.cps.toList ++ z) := by simp
def sgs : Kd → Str
  | .both => " & "
  | .one => " | "
  | .thn => " > "
theorem sgs_cps (k : Kd) : (sgs k).cps.toList = [32, k.sgn, 32] := by cases k <;> rfl
theorem sgs_ok (k : Kd) : PyData.strOk (sgs k) = true := by cases k <;> decide +kernel
abbrev sgsD : List (Key × V) := [(Sum.inr "both", .str " & "), (Sum.inr "one", .str " | "), (Sum.inr "then", .str " > ")]
theorem kd_clo (k : Kd) : itOk (.inl k.str) := by cases k <;> (show PyData.strOk _ = true) <;> decide +kernel
theorem par_ok : itOk (.inl ")") := by show PyData.strOk ")" = true; decide +kernel
/-- drawn statements -/
abbrev IsTd (K : PySem.W.Frag) (H : Hp) : List V → List Tm → Prop := Paired fun v t => IsT K H v t ∧ t.ok ∧ t.parts ≤ 300 ∧ t.deep ≤ 47
theorem IsTd.keep {K : PySem.W.Frag} {H H' : Hp} (k : KeepT K H H') {vs : List V} {ts : List Tm} (h : IsTd K H vs ts) : IsTd K H' vs ts := Paired.mapP h fun _ _ q => ⟨q.1.keep k, q.2⟩
end Ken

set_option Elab.async false
set_option linter.all false
set_option maxRecDepth 100000
set_option maxHeartbeats 2000000
/-! list(a dict), sorted(a list of texts); rules whose readings do not name the context (for comprehensions) -/
namespace L2
open PySem PySem.Spec PyProof.Rows
section
variable {X : Cx}
theorem kv_items {P : Program} {w : World} : ∀ {kvs : List (Key × V)} {vs : List (Key × Value)}, KV kvs vs → ∀ {acc : List Value}, acc.length = vs.length → (∀ (j : Nat) (v : Value), acc[j]? = some v → ∃ k x, vs[j]? = some (k, x) ∧ (mixKind P w).is k v = true) → Vals (kvs.map fun kv => kV kv.1) acc
  | _, _, .nil, [], _, _ => .nil
  | _, _, .nil, _ :: _, h, _ => by simp at h
  | _, _, .cons (a := p) (b := q) h t, [], hl, _ => by simp at hl
  | _, _, .cons (a := p) (b := q) h t, u :: acc, hl, hi => by
    refine .cons ?_ (kv_items t (by simpa using hl) fun j v e => hi (j + 1) v e)
    obtain ⟨k, x, e1, e2⟩ := hi 0 u rfl
    cases e1
    have hk : p.1 = k := h.1
    show RelV (kV p.1) u
    rw [hk]
    rcases keyIs_shape e2 with ⟨i, t, rfl, rfl⟩ | ⟨x, t, rfl, rfl⟩
    · exact ⟨t, rfl⟩
    · exact ⟨t, rfl⟩
theorem vals_of_strs : ∀ {us : List Value} {ys : List Str}, StrsAre us ys → Vals (ys.map V.str) us
  | _, _, .nil => .nil
  | _, _, .cons _ _ t => .cons ⟨_, rfl⟩ (vals_of_strs t)
theorem call_list_dict (hc : X.calm = true) : CallR X (.type "list") (fun xs H Q => ∃ a kvs, xs = [.ref a] ∧ H a = some (.dK kvs) ∧ ∀ l, H l = none → Q (.ref l) (upd H l (.lst (kvs.map fun kv => kV kv.1)))) := by
  intro pins s σ H xs us Q I r h
  obtain ⟨a, kvs, rfl, ha, q⟩ := h
  obtain ⟨u, rfl, ru⟩ := vals1 r
  cases ru
  obtain ⟨hz, hS, vs, rel, dd⟩ := dk_of I.hok ha
  obtain ⟨ep, da⟩ := dd.dictAt
  have hl := Paired.length rel
  refine W.kdl_call (W.kdl_dict hS) (I.ok.hd hc) da (by omega) fun h' tk acc c kp e it => ?_
  have v := kv_items (P := X.prog) (w := X.w) rel (acc := acc.toList) (by rw [Array.length_toList]; exact it.1) fun j v q => it.2 j v (by simpa using q)
  exact ⟨.ref s.heap.objs.size, _, I.laid (t' := tk) kp (Nat.le_refl _) (show ObjOk X.prog X.w _ h' _ (.lst (kvs.map fun kv => kV kv.1)) from ⟨by rw [List.length_map]; exact hz, acc.toList, c, v, by simpa using e⟩), rfl, q _ (I.hok.fresh (Nat.le_refl _))⟩
theorem call_sorted_strs : CallR X (.builtin "sorted") (fun xs H Q => ∃ a ys, xs = [.ref a] ∧ SqL X.K H a (ys.map V.str) ∧ ys.length < 64 ∧ ∀ l ys', H l = none → List.Perm ys' ys → sortedS ys' = true → Q (.ref l) (upd H l (.lst (ys'.map V.str)))) := by
  intro pins s σ H xs us Q I r h
  obtain ⟨a, ys, rfl, hq, hz, q⟩ := h
  obtain ⟨u, rfl, ru⟩ := vals1 r
  cases ru
  obtain ⟨its, r', pl, _⟩ := I.list hq
  have hlen := r'.length
  rw [List.length_map] at hlen
  refine sorted_strs pl.isList (strsAre_of r') (by omega) fun out ss' h1 h2 h3 => ?_
  obtain ⟨e, he⟩ := sortedAll_at s.heap its out
  have hl2 := h2.length_eq
  refine ⟨.ref (s.heap.objs.size + 1), _, I.laid (t' := s.toks) (fun b o q => sortedAll_old q) (Nat.le_succ _) (show ObjOk X.prog X.w _ _ _ (.lst (ss'.map V.str)) from ⟨?_, out.toList, e, vals_of_strs h1, by simpa using he⟩), rfl, q _ ss' (I.hok.fresh (Nat.le_succ _)) h2 h3⟩
  rw [List.length_map, hl2]
  exact Nat.le_trans (Nat.le_of_lt hz) (by decide)
theorem call_list_ofK {K : PySem.W.Frag} (hK : X.K = K) : CallR X (.type "list") (fun xs H Q => ∃ p ys, xs = [.ref p] ∧ (SqL K H p ys ∨ SqT K H p ys) ∧ ∀ l, H l = none → Q (.ref l) (upd H l (.lst ys))) := hK ▸ call_list_of
theorem call_len_seqK {K : PySem.W.Frag} (hK : X.K = K) : CallR X (.builtin "len") (fun xs H Q => ∃ p ys, xs = [.ref p] ∧ (SqL K H p ys ∨ SqT K H p ys) ∧ Q (.int ys.length) H) := hK ▸ call_len_seq
theorem ix_listK {K : PySem.W.Frag} (hK : X.K = K) : IxR X (rIxL K) := hK ▸ ix_list
theorem ix_tupK {K : PySem.W.Frag} (hK : X.K = K) : IxR X (rIxT K) := hK ▸ ix_tup
end
end L2

set_option Elab.async false
set_option linter.all false
set_option maxRecDepth 100000
set_option maxHeartbeats 2000000
/-! COMPREHENSIONS with tests and with two clauses -/
namespace L2
open PySem PySem.Spec PyProof.Rows
/-- what a turn does behind its target -/
abbrev TK := St → Hp → (Hp → Prop) → Prop
def compW (σ0 : St) (J : It) (g : TG) (tk : TK) (Q : Hp → Prop) (W : Nat → Nat → Hp → Prop) : Prop :=
  ∀ i m H2, W i m H2 → (J.stop i H2 ∧ Q H2) ∨ (J.go i H2 ∧ ∀ x H3, J.yld i H2 x H3 → g x σ0 H3 fun σ4 H4 => Wk σ0 σ4 ∧ tk σ4 H4 fun H5 => ∃ m', m' < m ∧ W (i + 1) m' H5)
/-- the part of a turn behind its target -/
def PTn (Y : Cx) (body : Sem Unit) (tk : TK) : Prop := ∀ (pins : List (Addr × Obj)) (s : Shared) (σ : St) (H : Hp) (N : Hp → Prop), Inv Y pins σ H s → tk σ H N →
  wpAny (model Y.prog Y.w) Y.A body (fun _ s' => ∃ σ' H', Inv Y pins σ' H' s' ∧ Wk σ σ' ∧ N H') Y.xe s
/-- a turn's own text -/
def TurnIs (e : Expr) (d : Nat) (tg : Expr) (p : Pos) (acc : Value) (env : Env) (body : Sem Unit) : Prop := ∀ it, compTurn e d it acc env = (standAt p >>= fun _ => pyNext it >>= fun r => match r with
      | none => pure (.done .next)
      | some v => letOwnedTupleGo tg it v >>= fun _ => assign tg env v >>= fun _ => body >>= fun _ => again (.compLoop e d it acc env))
/-- no generator -/
def DenIs (prog : Program) (w : World) (A : Around) (e : Expr) (d : Nat) (acc : Value) (env : Env) : Prop := ∀ it,
  (model prog w).den (.compLoop e d it acc env) = (compTurn e d it acc env).onRaise (fun x => do noteFrame x env; theTreesLotGoes x) ∧ A.under (.compLoop e d it acc env) = A ∧
  (∃ p, (model prog w).den (.compStart e d it acc env) = (compStart e d it acc env).onRaise (fun x => do noteFrame x env; standAt p)) ∧ A.under (.compStart e d it acc env) = A
theorem comp_loop {Y : Cx} {e tg : Expr} {d : Nat} {p : Pos} {g : TG} {tk : TK} {it : Addr} {acc : Value} {body : Sem Unit} {fp : List Addr} {tn : Nat → Heap → Prop} {J : It} {Q : Hp → Prop} {σ0 : St} {R : Result → Shared → Prop} {s : Shared} {i0 m0 : Nat} {H1 : Hp} {W : Nat → Nat → Hp → Prop} {pins : List (Addr × Obj)}
    (hc : Y.calm = true) (hxe : Y.xe = fun _ _ => False) (hden : DenIs Y.prog Y.w Y.A e d acc Y.env) (eq : TurnIs e d tg p acc Y.env body) (hg : PG Y tg g) (hb : PTn Y body tk) (T : Turn Y.prog Y.w Y.K tg J fp it tn)
    (hfp : ∀ (H' : Hp), (∀ b ∈ fp, H' b = none) → ∀ b ∈ fp, FpOk Y pins H' b) (hW : compW σ0 J g tk Q W)
    (hR : ∀ s' H', Inv Y pins σ0 H' s' → Q H' → R (.ok .next) s')
    (I : Inv Y pins σ0 H1 s) (hst : tn i0 s.heap) (hfr : ∀ b ∈ fp, H1 b = none) (w : W i0 m0 H1) :
    codeAny (model Y.prog Y.w) Y.A (.compLoop e d (.ref it) acc Y.env) R s := by
  have nE : ∀ {M : Model} {A : Around} {env : Env} {E : Value → Shared → Prop} (x : Value) (s : Shared), Y.xe x s → notedBy M A env E x s := fun x s z => by rw [hxe] at z; exact z.elim
  refine codeAny_loop rfl (fun n s => ∃ i H2, Inv Y pins σ0 H2 s ∧ tn i s.heap ∧ (∀ b ∈ fp, H2 b = none) ∧ W i n H2) (fun n s hI => ?_) m0 ⟨i0, H1, I, hst, hfr, w⟩
  obtain ⟨i, H2, I2, st2, fr2, w2⟩ := hI
  rw [(hden (.ref it)).1, (hden (.ref it)).2.1]
  refine wpAny_noted ?_
  rw [eq]
  refine wpAny_bind (wpAny_standAt (wpAny_bind ?_))
  rcases hW i n H2 w2 with ⟨stop, q⟩ | ⟨go, step⟩
  · refine thn (T.done Y rfl rfl rfl hc i pins s σ0 H2 _ I2 (hfp H2 fr2) st2 stop) fun r s1 ⟨hr, I3⟩ => ?_
    subst hr
    exact wpAny_pure (hR s1 H2 I3 q)
  · refine thn (T.item Y rfl rfl rfl hc i pins s σ0 H2 _ I2 (hfp H2 fr2) st2 go) fun r s1 ⟨u, hr, h4⟩ => ?_
    subst hr
    refine wpAny_bind (thn h4 fun _ s5 ⟨x, H5, I5, r5, y5, st5, fr5⟩ => ?_)
    have I5' := I5.pinned (hfp H5 fr5) (T.obj _ _ st5)
    refine wpAny_bind (wpAny_mono (hg _ s5 σ0 H5 x u _ I5' r5 (step x H5 y5)) (fun _ s6 ⟨σ6, H6, I6, hw6, q6⟩ => ?_) nE)
    refine wpAny_bind (wpAny_mono (hb _ s6 σ6 H6 _ I6 q6) (fun _ s8 ⟨σ8, H8, I8, hw8, m', hm', w7⟩ => ?_) nE)
    refine wpAny_pure ⟨rfl, m', hm', i + 1, H8, ?_, ?_, fun b hb => ?_, w7⟩
    · have := hw6.trans hw8
      exact I8.unpinned.weak this.1.symm this.2
    · exact T.keep _ _ _ st5 fun b hb o e => (I8.pin (b, o) (List.mem_append_right _ (List.mem_append_right _ (mem_pinsAt hb e)))).1
    · obtain ⟨o, e, dd⟩ := T.obj _ _ st5 b hb
      exact (I8.pin (b, o) (List.mem_append_right _ (List.mem_append_right _ (mem_pinsAt hb e)))).2.1
theorem codeAny_compStart_gen {prog : Program} {w : World} {A : Around} {R : Result → Shared → Prop} {s : Shared} {e : Expr} {d : Nat} {g : Comprehension} {it acc : Value} {env : Env} (hden : DenIs prog w A e d acc env) (hcl : (clausesOf e)[d]? = some g) (ha : g.is_async = 0)
    (h0 : codeAny (model prog w) A (.compLoop e d it acc env) R s)
    (h : wpAny (model prog w) A (pyIter it) (fun it' s' => codeAny (model prog w) A (.compLoop e d it' acc env) R s') (notedBy (model prog w) A env fun x s' => R (.error x) s') s) :
    codeAny (model prog w) A (.compStart e d it acc env) R s := by
  refine codeAny_of_tree ?_
  obtain ⟨p, ep⟩ := (hden it).2.2.1
  rw [ep, (hden it).2.2.2]
  refine wpAny_notedAt ?_
  unfold compStart
  rw [hcl]
  have e1 : ((some g).elim false fun x => x.is_async != 0) = false := by show (g.is_async != 0) = false; rw [ha]; rfl
  rw [e1, if_neg Bool.false_ne_true]
  refine wpAny_bind (wpAny_askSetting ?_)
  refine wpAny_ite ?_
  split
  · exact wpAny_pure ⟨rfl, h0⟩
  · refine wpAny_bind (wpAny_rule (wpAny_bind (wpAny_standAt (wpAny_bind (wpAny_mono h (fun it' s' h' => wpAny_pure ⟨rfl, h'⟩) fun _ _ z => z)))))
theorem den_L {prog : Program} {w : World} {A : Around} {elt : Expr} {gens : List Comprehension} {scope : Scope} {pos : Pos} {d : Nat} {acc : Value} {env : Env} : DenIs prog w A (.ListComp elt gens scope pos) d acc env := fun it => ⟨rfl, rfl, ⟨_, rfl⟩, rfl⟩
theorem den_S {prog : Program} {w : World} {A : Around} {elt : Expr} {gens : List Comprehension} {scope : Scope} {pos : Pos} {d : Nat} {acc : Value} {env : Env} : DenIs prog w A (.SetComp elt gens scope pos) d acc env := fun it => ⟨rfl, rfl, ⟨_, rfl⟩, rfl⟩
theorem den_D {prog : Program} {w : World} {A : Around} {k v : Expr} {gens : List Comprehension} {scope : Scope} {pos : Pos} {d : Nat} {acc : Value} {env : Env} : DenIs prog w A (.DictComp k v gens scope pos) d acc env := fun it => ⟨rfl, rfl, ⟨_, rfl⟩, rfl⟩
/-! the texts of turns -/
def emitL (elt : Expr) (acc : Value) (env : Env) : Sem Unit := eval elt env >>= fun x => call (.builtin "list.append") [acc, x] >>= fun _ => pure ()
def emitS (elt : Expr) (acc : Value) (env : Env) : Sem Unit := eval elt env >>= fun v => standAt elt.pos >>= fun _ => call (.builtin "set.add") [acc, v] >>= fun _ => pure ()
def emitD (k v : Expr) (d : Addr) (env : Env) : Sem Unit := eval k env >>= fun kv => holding [kv] (eval v env) >>= fun vv => standAt { line := k.pos.line, col := k.pos.col, endLine := v.pos.endLine, endCol := v.pos.endCol } >>= fun _ => holding [kv, vv] (dictSet d kv vv)
def testB (c : Expr) (env : Env) (body : Sem Unit) : Sem Unit := PySem.isTrue c env (eval c env) >>= fun ok => if ok = true then body else pure ()
def nestB (e : Expr) (d : Nat) (iter : Expr) (acc : Value) (env : Env) : Sem Unit := eval iter env >>= fun x => standAt iter.pos >>= fun _ => foldedSetIterable iter env x >>= fun x => holding [x] (pyIter x) >>= fun it => runOwn (.compStart e d it acc env) env >>= fun _ => pure ()
theorem turn_L0 {elt tg iter c tg2 iter2 : Expr} {scope : Scope} {pos : Pos} {acc : Value} {env : Env} : TurnIs (.ListComp elt [⟨tg, iter, [], 0⟩] scope pos) 0 tg iter.pos acc env (emitL elt acc env) := fun it => by
  simp only [compTurn, testB, emitL, emitS, emitD, nestB, List.getElem?_cons_zero, List.getElem?_cons_succ, List.getElem?_nil, List.forIn_cons, List.forIn_nil, bind_assoc, pure_bind, if_true, bne_self_eq_false, Bool.false_eq_true, if_false, Nat.zero_add, Nat.reduceAdd]
  refine bind_congr fun _ => bind_congr fun r => ?_
  cases r with
  | none => rfl
  | some v =>
    refine bind_congr fun _ => bind_congr fun _ => ?_
    first
      | rfl
      | (refine bind_congr fun ok => ?_
         cases ok <;> simp)
      | simp
theorem turn_L1 {elt tg iter c tg2 iter2 : Expr} {scope : Scope} {pos : Pos} {acc : Value} {env : Env} : TurnIs (.ListComp elt [⟨tg, iter, [c], 0⟩] scope pos) 0 tg iter.pos acc env (testB c env (emitL elt acc env)) := fun it => by
  simp only [compTurn, testB, emitL, emitS, emitD, nestB, List.getElem?_cons_zero, List.getElem?_cons_succ, List.getElem?_nil, List.forIn_cons, List.forIn_nil, bind_assoc, pure_bind, if_true, bne_self_eq_false, Bool.false_eq_true, if_false, Nat.zero_add, Nat.reduceAdd]
  refine bind_congr fun _ => bind_congr fun r => ?_
  cases r with
  | none => rfl
  | some v =>
    refine bind_congr fun _ => bind_congr fun _ => ?_
    first
      | rfl
      | (refine bind_congr fun ok => ?_
         cases ok <;> simp)
      | simp
theorem turn_L2a00 {elt tg iter c c2 tg2 iter2 : Expr} {scope : Scope} {pos : Pos} {acc : Value} {env : Env} : TurnIs (.ListComp elt [⟨tg, iter, [], 0⟩, ⟨tg2, iter2, [], 0⟩] scope pos) 0 tg iter.pos acc env (nestB (.ListComp elt [⟨tg, iter, [], 0⟩, ⟨tg2, iter2, [], 0⟩] scope pos) 1 iter2 acc env) := fun it => by
  simp only [compTurn, testB, emitL, emitS, emitD, nestB, List.getElem?_cons_zero, List.getElem?_cons_succ, List.getElem?_nil, List.forIn_cons, List.forIn_nil, bind_assoc, pure_bind, if_true, bne_self_eq_false, Bool.false_eq_true, if_false, Nat.zero_add, Nat.reduceAdd]
  refine bind_congr fun _ => bind_congr fun r => ?_
  cases r with
  | none => rfl
  | some v =>
    refine bind_congr fun _ => bind_congr fun _ => ?_
    first
      | rfl
      | (refine bind_congr fun ok => ?_
         cases ok <;> simp)
      | simp
theorem turn_L2b00 {elt tg iter c c2 tg2 iter2 : Expr} {scope : Scope} {pos : Pos} {acc : Value} {env : Env} : TurnIs (.ListComp elt [⟨tg, iter, [], 0⟩, ⟨tg2, iter2, [], 0⟩] scope pos) 1 tg2 iter2.pos acc env (emitL elt acc env) := fun it => by
  simp only [compTurn, testB, emitL, emitS, emitD, nestB, List.getElem?_cons_zero, List.getElem?_cons_succ, List.getElem?_nil, List.forIn_cons, List.forIn_nil, bind_assoc, pure_bind, if_true, bne_self_eq_false, Bool.false_eq_true, if_false, Nat.zero_add, Nat.reduceAdd]
  refine bind_congr fun _ => bind_congr fun r => ?_
  cases r with
  | none => rfl
  | some v =>
    refine bind_congr fun _ => bind_congr fun _ => ?_
    first
      | rfl
      | (refine bind_congr fun ok => ?_
         cases ok <;> simp)
      | simp
theorem turn_L2a01 {elt tg iter c c2 tg2 iter2 : Expr} {scope : Scope} {pos : Pos} {acc : Value} {env : Env} : TurnIs (.ListComp elt [⟨tg, iter, [], 0⟩, ⟨tg2, iter2, [c2], 0⟩] scope pos) 0 tg iter.pos acc env (nestB (.ListComp elt [⟨tg, iter, [], 0⟩, ⟨tg2, iter2, [c2], 0⟩] scope pos) 1 iter2 acc env) := fun it => by
  simp only [compTurn, testB, emitL, emitS, emitD, nestB, List.getElem?_cons_zero, List.getElem?_cons_succ, List.getElem?_nil, List.forIn_cons, List.forIn_nil, bind_assoc, pure_bind, if_true, bne_self_eq_false, Bool.false_eq_true, if_false, Nat.zero_add, Nat.reduceAdd]
  refine bind_congr fun _ => bind_congr fun r => ?_
  cases r with
  | none => rfl
  | some v =>
    refine bind_congr fun _ => bind_congr fun _ => ?_
    first
      | rfl
      | (refine bind_congr fun ok => ?_
         cases ok <;> simp)
      | simp
theorem turn_L2b01 {elt tg iter c c2 tg2 iter2 : Expr} {scope : Scope} {pos : Pos} {acc : Value} {env : Env} : TurnIs (.ListComp elt [⟨tg, iter, [], 0⟩, ⟨tg2, iter2, [c2], 0⟩] scope pos) 1 tg2 iter2.pos acc env (testB c2 env (emitL elt acc env)) := fun it => by
  simp only [compTurn, testB, emitL, emitS, emitD, nestB, List.getElem?_cons_zero, List.getElem?_cons_succ, List.getElem?_nil, List.forIn_cons, List.forIn_nil, bind_assoc, pure_bind, if_true, bne_self_eq_false, Bool.false_eq_true, if_false, Nat.zero_add, Nat.reduceAdd]
  refine bind_congr fun _ => bind_congr fun r => ?_
  cases r with
  | none => rfl
  | some v =>
    refine bind_congr fun _ => bind_congr fun _ => ?_
    first
      | rfl
      | (refine bind_congr fun ok => ?_
         cases ok <;> simp)
      | simp
theorem turn_L2a10 {elt tg iter c c2 tg2 iter2 : Expr} {scope : Scope} {pos : Pos} {acc : Value} {env : Env} : TurnIs (.ListComp elt [⟨tg, iter, [c], 0⟩, ⟨tg2, iter2, [], 0⟩] scope pos) 0 tg iter.pos acc env (testB c env (nestB (.ListComp elt [⟨tg, iter, [c], 0⟩, ⟨tg2, iter2, [], 0⟩] scope pos) 1 iter2 acc env)) := fun it => by
  simp only [compTurn, testB, emitL, emitS, emitD, nestB, List.getElem?_cons_zero, List.getElem?_cons_succ, List.getElem?_nil, List.forIn_cons, List.forIn_nil, bind_assoc, pure_bind, if_true, bne_self_eq_false, Bool.false_eq_true, if_false, Nat.zero_add, Nat.reduceAdd]
  refine bind_congr fun _ => bind_congr fun r => ?_
  cases r with
  | none => rfl
  | some v =>
    refine bind_congr fun _ => bind_congr fun _ => ?_
    first
      | rfl
      | (refine bind_congr fun ok => ?_
         cases ok <;> simp)
      | simp
theorem turn_L2b10 {elt tg iter c c2 tg2 iter2 : Expr} {scope : Scope} {pos : Pos} {acc : Value} {env : Env} : TurnIs (.ListComp elt [⟨tg, iter, [c], 0⟩, ⟨tg2, iter2, [], 0⟩] scope pos) 1 tg2 iter2.pos acc env (emitL elt acc env) := fun it => by
  simp only [compTurn, testB, emitL, emitS, emitD, nestB, List.getElem?_cons_zero, List.getElem?_cons_succ, List.getElem?_nil, List.forIn_cons, List.forIn_nil, bind_assoc, pure_bind, if_true, bne_self_eq_false, Bool.false_eq_true, if_false, Nat.zero_add, Nat.reduceAdd]
  refine bind_congr fun _ => bind_congr fun r => ?_
  cases r with
  | none => rfl
  | some v =>
    refine bind_congr fun _ => bind_congr fun _ => ?_
    first
      | rfl
      | (refine bind_congr fun ok => ?_
         cases ok <;> simp)
      | simp
theorem turn_L2a11 {elt tg iter c c2 tg2 iter2 : Expr} {scope : Scope} {pos : Pos} {acc : Value} {env : Env} : TurnIs (.ListComp elt [⟨tg, iter, [c], 0⟩, ⟨tg2, iter2, [c2], 0⟩] scope pos) 0 tg iter.pos acc env (testB c env (nestB (.ListComp elt [⟨tg, iter, [c], 0⟩, ⟨tg2, iter2, [c2], 0⟩] scope pos) 1 iter2 acc env)) := fun it => by
  simp only [compTurn, testB, emitL, emitS, emitD, nestB, List.getElem?_cons_zero, List.getElem?_cons_succ, List.getElem?_nil, List.forIn_cons, List.forIn_nil, bind_assoc, pure_bind, if_true, bne_self_eq_false, Bool.false_eq_true, if_false, Nat.zero_add, Nat.reduceAdd]
  refine bind_congr fun _ => bind_congr fun r => ?_
  cases r with
  | none => rfl
  | some v =>
    refine bind_congr fun _ => bind_congr fun _ => ?_
    first
      | rfl
      | (refine bind_congr fun ok => ?_
         cases ok <;> simp)
      | simp
theorem turn_L2b11 {elt tg iter c c2 tg2 iter2 : Expr} {scope : Scope} {pos : Pos} {acc : Value} {env : Env} : TurnIs (.ListComp elt [⟨tg, iter, [c], 0⟩, ⟨tg2, iter2, [c2], 0⟩] scope pos) 1 tg2 iter2.pos acc env (testB c2 env (emitL elt acc env)) := fun it => by
  simp only [compTurn, testB, emitL, emitS, emitD, nestB, List.getElem?_cons_zero, List.getElem?_cons_succ, List.getElem?_nil, List.forIn_cons, List.forIn_nil, bind_assoc, pure_bind, if_true, bne_self_eq_false, Bool.false_eq_true, if_false, Nat.zero_add, Nat.reduceAdd]
  refine bind_congr fun _ => bind_congr fun r => ?_
  cases r with
  | none => rfl
  | some v =>
    refine bind_congr fun _ => bind_congr fun _ => ?_
    first
      | rfl
      | (refine bind_congr fun ok => ?_
         cases ok <;> simp)
      | simp
theorem turn_S0 {elt tg iter c tg2 iter2 : Expr} {scope : Scope} {pos : Pos} {acc : Value} {env : Env} : TurnIs (.SetComp elt [⟨tg, iter, [], 0⟩] scope pos) 0 tg iter.pos acc env (emitS elt acc env) := fun it => by
  simp only [compTurn, testB, emitL, emitS, emitD, nestB, List.getElem?_cons_zero, List.getElem?_cons_succ, List.getElem?_nil, List.forIn_cons, List.forIn_nil, bind_assoc, pure_bind, if_true, bne_self_eq_false, Bool.false_eq_true, if_false, Nat.zero_add, Nat.reduceAdd]
  refine bind_congr fun _ => bind_congr fun r => ?_
  cases r with
  | none => rfl
  | some v =>
    refine bind_congr fun _ => bind_congr fun _ => ?_
    first
      | rfl
      | (refine bind_congr fun ok => ?_
         cases ok <;> simp)
      | simp
theorem turn_S1 {elt tg iter c tg2 iter2 : Expr} {scope : Scope} {pos : Pos} {acc : Value} {env : Env} : TurnIs (.SetComp elt [⟨tg, iter, [c], 0⟩] scope pos) 0 tg iter.pos acc env (testB c env (emitS elt acc env)) := fun it => by
  simp only [compTurn, testB, emitL, emitS, emitD, nestB, List.getElem?_cons_zero, List.getElem?_cons_succ, List.getElem?_nil, List.forIn_cons, List.forIn_nil, bind_assoc, pure_bind, if_true, bne_self_eq_false, Bool.false_eq_true, if_false, Nat.zero_add, Nat.reduceAdd]
  refine bind_congr fun _ => bind_congr fun r => ?_
  cases r with
  | none => rfl
  | some v =>
    refine bind_congr fun _ => bind_congr fun _ => ?_
    first
      | rfl
      | (refine bind_congr fun ok => ?_
         cases ok <;> simp)
      | simp
theorem turn_S2a00 {elt tg iter c c2 tg2 iter2 : Expr} {scope : Scope} {pos : Pos} {acc : Value} {env : Env} : TurnIs (.SetComp elt [⟨tg, iter, [], 0⟩, ⟨tg2, iter2, [], 0⟩] scope pos) 0 tg iter.pos acc env (nestB (.SetComp elt [⟨tg, iter, [], 0⟩, ⟨tg2, iter2, [], 0⟩] scope pos) 1 iter2 acc env) := fun it => by
  simp only [compTurn, testB, emitL, emitS, emitD, nestB, List.getElem?_cons_zero, List.getElem?_cons_succ, List.getElem?_nil, List.forIn_cons, List.forIn_nil, bind_assoc, pure_bind, if_true, bne_self_eq_false, Bool.false_eq_true, if_false, Nat.zero_add, Nat.reduceAdd]
  refine bind_congr fun _ => bind_congr fun r => ?_
  cases r with
  | none => rfl
  | some v =>
    refine bind_congr fun _ => bind_congr fun _ => ?_
    first
      | rfl
      | (refine bind_congr fun ok => ?_
         cases ok <;> simp)
      | simp
theorem turn_S2b00 {elt tg iter c c2 tg2 iter2 : Expr} {scope : Scope} {pos : Pos} {acc : Value} {env : Env} : TurnIs (.SetComp elt [⟨tg, iter, [], 0⟩, ⟨tg2, iter2, [], 0⟩] scope pos) 1 tg2 iter2.pos acc env (emitS elt acc env) := fun it => by
  simp only [compTurn, testB, emitL, emitS, emitD, nestB, List.getElem?_cons_zero, List.getElem?_cons_succ, List.getElem?_nil, List.forIn_cons, List.forIn_nil, bind_assoc, pure_bind, if_true, bne_self_eq_false, Bool.false_eq_true, if_false, Nat.zero_add, Nat.reduceAdd]
  refine bind_congr fun _ => bind_congr fun r => ?_
  cases r with
  | none => rfl
  | some v =>
    refine bind_congr fun _ => bind_congr fun _ => ?_
    first
      | rfl
      | (refine bind_congr fun ok => ?_
         cases ok <;> simp)
      | simp
theorem turn_S2a01 {elt tg iter c c2 tg2 iter2 : Expr} {scope : Scope} {pos : Pos} {acc : Value} {env : Env} : TurnIs (.SetComp elt [⟨tg, iter, [], 0⟩, ⟨tg2, iter2, [c2], 0⟩] scope pos) 0 tg iter.pos acc env (nestB (.SetComp elt [⟨tg, iter, [], 0⟩, ⟨tg2, iter2, [c2], 0⟩] scope pos) 1 iter2 acc env) := fun it => by
  simp only [compTurn, testB, emitL, emitS, emitD, nestB, List.getElem?_cons_zero, List.getElem?_cons_succ, List.getElem?_nil, List.forIn_cons, List.forIn_nil, bind_assoc, pure_bind, if_true, bne_self_eq_false, Bool.false_eq_true, if_false, Nat.zero_add, Nat.reduceAdd]
  refine bind_congr fun _ => bind_congr fun r => ?_
  cases r with
  | none => rfl
  | some v =>
    refine bind_congr fun _ => bind_congr fun _ => ?_
    first
      | rfl
      | (refine bind_congr fun ok => ?_
         cases ok <;> simp)
      | simp
theorem turn_S2b01 {elt tg iter c c2 tg2 iter2 : Expr} {scope : Scope} {pos : Pos} {acc : Value} {env : Env} : TurnIs (.SetComp elt [⟨tg, iter, [], 0⟩, ⟨tg2, iter2, [c2], 0⟩] scope pos) 1 tg2 iter2.pos acc env (testB c2 env (emitS elt acc env)) := fun it => by
  simp only [compTurn, testB, emitL, emitS, emitD, nestB, List.getElem?_cons_zero, List.getElem?_cons_succ, List.getElem?_nil, List.forIn_cons, List.forIn_nil, bind_assoc, pure_bind, if_true, bne_self_eq_false, Bool.false_eq_true, if_false, Nat.zero_add, Nat.reduceAdd]
  refine bind_congr fun _ => bind_congr fun r => ?_
  cases r with
  | none => rfl
  | some v =>
    refine bind_congr fun _ => bind_congr fun _ => ?_
    first
      | rfl
      | (refine bind_congr fun ok => ?_
         cases ok <;> simp)
      | simp
theorem turn_S2a10 {elt tg iter c c2 tg2 iter2 : Expr} {scope : Scope} {pos : Pos} {acc : Value} {env : Env} : TurnIs (.SetComp elt [⟨tg, iter, [c], 0⟩, ⟨tg2, iter2, [], 0⟩] scope pos) 0 tg iter.pos acc env (testB c env (nestB (.SetComp elt [⟨tg, iter, [c], 0⟩, ⟨tg2, iter2, [], 0⟩] scope pos) 1 iter2 acc env)) := fun it => by
  simp only [compTurn, testB, emitL, emitS, emitD, nestB, List.getElem?_cons_zero, List.getElem?_cons_succ, List.getElem?_nil, List.forIn_cons, List.forIn_nil, bind_assoc, pure_bind, if_true, bne_self_eq_false, Bool.false_eq_true, if_false, Nat.zero_add, Nat.reduceAdd]
  refine bind_congr fun _ => bind_congr fun r => ?_
  cases r with
  | none => rfl
  | some v =>
    refine bind_congr fun _ => bind_congr fun _ => ?_
    first
      | rfl
      | (refine bind_congr fun ok => ?_
         cases ok <;> simp)
      | simp
theorem turn_S2b10 {elt tg iter c c2 tg2 iter2 : Expr} {scope : Scope} {pos : Pos} {acc : Value} {env : Env} : TurnIs (.SetComp elt [⟨tg, iter, [c], 0⟩, ⟨tg2, iter2, [], 0⟩] scope pos) 1 tg2 iter2.pos acc env (emitS elt acc env) := fun it => by
  simp only [compTurn, testB, emitL, emitS, emitD, nestB, List.getElem?_cons_zero, List.getElem?_cons_succ, List.getElem?_nil, List.forIn_cons, List.forIn_nil, bind_assoc, pure_bind, if_true, bne_self_eq_false, Bool.false_eq_true, if_false, Nat.zero_add, Nat.reduceAdd]
  refine bind_congr fun _ => bind_congr fun r => ?_
  cases r with
  | none => rfl
  | some v =>
    refine bind_congr fun _ => bind_congr fun _ => ?_
    first
      | rfl
      | (refine bind_congr fun ok => ?_
         cases ok <;> simp)
      | simp
theorem turn_S2a11 {elt tg iter c c2 tg2 iter2 : Expr} {scope : Scope} {pos : Pos} {acc : Value} {env : Env} : TurnIs (.SetComp elt [⟨tg, iter, [c], 0⟩, ⟨tg2, iter2, [c2], 0⟩] scope pos) 0 tg iter.pos acc env (testB c env (nestB (.SetComp elt [⟨tg, iter, [c], 0⟩, ⟨tg2, iter2, [c2], 0⟩] scope pos) 1 iter2 acc env)) := fun it => by
  simp only [compTurn, testB, emitL, emitS, emitD, nestB, List.getElem?_cons_zero, List.getElem?_cons_succ, List.getElem?_nil, List.forIn_cons, List.forIn_nil, bind_assoc, pure_bind, if_true, bne_self_eq_false, Bool.false_eq_true, if_false, Nat.zero_add, Nat.reduceAdd]
  refine bind_congr fun _ => bind_congr fun r => ?_
  cases r with
  | none => rfl
  | some v =>
    refine bind_congr fun _ => bind_congr fun _ => ?_
    first
      | rfl
      | (refine bind_congr fun ok => ?_
         cases ok <;> simp)
      | simp
theorem turn_S2b11 {elt tg iter c c2 tg2 iter2 : Expr} {scope : Scope} {pos : Pos} {acc : Value} {env : Env} : TurnIs (.SetComp elt [⟨tg, iter, [c], 0⟩, ⟨tg2, iter2, [c2], 0⟩] scope pos) 1 tg2 iter2.pos acc env (testB c2 env (emitS elt acc env)) := fun it => by
  simp only [compTurn, testB, emitL, emitS, emitD, nestB, List.getElem?_cons_zero, List.getElem?_cons_succ, List.getElem?_nil, List.forIn_cons, List.forIn_nil, bind_assoc, pure_bind, if_true, bne_self_eq_false, Bool.false_eq_true, if_false, Nat.zero_add, Nat.reduceAdd]
  refine bind_congr fun _ => bind_congr fun r => ?_
  cases r with
  | none => rfl
  | some v =>
    refine bind_congr fun _ => bind_congr fun _ => ?_
    first
      | rfl
      | (refine bind_congr fun ok => ?_
         cases ok <;> simp)
      | simp
theorem turn_D0 {elt tg iter c tg2 iter2 : Expr} {a : Addr} {scope : Scope} {pos : Pos} {env : Env} : TurnIs (.DictComp elt iter2 [⟨tg, iter, [], 0⟩] scope pos) 0 tg iter.pos (.ref a) env (emitD elt iter2 a env) := fun it => by
  simp only [compTurn, testB, emitL, emitS, emitD, nestB, List.getElem?_cons_zero, List.getElem?_cons_succ, List.getElem?_nil, List.forIn_cons, List.forIn_nil, bind_assoc, pure_bind, if_true, bne_self_eq_false, Bool.false_eq_true, if_false, Nat.zero_add, Nat.reduceAdd]
  refine bind_congr fun _ => bind_congr fun r => ?_
  cases r with
  | none => rfl
  | some v =>
    refine bind_congr fun _ => bind_congr fun _ => ?_
    first
      | rfl
      | (refine bind_congr fun ok => ?_
         cases ok <;> simp)
      | simp
theorem turn_D1 {elt tg iter c tg2 iter2 : Expr} {a : Addr} {scope : Scope} {pos : Pos} {env : Env} : TurnIs (.DictComp elt iter2 [⟨tg, iter, [c], 0⟩] scope pos) 0 tg iter.pos (.ref a) env (testB c env (emitD elt iter2 a env)) := fun it => by
  simp only [compTurn, testB, emitL, emitS, emitD, nestB, List.getElem?_cons_zero, List.getElem?_cons_succ, List.getElem?_nil, List.forIn_cons, List.forIn_nil, bind_assoc, pure_bind, if_true, bne_self_eq_false, Bool.false_eq_true, if_false, Nat.zero_add, Nat.reduceAdd]
  refine bind_congr fun _ => bind_congr fun r => ?_
  cases r with
  | none => rfl
  | some v =>
    refine bind_congr fun _ => bind_congr fun _ => ?_
    first
      | rfl
      | (refine bind_congr fun ok => ?_
         cases ok <;> simp)
      | simp
/-- readings of turns -/
def kApp (te : TE) (acc : Addr) : TK := fun σ H N => te σ H fun y H5 => ∃ ys, H5 acc = some (.lst ys) ∧ ys.length < sizeLine ∧ N (upd H5 acc (.lst (ys ++ [y])))
def kTest (tc : TT) (tk : TK) : TK := fun σ H N => tc σ H fun b H1 => if b = true then tk σ H1 N else N H1
def kNest (wi : TI) (g : TG) (tk : TK) : TK := fun σ H N => wi σ H fun J H1 => ∃ W : Nat → Nat → Hp → Prop, (∃ m, W 0 m H1) ∧ compW σ J g tk N W
section
variable {Y : Cx}
theorem pk_emitL {elt : Expr} {te : TE} {acc : Addr} (he : PE Y elt te) : PTn Y (emitL elt (.ref acc) Y.env) (kApp te acc) := by
  intro pins s σ H N I h
  refine wpAny_bind (thn (he pins s σ H _ I h) fun v s7 ⟨y, H7, I7, r7, ys, ha7, hlen, n⟩ => ?_)
  refine wpAny_bind (thn (mt_append (X := Y) pins s7 σ H7 (.ref acc) [y] (.ref acc) [v] (fun _ H8 => H8 = upd H7 acc (.lst (ys ++ [y]))) I7 rfl (.cons r7 .nil) ⟨acc, ys, y, rfl, rfl, ha7, hlen, rfl⟩) fun _ s8 ⟨_, H8, I8, _, e8⟩ => ?_)
  subst e8
  exact wpAny_pure ⟨σ, _, I8, Wk.refl _, n⟩
theorem pk_test {c : Expr} {tc : TT} {body : Sem Unit} {tk : TK} (ht : PT Y c tc) (hb : PTn Y body tk) : PTn Y (testB c Y.env body) (kTest tc tk) := by
  intro pins s σ H N I h
  refine wpAny_bind (thn (ht pins s σ H _ I h) fun b s1 ⟨H1, I1, q1⟩ => ?_)
  cases b with
  | true =>
    rw [if_pos rfl] at q1 ⊢
    exact hb pins s1 σ H1 N I1 q1
  | false =>
    rw [if_neg Bool.false_ne_true] at q1 ⊢
    exact wpAny_pure ⟨σ, H1, I1, Wk.refl _, q1⟩
theorem pk_nest {e tg2 iter2 : Expr} {p2 : Pos} {ifs2 : List Expr} {acc : Value} {wi : TI} {g2 : TG} {tk2 : TK} {body2 : Sem Unit} (hc : Y.calm = true) (hxe : Y.xe = fun _ _ => False) (hden : DenIs Y.prog Y.w Y.A e 1 acc Y.env) (hcl : (clausesOf e)[1]? = some ⟨tg2, iter2, ifs2, 0⟩)
    (hi : PI Y tg2 iter2 wi) (hs : ∀ x, foldedSetIterable iter2 Y.env x = pure x) (eq : TurnIs e 1 tg2 p2 acc Y.env body2) (hg : PG Y tg2 g2) (hb : PTn Y body2 tk2) :
    PTn Y (nestB e 1 iter2 acc Y.env) (kNest wi g2 tk2) := by
  intro pins s σ H N I h
  refine wpAny_bind (thn (hi pins s σ H _ I h) fun v s1 h1 => ?_)
  refine wpAny_bind (wpAny_standAt (wpAny_bind ?_))
  rw [hs]
  refine wpAny_pure (wpAny_bind (wpAny_holding (thn h1 fun itv s2 h2 => ?_)))
  obtain ⟨it, fp, tn, J, H2, e0, I2, T, st2, f2, W, ⟨m0, w0⟩, hW⟩ := h2
  subst e0
  refine wpAny_bind (wpAny_runOwn ?_)
  have loop : codeAny (model Y.prog Y.w) Y.A (.compLoop e 1 (.ref it) acc Y.env) (fun r s' => match r with
      | .ok f => wpAny (model Y.prog Y.w) Y.A (pure ()) (fun _ s' => ∃ σ' H', Inv Y pins σ' H' s' ∧ Wk σ σ' ∧ N H') Y.xe s'
      | .error x => cameBackBy (model Y.prog Y.w) Y.A Y.env Y.xe x s') s2 := by
    refine comp_loop (Y := Y) (pins := pins) (Q := N) hc hxe hden eq hg hb T (fun H' hn b hb => ?_) hW (fun s' H' I' q => wpAny_pure ⟨σ, H', I', Wk.refl _, q⟩) I2 st2 (fun b hb => (f2 b hb).1) w0
    obtain ⟨f0, f1, f3, f4, f5, f6⟩ := f2 b hb
    exact ⟨hn b hb, f1, f3, f4, f5, f6⟩
  exact codeAny_compStart_gen hden hcl rfl loop (T.self _ _ _ _ _ st2 loop)
end
/-- the whole: an iterator, then turns -/
def tComp (nt : Nat) (ci : List Nat) (wi : TI) (g : TG) (tk : Addr → TK) (o0 : HO) : TE := fun σ H Q => wi σ H fun J H1 => ∀ acc, H1 acc = none → ∃ W : Nat → Nat → Hp → Prop, (∃ m, W 0 m (upd H1 acc o0)) ∧ compW (capt nt ci σ) J g (tk acc) (fun H2 => Q (.ref acc) H2) W
section
variable {X : Cx} {scope : Scope} {cl : List (Str × Addr)} {N' : List Str} {nt : Nat} {ci : List Nat} {pins : List (Addr × Obj)} {σ : St} {H : Hp} {s : Shared}
theorem blk_startO {o0 : HO} (B : BlkOk X scope cl N' nt ci) (I : Inv X pins σ H s) {fp : List Addr} (hf : ∀ b ∈ fp, FpOk X pins H b) (ho : ∀ b ∈ fp, ∃ o, s.heap.get? b = some o) {C acc : Addr} {h1 : Heap} {tk : Nat}
    (hacc : acc = s.heap.objs.size) (hC : C = s.heap.objs.size + 1) (k : ∀ b u, s.heap.get? b = some u → h1.get? b = some u) (ns : h1.Ns C fun _ => none) (ha : ObjOk X.prog X.w (upd H acc o0) h1 acc o0) :
    Inv (blk X N' scope cl s H C fp) [] (capt nt ci σ) (upd H acc o0) { s with heap := h1, toks := tk } := by
  have hn : H acc = none := I.hok.fresh (by rw [hacc]; exact Nat.le_refl _)
  have hnC : H C = none := I.hok.fresh (by rw [hC]; exact Nat.le_succ _)
  have cellLt : ∀ x c, cl.lookup x = some c → c < s.heap.objs.size := fun x c e => by
    obtain ⟨v, q⟩ := I.cell x c (B.sub x c e)
    exact q.lt
  refine ⟨⟨I.ok.mod, B.kind, I.ok.glob, I.ok.blt, ?_, fun x y c e1 e2 => I.ok.inj x y c (B.sub _ _ e1) (B.sub _ _ e2), fun x hx => B.has x hx, fun x c (z : false = true) => Bool.noConfusion z, fun hc => I.ok.hd hc, I.ok.frames, .inl rfl, fun b hb => ?_, I.bs, ?_, fun b o e hb => ?_, fun b hb => ?_, I.stack, fun b hb => I.stkFree b hb⟩,
    rfl, I.bare, Un.laid (a := acc) (o := o0) k (by rw [hacc]; exact Nat.le_refl _) hn, ⟨_, ns, fun i x v e1 e2 e3 => ?_⟩, fun x c e => ?_, ?_, fun x c e => ?_, fun p hp => absurd (show p ∈ ([] : List (Addr × Obj)) from hp) (by simp), I.hok.laid k (by rw [hacc]; exact Nat.le_refl _) ha, ?_⟩
  · show s.heap.objs.size ≤ C
    rw [hC]; exact Nat.le_succ _
  · obtain ⟨f0, f1, f2, f3, f4, f5⟩ := hf b hb
    obtain ⟨o, e⟩ := ho b hb
    refine ⟨?_, fun x c e' => f4 x c (B.sub x c e')⟩
    show b ≠ C
    rw [hC]
    exact Nat.ne_of_lt (Nat.lt_succ_of_lt (Heap.lt_size e))
  · exact Nat.le_trans I.ok.bsz I.sz
  · obtain ⟨f0, f1, f2, f3, f4, f5⟩ := hf b hb
    rcases f3 with z | z
    · exact I.ok.noex b o e z
    · exact absurd (Nat.lt_of_lt_of_le (Heap.lt_size e) (Nat.le_trans I.ok.bsz z)) (Nat.lt_irrefl _)
  · intro z
    obtain ⟨f0, f1, f2, f3, f4, f5⟩ := hf b hb
    rcases List.mem_cons.mp (I.stkSub b z) with y | y
    · exact f1 y
    · exact f2 y
  · -- the names
    obtain ⟨m, hm, hl⟩ := I.loc
    unfold capt at e2
    by_cases hi : i < nt
    · rw [List.getElem?_append_left (by simpa using hi), List.getElem?_replicate] at e2
      split at e2 <;> cases e2
    · rw [List.getElem?_append_right (by simpa using hi), List.length_replicate, List.getElem?_map] at e2
      cases q : ci[i - nt]? with
      | none => rw [q] at e2; cases e2
      | some j =>
        rw [q] at e2
        have e2' : (σ[j]?).join = some v := Option.some.inj e2
        obtain ⟨y, a1, a2, a3, a4⟩ := B.cap _ j q
        have ei : nt + (i - nt) = i := by omega
        rw [ei, show N'[i]? = some x from e1] at a1
        cases a1
        have e2'' : σ[j]? = some (some v) := by
          cases z : σ[j]? with
          | none => rw [z] at e2'; cases e2'
          | some w => rw [z] at e2'; exact congrArg some e2'
        obtain ⟨u, r, l⟩ := hl j x v a2 e2'' (.inr (.inl a3))
        refine ⟨u, r, .inr ⟨a4, ?_⟩⟩
        rcases l with ⟨kk, _⟩ | ⟨_, c, c1, c2⟩
        · have kk' : X.env.scope.names.lookup x = some .local := kk
          rw [a3] at kk'; cases kk'
        · obtain ⟨c', ec⟩ := B.has x a4
          have := B.sub x c' ec
          rw [c1] at this; cases this
          exact ⟨c, ec, let ⟨o, e, d⟩ := c2; ⟨o, k _ _ e, d⟩⟩
  · obtain ⟨v, q⟩ := I.cell x c (B.sub x c e)
    exact ⟨v, let ⟨o, e, d⟩ := q; ⟨o, k _ _ e, d⟩⟩
  · show upd H acc o0 C = none
    rw [upd_ne (by rw [hacc, hC]; exact Nat.succ_ne_self _)]; exact hnC
  · have lt := cellLt x c e
    rw [upd_ne (by rw [hacc]; exact Nat.ne_of_lt lt)]
    exact I.freeC x c (B.sub x c e)
  · show (capt nt ci σ).length = N'.length
    unfold capt
    rw [List.length_append, List.length_replicate, List.length_map, B.len]
/-- what is left when the loop is through: the context around, the block's frame at C still there -/
theorem cg_core {e : Expr} {gs : List Comprehension} {ifs : List Expr} {body : Addr → Env → Sem Unit} {newAcc : Sem Value} {ob : Obj} {o0 : HO} {p0 : Pos} {tk : Addr → TK} {tg iter : Expr} {pos' : Pos} {wi : TI} {g : TG} {use : Option (Value → Sem Unit)} {Q : VK} {Qf : Value → Shared → Prop} (B : BlkOk X scope cl N' nt ci) (hc : X.calm = true) (hi : PI X tg iter wi)
    (hg : ∀ s H C ex, PG (blk X N' scope cl s H C ex) tg g) (hcl : clausesOf e = ⟨tg, iter, ifs, 0⟩ :: gs) (hden : ∀ acc env, DenIs X.prog X.w X.A e 0 acc env) (htn : ∀ a env, TurnIs e 0 tg p0 (.ref a) env (body a env))
    (hb : ∀ s H C ex a, PTn (blk X N' scope cl s H C ex) (body a (blk X N' scope cl s H C ex).env) (tk a)) (hnew : ∀ {M : Model} {A : Around} {E : Value → Shared → Prop} {s : Shared} {Q : Value → Shared → Prop}, Q (.ref s.heap.objs.size) { s with heap := s.heap.push ob } → wpAny M A newAcc Q E s)
    (hfree : ob.isFreed = false) (hobj : ∀ (H : Hp) (h : Heap) (a : Addr), h.get? a = some ob → sysModules < a → ObjOk X.prog X.w (upd H a o0) h a o0) (hs : ∀ x, foldedSetIterable iter X.env x = pure x) (I : Inv X pins σ H s) (h : tComp nt ci wi g tk o0 σ H Q)
    (fin : ∀ (acc C : Addr) (s' : Shared) (H' : Hp), Inv X pins σ H' s' → Q (.ref acc) H' → (∃ m, s'.heap.Ns C m) → FpOk X pins H' C → (∃ o, s'.heap.get? C = some o ∧ ∀ v, o.data ≠ .cell v) → compPost (model X.prog X.w) X.A X.xe use Qf (.ref acc) C (.ok .next) s') :
    wpAny (model X.prog X.w) X.A (comprehension e scope X.env pos' newAcc false (eval iter X.env) use) Qf X.xe s := by
  refine wpAny_comprehension_free (use := use) hcl hs B.clos B.kind B.names (thn (hi pins s σ H _ I h) fun v s1 h1 => thn h1 fun itv s2 h2 => ?_)
  obtain ⟨it, fp, tn, J, H2, e, I2, T, st2, f2, q2⟩ := h2
  subst e
  have hacc : H2 s2.heap.objs.size = none := I2.hok.fresh (Nat.le_refl _)
  obtain ⟨W, ⟨m0, w0⟩, hW⟩ := q2 s2.heap.objs.size hacc
  refine hnew (wpAny_newFunctionEnv B.cell (by intro y hy; simp at hy) (fun h₁ hns₁ hsb₁ => ?_) B.kind)
  dsimp only at hns₁ hsb₁ ⊢
  have hCs : (s2.heap.push ob).objs.size = s2.heap.objs.size + 1 := Heap.size_push ..
  have k1 : ∀ b u, s2.heap.get? b = some u → h₁.get? b = some u := fun b u e => hsb₁.extBut b u (by rw [hCs]; exact Nat.ne_of_lt (Nat.lt_succ_of_lt (Heap.lt_size e))) (Heap.get?_push_of_some _ (Heap.get?_push_of_some _ e))
  have a1 : h₁.get? s2.heap.objs.size = some ob := hsb₁.extBut _ _ (by rw [hCs]; exact Nat.ne_of_lt (Nat.lt_succ_self _)) (Heap.get?_push_of_some _ (Heap.get?_push_size _ hfree))
  rw [hCs] at hns₁ ⊢
  have hsys : sysModules < s2.heap.objs.size := I2.big
  have I3 := blk_startO (o0 := o0) (tk := s2.toks + ([] : List (Str × Value)).length) B I2 f2 (fun b hb => let ⟨o, e, _⟩ := T.obj _ _ st2 b hb; ⟨o, e⟩) rfl rfl k1 (by simpa using hns₁) (hobj _ _ _ a1 hsys)
  have hfpB : ∀ (H' : Hp), (∀ b ∈ fp, H' b = none) → ∀ b ∈ fp, FpOk (blk X N' scope cl s2 H2 (s2.heap.objs.size + 1) fp) [] H' b := fun H' hn b hb => by
    obtain ⟨f0, f1, f3, f4, f5, f6⟩ := f2 b hb
    obtain ⟨o, e, _⟩ := T.obj _ _ st2 b hb
    refine ⟨hn b hb, ?_, fun z => ?_, .inl hb, fun x c e' => f5 x c (B.sub x c e'), fun p hp => absurd (show p ∈ ([] : List (Addr × Obj)) from hp) (by simp)⟩
    · exact Nat.ne_of_lt (Nat.lt_succ_of_lt (Heap.lt_size e))
    · rcases List.mem_cons.mp (I2.stkSub b z) with y | y
      · exact f1 y
      · exact f3 y
  have hfr3 : ∀ b ∈ fp, upd H2 s2.heap.objs.size o0 b = none := fun b hb => by
    obtain ⟨o, e, _⟩ := T.obj _ _ st2 b hb
    rw [upd_ne (Nat.ne_of_lt (Heap.lt_size e))]; exact (f2 b hb).1
  have st3 : tn 0 h₁ := T.keep _ _ _ st2 fun b _ o e => k1 b o e
  have loop : codeAny (model X.prog X.w) X.A (.compLoop e 0 (.ref it) (.ref s2.heap.objs.size) (compEnvC scope cl (s2.heap.objs.size + 1) X.env))
      (compPost (model X.prog X.w) X.A X.xe use Qf (.ref s2.heap.objs.size) (s2.heap.objs.size + 1)) { s2 with heap := h₁, toks := s2.toks + ([] : List (Str × Value)).length } := by
    refine comp_loop (Y := blk X N' scope cl s2 H2 (s2.heap.objs.size + 1) fp) (Q := fun H' => Q (.ref s2.heap.objs.size) H') hc rfl (hden _ _) (htn _ _) (hg _ _ _ _) (hb _ _ _ _ _) T hfpB hW (fun s' H' I' q => ?_) I3 st3 hfr3 w0
    have un := I'.base
    have ns := I'.loc
    have fC : H' (s2.heap.objs.size + 1) = none := I'.free
    have I4 : Inv X pins σ H' s' := I2.call' I'.os un I'.hok I'.bare fun b hb => by
      obtain ⟨f0, f1, f3, f4, f5, f6⟩ := f2 b hb
      exact ⟨f4, f1, f5, f6⟩
    obtain ⟨m, hm, _⟩ := ns
    have hm' : s'.heap.Ns (s2.heap.objs.size + 1) m := hm
    refine fin _ _ s' H' I4 q ⟨m, hm'⟩ (I2.fpOk (Nat.le_succ _) fC) ?_
    obtain ⟨o, es, ep, e, d, _⟩ := hm'
    exact ⟨o, e, fun v z => by rw [d] at z; cases z⟩
  exact codeAny_compStart_gen (hden _ _) (by rw [hcl]; rfl) rfl loop (T.self _ _ _ _ _ st3 loop)
theorem lst_obj {P : Program} {w : World} (H : Hp) (h : Heap) (a : Addr) (e : h.get? a = some { cls := .type "list", dict := none, data := .seq ([] : List Value).toArray }) (_ : sysModules < a) : ObjOk P w (upd H a (.lst [])) h a (.lst []) := ⟨Nat.zero_le _, [], 0, .nil, e⟩
theorem pe_lcG {elt tg iter : Expr} {ifs : List Expr} {gs : List Comprehension} {pos p0 : Pos} {wi : TI} {g : TG} {tk : Addr → TK} {body : Addr → Env → Sem Unit} (B : X.Ok → BlkOk X scope cl N' nt ci) (hc : X.calm = true) (hi : PI X tg iter wi)
    (hg : ∀ s H C ex, PG (blk X N' scope cl s H C ex) tg g) (htn : ∀ a env, TurnIs (.ListComp elt (⟨tg, iter, ifs, 0⟩ :: gs) scope pos) 0 tg p0 (.ref a) env (body a env))
    (hb : ∀ s H C ex a, PTn (blk X N' scope cl s H C ex) (body a (blk X N' scope cl s H C ex).env) (tk a)) (hs : ∀ x, foldedSetIterable iter X.env x = pure x := by intro _; rfl) :
    PE X (.ListComp elt (⟨tg, iter, ifs, 0⟩ :: gs) scope pos) (tComp nt ci wi g tk (.lst [])) := by
  intro pins s σ H Q I h
  rw [eval_ListComp]
  refine cg_core (B I.ok) hc hi hg rfl (fun _ _ => den_L) htn hb (fun h => wpAny_newObj_type h) rfl lst_obj hs I h fun acc C s' H' I' q hm hf ho => ?_
  obtain ⟨m, hm⟩ := hm
  obtain ⟨f0, f1, f2, f3, f4, f5⟩ := hf
  exact ⟨m, hm, fun h' sb => ⟨.ref acc, H', I'.turned (t' := s'.toks) (fun b o hb e => (sb.2 b hb).trans e) f0 f1 f3 f4 f5, rfl, q⟩⟩
theorem ps_setLCG {i : Nat} {x : Str} {elt tg iter : Expr} {ifs : List Expr} {gs : List Comprehension} {pos spos pos' p0 : Pos} {wi : TI} {g : TG} {tk : Addr → TK} {body : Addr → Env → Sem Unit} (hN : X.N.Nodup) (hi : X.N[i]? = some x) (hx : Loc X.env.scope x) (B : X.Ok → BlkOk X scope cl N' nt ci) (hc : X.calm = true) (hit : PI X tg iter wi)
    (hg : ∀ s H C ex, PG (blk X N' scope cl s H C ex) tg g) (htn : ∀ a env, TurnIs (.ListComp elt (⟨tg, iter, ifs, 0⟩ :: gs) scope pos) 0 tg p0 (.ref a) env (body a env))
    (hb : ∀ s H C ex a, PTn (blk X N' scope cl s H C ex) (body a (blk X N' scope cl s H C ex).env) (tk a)) (hsw : swapsWith (.ListComp elt (⟨tg, iter, ifs, 0⟩ :: gs) scope pos) (some (.Name x pos')) spos.line X.env = pure true)
    (hs : ∀ x, foldedSetIterable iter X.env x = pure x := by intro _; rfl) (hf : X.fn x = true ∨ X.env.scope.names.lookup x = some .local := by first | exact .inl rfl | exact .inr rfl | assumption) :
    PS X (.Assign [.Name x pos'] (.ListComp elt (⟨tg, iter, ifs, 0⟩ :: gs) scope pos) spos) (tAsg (tComp nt ci wi g tk (.lst [])) (gName i)) := by
  intro pins s σ H D I h
  rw [exec_Assign_Name_used _ _ _ _ hsw]
  refine wpAny_bind (wpAny_standAt (wpAny_bind ?_))
  rw [arm_evalThenUse_ListComp]
  refine wpAny_bind (cg_core (B I.ok) hc hit hg rfl (fun _ _ => den_L) htn hb (fun h => wpAny_newObj_type h) rfl lst_obj hs I h fun acc C s' H' I' q hm hfC ho => ?_)
  obtain ⟨f0, f1, f2, f3, f4, f5⟩ := hfC
  obtain ⟨m, hm⟩ := hm
  obtain ⟨o, e, d⟩ := ho
  have Ip : Inv X (pins ++ [(C, o)]) σ H' s' := I'.pins_of fun p hp => (List.mem_append.mp hp).elim (fun z => I'.pin p (List.mem_append_right _ z)) fun z => by
    have e' : p = (C, o) := by simpa using z
    subst e'
    exact ⟨e, f0, f1, f2, d⟩
  refine wpAny_assign_Name (store_ok Ip hN hi hx (show RelV (.ref acc) (Value.ref acc) from rfl) (fun s2 I2 => ?_) hf)
  have e2 := (I2.pin (C, o) (List.mem_append_right _ (List.mem_append_right _ (by simp)))).1
  obtain ⟨o', es, ep, h1, h2, h3⟩ := hm
  rw [e] at h1; cases h1
  refine ⟨m, ⟨o, es, ep, e2, h2, h3⟩, fun h' sb => wpAny_pure (wpAny_pure ?_)⟩
  have I3 : Inv X pins (σ.set i (some (.ref acc))) H' s2 := I2.unpinned
  exact ⟨_, H', I3.turned (t' := s2.toks) (fun b o hb e => (sb.2 b hb).trans e) f0 f1 f3 f4 f5, q⟩
end
end L2

set_option Elab.async false
set_option linter.all false
set_option maxRecDepth 100000
set_option maxHeartbeats 2000000
/-! DICT COMPREHENSIONS, with flat keys or with tuples of flat ones -/
namespace L2
open PySem PySem.Spec PyProof.Rows
section
variable {X : Cx} {pins : List (Addr × Obj)} {σ : St} {H : Hp} {s : Shared} {a : Addr} {y v : V} {u r : Value} {A : Around} {E : Value → Shared → Prop}
theorem d_dictSet {H' : Hp} {Q : Unit → Shared → Prop} (hu : A.units < cLine) (I : Inv X pins σ H s) (g : DPut H a y v H') (ry : RelV y u) (rv : RelV v r) (h : ∀ s', Inv X pins σ H' s' → Q () s') :
    wpAny (model X.prog X.w) A (dictSet a u r) Q E s := by
  rcases g with ⟨kvs, k, e, ey, l, eH⟩ | ⟨kvs, k, b, e, ey, eb, l, eH⟩
  · subst ey eH
    obtain ⟨z, hd, vs, rel, dd⟩ := dk_of I.hok e
    have hz : vs.length ≤ sizeLine := by rw [← rel.length]; exact z
    have hl : (putK kvs k v).length ≤ sizeLine := by have := length_putK kvs k v; omega
    refine wpAny_dictSet_pairs (hsz := hz) (kV_is ry) dd fun h' dd' hs => h _ ?_
    have he : ∃ q, h'.get? a = some q := let ⟨q, _, _, hq, _⟩ := dd'; ⟨q, hq⟩
    exact d_write I (by rw [e]; exact True.intro) hs he (dk_new hl hd (rel.put k rv) dd')
  · subst ey eH
    cases (show u = Value.ref b from ry)
    obtain ⟨z, hd, xs, rel, dd⟩ := dt_of I.hok e
    have hz : xs.length ≤ sizeLine := by rw [← Paired.length rel]; exact z
    have hl : (putK kvs k v).length ≤ sizeLine := by have := length_putK kvs k v; omega
    refine wpAny_dictSet_heap (hsz := hz) (knd := tupleKind (mixKind X.prog X.w)) hu (key_of I.hok eb) dd fun h' dd' hs => h _ ?_
    obtain ⟨q, es, ep, hq, h2, h3, h4, _, h5⟩ := dd'
    refine d_write I (by rw [e]; exact True.intro) hs ⟨q, hq⟩ ⟨hl, hd, _, (rel.put k eb rv).keeps fun c ys ec => ?_, q, es, ep, hq, h2, h3, h4, h5⟩
    rw [upd_ne (ne_of ec e (fun z => nomatch z))]
    exact ec
end
/-- the reading of a turn of a dict comprehension -/
def kPut (tk tv : TE) (acc : Addr) : TK := fun σ H N => tk σ H fun y H1 => tv σ H1 fun x H2 => ∃ H3, DPut H2 acc y x H3 ∧ N H3
section
variable {Y : Cx}
theorem pk_emitD {k v : Expr} {tk tv : TE} {acc : Addr} (hu : Y.A.units < cLine) (hk : PE Y k tk) (hv : PE Y v tv) : PTn Y (emitD k v acc Y.env) (kPut tk tv acc) := by
  intro pins s σ H N I h
  refine wpAny_bind (thn (hk pins s σ H _ I h) fun kv s1 ⟨y, H1, I1, r1, h1⟩ => ?_)
  refine wpAny_bind (wpAny_holding (thn (hv pins s1 σ H1 _ I1 h1) fun vv s2 ⟨x, H2, I2, r2, H3, g, n⟩ => ?_))
  refine wpAny_bind (wpAny_standAt (wpAny_holding ?_))
  exact d_dictSet hu I2 g r1 r2 fun s' I' => ⟨σ, _, I', Wk.refl _, n⟩
end
section
variable {X : Cx} {scope : Scope} {cl : List (Str × Addr)} {N' : List Str} {nt : Nat} {ci : List Nat} {pins : List (Addr × Obj)} {σ : St} {H : Hp} {s : Shared}
theorem dT_obj {P : Program} {w : World} (H : Hp) (h : Heap) (a : Addr) (e : h.get? a = some { cls := .type "dict", dict := none, data := .dict #[] }) (hb : sysModules < a) : ObjOk P w (upd H a (.dT [])) h a (.dT []) :=
  ⟨Nat.zero_le _, beq_eq_false_iff_ne.mpr (Ne.symm (Nat.ne_of_lt hb)), [], .nil, _, #[], 0, e, ⟨rfl, rfl, rfl⟩, rfl, rfl, List.nodup_nil⟩
theorem pe_dc {ek ev tg iter : Expr} {ifs : List Expr} {gs : List Comprehension} {pos p0 : Pos} {wi : TI} {g : TG} {tk : Addr → TK} {body : Addr → Env → Sem Unit} (B : X.Ok → BlkOk X scope cl N' nt ci) (hc : X.calm = true) (hi : PI X tg iter wi)
    (hg : ∀ s H C ex, PG (blk X N' scope cl s H C ex) tg g) (htn : ∀ a env, TurnIs (.DictComp ek ev (⟨tg, iter, ifs, 0⟩ :: gs) scope pos) 0 tg p0 (.ref a) env (body a env))
    (hb : ∀ s H C ex a, PTn (blk X N' scope cl s H C ex) (body a (blk X N' scope cl s H C ex).env) (tk a)) (hs : ∀ x, foldedSetIterable iter X.env x = pure x := by intro _; rfl) :
    PE X (.DictComp ek ev (⟨tg, iter, ifs, 0⟩ :: gs) scope pos) (tComp nt ci wi g tk (.dT [])) := by
  intro pins s σ H Q I h
  rw [arm_eval_DictComp]
  refine cg_core (B I.ok) hc hi hg rfl (fun _ _ => den_D) htn hb (fun h => wpAny_newObj_type h) rfl dT_obj hs I h fun acc C s' H' I' q hm hf ho => ?_
  obtain ⟨m, hm⟩ := hm
  obtain ⟨f0, f1, f2, f3, f4, f5⟩ := hf
  exact ⟨m, hm, fun h' sb => ⟨.ref acc, H', I'.turned (t' := s'.toks) (fun b o hb e => (sb.2 b hb).trans e) f0 f1 f3 f4 f5, rfl, q⟩⟩
theorem ps_setDC {i : Nat} {x : Str} {ek ev tg iter : Expr} {ifs : List Expr} {gs : List Comprehension} {pos spos pos' p0 : Pos} {wi : TI} {g : TG} {tk : Addr → TK} {body : Addr → Env → Sem Unit} (hN : X.N.Nodup) (hi : X.N[i]? = some x) (hx : Loc X.env.scope x) (B : X.Ok → BlkOk X scope cl N' nt ci) (hc : X.calm = true) (hit : PI X tg iter wi)
    (hg : ∀ s H C ex, PG (blk X N' scope cl s H C ex) tg g) (htn : ∀ a env, TurnIs (.DictComp ek ev (⟨tg, iter, ifs, 0⟩ :: gs) scope pos) 0 tg p0 (.ref a) env (body a env))
    (hb : ∀ s H C ex a, PTn (blk X N' scope cl s H C ex) (body a (blk X N' scope cl s H C ex).env) (tk a)) (hsw : swapsWith (.DictComp ek ev (⟨tg, iter, ifs, 0⟩ :: gs) scope pos) (some (.Name x pos')) spos.line X.env = pure true)
    (hs : ∀ x, foldedSetIterable iter X.env x = pure x := by intro _; rfl) (hf : X.fn x = true ∨ X.env.scope.names.lookup x = some .local := by first | exact .inl rfl | exact .inr rfl | assumption) :
    PS X (.Assign [.Name x pos'] (.DictComp ek ev (⟨tg, iter, ifs, 0⟩ :: gs) scope pos) spos) (tAsg (tComp nt ci wi g tk (.dT [])) (gName i)) := by
  intro pins s σ H D I h
  rw [exec_Assign_Name_used _ _ _ _ hsw]
  refine wpAny_bind (wpAny_standAt (wpAny_bind ?_))
  rw [arm_evalThenUse_DictComp]
  refine wpAny_bind (cg_core (B I.ok) hc hit hg rfl (fun _ _ => den_D) htn hb (fun h => wpAny_newObj_type h) rfl dT_obj hs I h fun acc C s' H' I' q hm hfC ho => ?_)
  obtain ⟨f0, f1, f2, f3, f4, f5⟩ := hfC
  obtain ⟨m, hm⟩ := hm
  obtain ⟨o, e, d⟩ := ho
  have Ip : Inv X (pins ++ [(C, o)]) σ H' s' := I'.pins_of fun p hp => (List.mem_append.mp hp).elim (fun z => I'.pin p (List.mem_append_right _ z)) fun z => by
    have e' : p = (C, o) := by simpa using z
    subst e'
    exact ⟨e, f0, f1, f2, d⟩
  refine wpAny_assign_Name (store_ok Ip hN hi hx (show RelV (.ref acc) (Value.ref acc) from rfl) (fun s2 I2 => ?_) hf)
  have e2 := (I2.pin (C, o) (List.mem_append_right _ (List.mem_append_right _ (by simp)))).1
  obtain ⟨o', es, ep, h1, h2, h3⟩ := hm
  rw [e] at h1; cases h1
  refine ⟨m, ⟨o, es, ep, e2, h2, h3⟩, fun h' sb => wpAny_pure (wpAny_pure ?_)⟩
  have I3 : Inv X pins (σ.set i (some (.ref acc))) H' s2 := I2.unpinned
  exact ⟨_, H', I3.turned (t' := s2.toks) (fun b o hb e => (sb.2 b hb).trans e) f0 f1 f3 f4 f5, q⟩
end
/-- turns over a list that stays -/
theorem comp_list {K : PySem.W.Frag} {a : Addr} {xs : List V} {σ0 : St} {g : TG} {tk : TK} {Q : Hp → Prop} {H : Hp} (Pv : Nat → Hp → Prop) (h0 : Pv 0 H) (hl : ∀ i H, i ≤ xs.length → Pv i H → SqL K H a xs)
    (hs : ∀ i x H (N : Hp → Prop), xs[i]? = some x → Pv i H → (∀ H', Pv (i + 1) H' → N H') → g x σ0 H fun σ4 H4 => Wk σ0 σ4 ∧ tk σ4 H4 N) (hd : ∀ H, Pv xs.length H → Q H) :
    ∃ W : Nat → Nat → Hp → Prop, (∃ m, W 0 m H) ∧ compW σ0 (Itl K a) g tk Q W := by
  refine ⟨fun i m H => m = xs.length - i ∧ i ≤ xs.length ∧ Pv i H, ⟨xs.length, by simp, Nat.zero_le _, h0⟩, ?_⟩
  rintro i m H ⟨rfl, hi, p⟩
  have q := hl i H hi p
  by_cases hlt : i < xs.length
  · refine .inr ⟨⟨xs, xs[i], q, by simp [hlt]⟩, fun x H' y => ?_⟩
    obtain ⟨e, y⟩ := y
    subst e
    exact hs i x H' _ (y xs q) p fun H5 p5 => ⟨xs.length - (i + 1), by omega, rfl, hlt, p5⟩
  · have e : i = xs.length := by omega
    subst e
    exact .inl ⟨⟨xs, q, Nat.le_refl _⟩, hd _ p⟩
theorem comp_tup {K : PySem.W.Frag} {a : Addr} {xs : List V} {σ0 : St} {g : TG} {tk : TK} {Q : Hp → Prop} {H : Hp} (Pv : Nat → Hp → Prop) (h0 : Pv 0 H) (hl : ∀ i H, i ≤ xs.length → Pv i H → SqT K H a xs)
    (hs : ∀ i x H (N : Hp → Prop), xs[i]? = some x → Pv i H → (∀ H', Pv (i + 1) H' → N H') → g x σ0 H fun σ4 H4 => Wk σ0 σ4 ∧ tk σ4 H4 N) (hd : ∀ H, Pv xs.length H → Q H) :
    ∃ W : Nat → Nat → Hp → Prop, (∃ m, W 0 m H) ∧ compW σ0 (Itt K a) g tk Q W := by
  refine ⟨fun i m H => m = xs.length - i ∧ i ≤ xs.length ∧ Pv i H, ⟨xs.length, by simp, Nat.zero_le _, h0⟩, ?_⟩
  rintro i m H ⟨rfl, hi, p⟩
  have q := hl i H hi p
  by_cases hlt : i < xs.length
  · refine .inr ⟨⟨xs, xs[i], q, by simp [hlt]⟩, fun x H' y => ?_⟩
    obtain ⟨e, y⟩ := y
    subst e
    exact hs i x H' _ (y xs q) p fun H5 p5 => ⟨xs.length - (i + 1), by omega, rfl, hlt, p5⟩
  · have e : i = xs.length := by omega
    subst e
    exact .inl ⟨⟨xs, q, Nat.le_refl _⟩, hd _ p⟩
section
variable {X : Cx} {K : PySem.W.Frag} {tg l : Expr} {tl : TE}
theorem pi_tupK (e : X.K = K) (hl : PE X l tl) : PI X tg l (iTup K tl) := by subst e; exact pi_tup hl
theorem pi_listK (e : X.K = K) (hl : PE X l tl) : PI X tg l (iList K tl) := by subst e; exact pi_list hl
theorem call_isiK (e : X.K = K) : CallR X (.builtin "isinstance") (rIsi K) := by subst e; exact call_isi
theorem op_in_seqK (e : X.K = K) : OpR X (compareOp .In) (rIn K false) := by subst e; exact op_in_seq
end
end L2

set_option Elab.async false
set_option linter.all false
set_option maxRecDepth 100000
set_option maxHeartbeats 2000000
/-! THE PIECES of a statement, its spelling, and what the program's own defs promise of them -/
namespace Ken
open PySem L2
def Tm.kids : Tm → List Tm
  | .nd _ a b => [a, b]
  | _ => []
/-- itself and all within it, from the left to the right -/
def Tm.pre : Tm → List Tm
  | .low => [.low]
  | .ltr w => [.ltr w]
  | .nd k a b => .nd k a b :: (a.pre ++ b.pre)
theorem Tm.pre_len : ∀ t : Tm, t.pre.length = t.parts
  | .low => rfl
  | .ltr _ => rfl
  | .nd _ a b => by
    show (a.pre ++ b.pre).length + 1 = 1 + a.parts + b.parts
    rw [List.length_append, a.pre_len, b.pre_len]; omega
theorem Tm.pre_eq (t : Tm) : t.pre = t :: t.kids.flatMap Tm.pre := by
  cases t with
  | low => rfl
  | ltr w => rfl
  | nd k a b => show _ :: (a.pre ++ b.pre) = _ :: (a.pre ++ (b.pre ++ [])); rw [List.append_nil]
theorem Tm.pre_ok : ∀ {t : Tm}, t.ok → ∀ s ∈ t.pre, s.ok
  | .low, _, s, h => by rcases List.mem_singleton.mp h with rfl; trivial
  | .ltr w, h0, s, h => by rcases List.mem_singleton.mp h with rfl; exact h0
  | .nd k a b, h0, s, h => by
    rcases List.mem_cons.mp h with rfl | h
    · exact h0
    · rcases List.mem_append.mp h with h | h
      · exact Tm.pre_ok h0.1 s h
      · exact Tm.pre_ok h0.2 s h
/-- the texts of one piece -/
def Tm.own : Tm → List Str
  | .low => ["low"]
  | .ltr w => ["letter", w]
  | .nd k _ _ => [k.str]
def Tm.spell (t : Tm) : List Str := t.pre.flatMap Tm.own
theorem spell_nd (k : Kd) (a b : Tm) : (Tm.nd k a b).spell = k.str :: (a.spell ++ b.spell) := by
  show (Tm.nd k a b :: (a.pre ++ b.pre)).flatMap Tm.own = _
  rw [List.flatMap_cons, List.flatMap_append]; rfl
theorem spell_pre : ∀ {s t : Tm} {l m : List Str}, s.spell ++ l = t.spell ++ m → s = t ∧ l = m
  | .low, .low, l, m, h => ⟨rfl, by have := List.cons.inj (show ("low" : Str) :: l = ("low" : Str) :: m from h); exact this.2⟩
  | .low, .ltr w, l, m, h => absurd (List.cons.inj (show ("low" : Str) :: l = ("letter" : Str) :: (w :: m) from h)).1 (by decide)
  | .low, .nd k a b, l, m, h => by
    rw [spell_nd] at h
    exact absurd (List.cons.inj (show ("low" : Str) :: l = k.str :: ((a.spell ++ b.spell) ++ m) from h)).1 (by cases k <;> decide)
  | .ltr w, .low, l, m, h => absurd (List.cons.inj (show ("letter" : Str) :: (w :: l) = ("low" : Str) :: m from h)).1 (by decide)
  | .ltr w, .ltr v, l, m, h => by
    have h1 := (List.cons.inj (show ("letter" : Str) :: (w :: l) = ("letter" : Str) :: (v :: m) from h)).2
    obtain ⟨e1, e2⟩ := List.cons.inj h1
    exact ⟨by rw [e1], e2⟩
  | .ltr w, .nd k a b, l, m, h => by
    rw [spell_nd] at h
    exact absurd (List.cons.inj (show ("letter" : Str) :: (w :: l) = k.str :: ((a.spell ++ b.spell) ++ m) from h)).1 (by cases k <;> decide)
  | .nd k a b, .low, l, m, h => by
    rw [spell_nd] at h
    exact absurd (List.cons.inj (show k.str :: ((a.spell ++ b.spell) ++ l) = ("low" : Str) :: m from h)).1 (by cases k <;> decide)
  | .nd k a b, .ltr w, l, m, h => by
    rw [spell_nd] at h
    exact absurd (List.cons.inj (show k.str :: ((a.spell ++ b.spell) ++ l) = ("letter" : Str) :: (w :: m) from h)).1 (by cases k <;> decide)
  | .nd k a b, .nd k' c d, l, m, h => by
    rw [spell_nd, spell_nd] at h
    obtain ⟨e1, e2⟩ := List.cons.inj (show k.str :: ((a.spell ++ b.spell) ++ l) = k'.str :: ((c.spell ++ d.spell) ++ m) from h)
    rw [List.append_assoc, List.append_assoc] at e2
    obtain ⟨f1, f2⟩ := spell_pre e2
    obtain ⟨g1, g2⟩ := spell_pre f2
    exact ⟨by rw [Kd.str_inj e1, f1, g1], g2⟩
theorem spell_inj {s t : Tm} (h : s.spell = t.spell) : s = t := (spell_pre (l := []) (m := []) (by rw [h])).1
theorem spell_ne (t : Tm) : t.spell ≠ [] := by
  cases t with
  | low => exact fun z => nomatch z
  | ltr w => exact fun z => nomatch z
  | nd k a b => rw [spell_nd]; exact fun z => nomatch z
theorem spell_len : ∀ t : Tm, t.spell.length ≤ 2 * t.parts
  | .low => by decide
  | .ltr _ => by show 2 ≤ 2 * 1; decide
  | .nd k a b => by
    rw [spell_nd, List.length_cons, List.length_append]
    have := spell_len a
    have := spell_len b
    show _ ≤ 2 * (1 + a.parts + b.parts)
    omega
theorem paired_keepT {K : PySem.W.Frag} {H H' : Hp} (k : KeepT K H H') {us : List V} {ts : List Tm} (h : Paired (IsT K H) us ts) : Paired (IsT K H') us ts := Paired.mapP h fun _ _ z => z.keep k
def sp_within (K : PySem.W.Frag) : Sp := fun vs H Q _ => ∃ (v : V) (t : Tm), vs = [v] ∧ IsT K H v t ∧
  ∀ (r : Addr) (H' : Hp) (us : List V), Same H H' → H r = none → H' r = some (.lst us) → Paired (IsT K H') us t.kids → Q (.ref r) H'
def sp_pieces (K : PySem.W.Frag) : Sp := fun vs H Q _ => ∃ (v : V) (t : Tm), vs = [v] ∧ IsT K H v t ∧ t.parts ≤ 400 ∧
  ∀ (r : Addr) (H' : Hp) (us : List V), Same H H' → H r = none → H' r = some (.lst us) → Paired (IsT K H') us t.pre → Q (.ref r) H'
def sp_spelled (K : PySem.W.Frag) : Sp := fun vs H Q _ => ∃ (v : V) (t : Tm), vs = [v] ∧ IsT K H v t ∧ t.parts ≤ 400 ∧
  ∀ (r : Addr) (H' : Hp), Same H H' → H r = none → H' r = some (.tup (t.spell.map V.str)) → Q (.ref r) H'
/-- the texts among values -/
def strsOf : List V → List Str
  | [] => []
  | .str x :: r => x :: strsOf r
  | _ :: r => strsOf r
theorem strsOf_app : ∀ a b : List V, strsOf (a ++ b) = strsOf a ++ strsOf b
  | [], _ => rfl
  | v :: r, b => by
    cases v <;> simp [strsOf, strsOf_app r b]
theorem isT_items {K : PySem.W.Frag} {H : Hp} {v : V} {t : Tm} (h : IsT K H v t) : ∃ a vs, v = .ref a ∧ SqT K H a vs ∧ strsOf vs = t.own ∧ vs.length ≤ 3 ∧ ∀ y ∈ vs, (∃ x, y = .str x) ∨ ∃ b xs, y = .ref b ∧ SqT K H b xs := by
  cases t with
  | low =>
    obtain ⟨a, rfl, hs⟩ := isT_low.mp h
    exact ⟨a, _, rfl, hs, rfl, by decide, fun y hy => by rcases List.mem_singleton.mp hy with rfl; exact .inl ⟨_, rfl⟩⟩
  | ltr w =>
    obtain ⟨a, rfl, hs⟩ := isT_ltr.mp h
    refine ⟨a, _, rfl, hs, rfl, by simp, fun y hy => ?_⟩
    rcases List.mem_cons.mp hy with rfl | hy
    · exact .inl ⟨_, rfl⟩
    · rcases List.mem_singleton.mp hy with rfl; exact .inl ⟨_, rfl⟩
  | nd k x y =>
    obtain ⟨a, vx, vy, rfl, hs, hx, hy⟩ := isT_nd.mp h
    obtain ⟨b, xs, rfl, hb⟩ := isT_tup hx
    obtain ⟨c, ys, rfl, hc⟩ := isT_tup hy
    refine ⟨a, _, rfl, hs, rfl, by simp, fun y hy => ?_⟩
    rcases List.mem_cons.mp hy with rfl | hy
    · exact .inl ⟨_, rfl⟩
    · rcases List.mem_cons.mp hy with rfl | hy
      · exact .inr ⟨_, _, rfl, hb⟩
      · rcases List.mem_singleton.mp hy with rfl; exact .inr ⟨_, _, rfl, hc⟩
end Ken

set_option Elab.async false
set_option linter.all false
set_option maxRecDepth 100000
set_option maxHeartbeats 4000000
namespace KLaw
open PySem L2 Ken
local macro_rules | `(tactic| walk_at "rd") => `(tactic| simp only [tSeq, tAsg, gName, tVar, tC, tOp, rI0, rI, rU, tUn, tRet, tRetN, tIfS, tTest, tB, tNext, tCons, tNil, tCB, tCall, tTup, tLst, tDrop, tAug, ipI, tAnd, tOr, tNot, tAndV, tOrV, tNotV, tBM, tBM0, rAppend, rExtend, rPop, rIxL, rIxT, rIxS, rCat, rEq, rNe, rMulS, tSl, rSlL, rSlS, tPart, tNoPart, tRev, rJoin, tDGet, tDisp, tPairs, tFs, tFv, tFc, tF0, tKD, rIsi, rEqD, tNever, tChain, rIn, rSetL, gSub, iEnum, iStr, tKNotIn, tDIn, tDNotIn, sDPut, gTup, gCons, gNil, iRng1, iRng2, iList, iTup, iZip, rRevd, L2.start, capt,
  List.map_cons, List.map_nil, List.length_cons, List.length_nil, List.cons_append, List.nil_append, List.append_nil, List.replicate_succ, List.replicate_zero, Nat.reduceAdd, Nat.reduceSub, Nat.zero_add, Nat.add_zero, Nat.sub_zero, Nat.sub_self, List.getElem?_cons_zero, List.getElem?_cons_succ, List.getElem?_nil, List.set_cons_zero, List.set_cons_succ, Option.some.injEq, V.int.injEq, V.str.injEq, V.ref.injEq, V.bl.injEq, V.ty.injEq, List.cons.injEq, and_true, true_and, exists_eq_left', exists_eq_left, exists_and_left, exists_eq, exists_eq', and_assoc, Option.join_some, Option.join_none, scal_int, scal_str, scal_bl, cxOf_K, blk_K, decide_eq_true_eq])
local macro_rules | `(tactic| walk_at "ri") => `(tactic| simp only [tFor, tLC, tVar, tC, tOp, rI0, rI, rU, tUn, tTest, tB, tCons, tNil, tCB, tCall, tTup, tLst, ipI, tAnd, tOr, tNot, tAndV, tOrV, tNotV, tBM, tBM0, rAppend, rExtend, rPop, rIxL, rIxT, rIxS, rCat, rEq, rNe, rMulS, tSl, rSlL, rSlS, tPart, tNoPart, tRev, rJoin, tDGet, tDisp, tPairs, tFs, tFv, tFc, tF0, tKD, rIsi, rEqD, tNever, tChain, rIn, rSetL, iEnum, iStr, tKNotIn, tDIn, tDNotIn, iRng1, iRng2, iList, iTup, iZip, rRevd, L2.start, capt,
  List.map_cons, List.map_nil, List.length_cons, List.length_nil, List.cons_append, List.nil_append, List.append_nil, List.replicate_succ, List.replicate_zero, Nat.reduceAdd, Nat.reduceSub, Nat.zero_add, Nat.add_zero, Nat.sub_zero, Nat.sub_self, List.getElem?_cons_zero, List.getElem?_cons_succ, List.getElem?_nil, List.set_cons_zero, List.set_cons_succ, Option.some.injEq, V.int.injEq, V.str.injEq, V.ref.injEq, V.bl.injEq, V.ty.injEq, List.cons.injEq, and_true, true_and, exists_eq_left', exists_eq_left, exists_and_left, exists_eq, exists_eq', and_assoc, Option.join_some, Option.join_none, scal_int, scal_str, scal_bl, cxOf_K, blk_K, decide_eq_true_eq])
def top (i : Nat) : Stmt := PySem.Challenge.pw_ken_k61_placed.main.body.getD i (.Pass ⟨0, 0, 0, 0⟩)
abbrev s__law_mix : Stmt := top 8
theorem sc__law_mix : FnScope ["_law_cell_here", "_law_k", "_law_first"] ["_law_cell_here", "_law_k"] (defScope s__law_mix) := ⟨rfl, rfl, rfl, by decide +kernel, rfl, by decide +kernel, by decide +kernel⟩
abbrev s__law_cell : Stmt := top 9
theorem sc__law_cell : FnScope ["_law_script", "_law_k", "_law_cell_here"] ["_law_script", "_law_k"] (defScope s__law_cell) := ⟨rfl, rfl, rfl, by decide +kernel, rfl, by decide +kernel, by decide +kernel⟩
abbrev s__law_words : Stmt := top 10
theorem sc__law_words : FnScope ["_law_cell_here", "_law_small", "_law_size", "_law_at", "_law_stem", "_law_signs", "_law_first", "_law_found", "_law_k", "_law_sign"] ["_law_cell_here"] (defScope s__law_words) := ⟨rfl, rfl, rfl, by decide +kernel, rfl, by decide +kernel, by decide +kernel⟩
section
variable {P : Program} {w : World} {K : PySem.W.Frag} {mg : Str → Option Value} {base : Heap}
theorem ok__law_mix {k : Nat} {f__law_mix : Addr} {fd__law_mix : FuncData} (F__law_mix : Fun K "_law_mix" "_law_mix" s__law_mix f__law_mix fd__law_mix) : FnOk P w K mg base CX0 (k + 1) f__law_mix fd__law_mix ["_law_cell_here", "_law_k"] sp_mix := by
  refine F__law_mix.ok sc__law_mix (fun vs H Q E h => ?_) (fun cdv A outer s H vs Q E hr h => ?_)
  · obtain ⟨c, k, rfl, _⟩ := h
    rfl
  obtain ⟨c, k, rfl, h0, h1, q⟩ := h
  refine ⟨_, (pss_cons (ps_set (i := 2) sc__law_mix.nd rfl (Or.inl rfl) (pe_op op_mod (pe_op op_mul (pe_op op_add (pv 0) pe_int) (pe_op op_add pe_int (pe_op op_mul pe_int (pv 1)))) pe_int))
  (pss_one (ps_ret (pe_op op_mod (pe_op op_add (pe_op op_add (pe_op op_mul (pe_op op_fdiv (pv 2) pe_int) pe_int) (pe_op op_mul (pv 2) (pe_op op_add (pe_op op_mul (pv 1) (pv 1)) pe_int))) (pv 1)) pe_int)))), ?_⟩
  walk_at "rd"
  have a0 : 0 ≤ (c + 1) * (48271 + 118 * k) % 2147483629 := Int.emod_nonneg _ (by decide)
  have a1 : (c + 1) * (48271 + 118 * k) % 2147483629 < 2147483629 := Int.emod_lt_of_pos _ (by decide)
  refine ⟨mul_left (by decide) (by decide), mul_right (by omega) (by omega), by decide, ⟨by decide, by decide⟩, mul_right (by decide) (by decide), mul_left (by omega) (by omega), mul_left (by omega) (by omega), by decide, ?_⟩
  exact q
theorem ok__law_cell {k : Nat} {f__law_cell : Addr} {fd__law_cell : FuncData} (F__law_cell : Fun K "_law_cell" "_law_cell" s__law_cell f__law_cell fd__law_cell) {f__law_mix : Addr} {fd__law_mix : FuncData} (G__law_mix : FnOk P w K mg base CX0 k f__law_mix fd__law_mix ["_law_cell_here", "_law_k"] (sp_mix)) (m__law_mix : mg "_law_mix" = some (.ref f__law_mix)) (k__law_mix : PySem.W.keepIn K (.ref f__law_mix) = true) (b__law_mix : Binds K fd__law_mix ["_law_cell_here", "_law_k"] []) (m_len : mg "len" = none) : FnOk P w K mg base CX0 (k + 1) f__law_cell fd__law_cell ["_law_script", "_law_k"] (sp_cell K) := by
  refine F__law_cell.ok sc__law_cell (fun vs H Q E h => ?_) (fun cdv A outer s H vs Q E hr h => ?_)
  · obtain ⟨a, ns, k, rfl, _⟩ := h
    rfl
  obtain ⟨a, ns, j, rfl, hS, h63, h0, h1, q⟩ := h
  refine ⟨_, (pss_cons (ps_set (i := 2) sc__law_cell.nd rfl (Or.inl rfl) pe_int)
  (pss_cons (ps_if (pt_cmpR (op_lt) (pv 1) (pe_callB call_len_seq (by exact rfl) m_len Ken.boot_len (pa_cons (pv 0) pa_nil)) (nomark _))
    (pss_one (ps_set (i := 2) sc__law_cell.nd rfl (Or.inl rfl) (pe_op op_mod (pe_ix ix_list (pv 0) (pv 1) (fun _ _ => rfl)) pe_int)))
    pss_nil)
  (pss_one (ps_ret (pe_call G__law_mix hr (by exact rfl) m__law_mix k__law_mix b__law_mix .nil pass0 (pa_cons (pv 2) (pa_cons (pe_op op_add (pv 1) pe_int) pa_nil))))))), ?_⟩
  walk_at "rd"
  refine ⟨_, .inl hS, ?_⟩
  rw [List.length_map]
  have e : cellOf ns j = mix (if j < (ns.length : Int) then (ns[j.toNat]?.getD 0) % 2147483647 else 0) (j + 101) := rfl
  refine ite2 (fun c => ?_) (fun c => ?_)
  · rw [if_pos c] at e
    have hj : j.toNat < ns.length := by omega
    refine ⟨_, hS, V.int (ns[j.toNat]), ?_, _, rfl, by decide, ?_⟩
    · have ej : j = ((j.toNat : Nat) : Int) := by omega
      have q : atI (ns.map V.int) ((j.toNat : Nat) : Int) = some (.int ns[j.toNat]) := atI_nat (by rw [List.getElem?_map, List.getElem?_eq_getElem hj] <;> rfl)
      rw [← ej] at q
      exact q
    · rw [List.getElem?_eq_getElem hj] at e
      rw [e] at q
      exact ⟨_, _, rfl, by omega, by omega, q⟩
  · rw [if_neg c] at e
    rw [e] at q
    exact ⟨_, _, rfl, by omega, by omega, q⟩
end
end KLaw


set_option Elab.async false
set_option linter.all false
set_option maxRecDepth 100000
set_option maxHeartbeats 4000000
namespace KLaw
open PySem L2 Ken
local macro_rules | `(tactic| walk_at "rd") => `(tactic| simp only [tSeq, tAsg, gName, tVar, tC, tOp, rI0, rI, rU, tUn, tRet, tRetN, tIfS, tTest, tB, tNext, tCons, tNil, tCB, tCall, tTup, tLst, tDrop, tAug, ipI, tAnd, tOr, tNot, tAndV, tOrV, tNotV, tBM, tBM0, rAppend, rExtend, rPop, rIxL, rIxT, rIxS, rCat, rEq, rNe, rMulS, tSl, rSlL, rSlS, tPart, tNoPart, tRev, rJoin, tDGet, tDisp, tPairs, tFs, tFv, tFc, tF0, tKD, rIsi, rEqD, tNever, tChain, rIn, rSetL, gSub, iEnum, iStr, tKNotIn, tDIn, tDNotIn, sDPut, gTup, gCons, gNil, iRng1, iRng2, iList, iTup, iZip, rRevd, L2.start, capt,
  List.map_cons, List.map_nil, List.length_cons, List.length_nil, List.cons_append, List.nil_append, List.append_nil, List.replicate_succ, List.replicate_zero, Nat.reduceAdd, Nat.reduceSub, Nat.zero_add, Nat.add_zero, Nat.sub_zero, Nat.sub_self, List.getElem?_cons_zero, List.getElem?_cons_succ, List.getElem?_nil, List.set_cons_zero, List.set_cons_succ, Option.some.injEq, V.int.injEq, V.str.injEq, V.ref.injEq, V.bl.injEq, V.ty.injEq, List.cons.injEq, and_true, true_and, exists_eq_left', exists_eq_left, exists_and_left, exists_eq, exists_eq', and_assoc, Option.join_some, Option.join_none, scal_int, scal_str, scal_bl, cxOf_K, blk_K, decide_eq_true_eq])
local macro_rules | `(tactic| walk_at "ri") => `(tactic| simp only [tFor, tLC, tVar, tC, tOp, rI0, rI, rU, tUn, tTest, tB, tCons, tNil, tCB, tCall, tTup, tLst, ipI, tAnd, tOr, tNot, tAndV, tOrV, tNotV, tBM, tBM0, rAppend, rExtend, rPop, rIxL, rIxT, rIxS, rCat, rEq, rNe, rMulS, tSl, rSlL, rSlS, tPart, tNoPart, tRev, rJoin, tDGet, tDisp, tPairs, tFs, tFv, tFc, tF0, tKD, rIsi, rEqD, tNever, tChain, rIn, rSetL, iEnum, iStr, tKNotIn, tDIn, tDNotIn, iRng1, iRng2, iList, iTup, iZip, rRevd, L2.start, capt,
  List.map_cons, List.map_nil, List.length_cons, List.length_nil, List.cons_append, List.nil_append, List.append_nil, List.replicate_succ, List.replicate_zero, Nat.reduceAdd, Nat.reduceSub, Nat.zero_add, Nat.add_zero, Nat.sub_zero, Nat.sub_self, List.getElem?_cons_zero, List.getElem?_cons_succ, List.getElem?_nil, List.set_cons_zero, List.set_cons_succ, Option.some.injEq, V.int.injEq, V.str.injEq, V.ref.injEq, V.bl.injEq, V.ty.injEq, List.cons.injEq, and_true, true_and, exists_eq_left', exists_eq_left, exists_and_left, exists_eq, exists_eq', and_assoc, Option.join_some, Option.join_none, scal_int, scal_str, scal_bl, cxOf_K, blk_K, decide_eq_true_eq])
abbrev s_within : Stmt := top 2
theorem sc_within : FnScope ["statement"] ["statement"] (defScope s_within) := ⟨rfl, rfl, rfl, by decide +kernel, rfl, by decide +kernel, by decide +kernel⟩
abbrev s_pieces : Stmt := top 3
theorem sc_pieces : FnScope ["statement", "found", "waiting", "piece"] ["statement"] (defScope s_pieces) := ⟨rfl, rfl, rfl, by decide +kernel, rfl, by decide +kernel, by decide +kernel⟩
section
variable {P : Program} {w : World} {K : PySem.W.Frag} {mg : Str → Option Value} {base : Heap}
theorem ok_within {k : Nat} {f_within : Addr} {fd_within : FuncData} (F_within : Fun K "within" "within" s_within f_within fd_within) {aPAIRED : Addr} (m_PAIRED : mg "PAIRED" = some (.ref aPAIRED)) (t_PAIRED : ∀ H, SqT K H aPAIRED [.str "both", .str "one", .str "then"]) : FnOk P w K mg base CX0 (k + 1) f_within fd_within ["statement"] (sp_within K) := by
  refine F_within.ok sc_within (fun vs H Q E h => ?_) (fun cdv A outer s H vs Q E hr h => ?_)
  · obtain ⟨v, t, rfl, _⟩ := h
    rfl
  obtain ⟨v, t, rfl, hT, q⟩ := h
  refine ⟨_, (pss_cons (ps_if (pt_cmpR (op_in_seq) (pe_ix ix_tup (pv 0) pe_int (fun _ _ => rfl)) (pe_glob (v := .ref aPAIRED) (by exact rfl) m_PAIRED (by exact rfl)) (by with_unfolding_all rfl))
    (pss_one (ps_ret (pe_lst (pa_cons (pe_ix ix_tup (pv 0) pe_int (fun _ _ => rfl)) (pa_cons (pe_ix ix_tup (pv 0) pe_int (fun _ _ => rfl)) pa_nil)))))
    pss_nil)
  (pss_one (ps_ret (pe_lst pa_nil)))), ?_⟩
  walk_at "rd"
  cases t with
  | low =>
    obtain ⟨a, rfl, hs⟩ := isT_low.mp hT
    refine ⟨a, rfl, _, hs, _, rfl, _, .inr (t_PAIRED H), rfl, rfl, ?_⟩
    rw [if_neg (by decide)]
    exact ⟨by decide, fun p hp => q p _ _ (same_new hp _) hp upd_same .nil⟩
  | ltr x =>
    obtain ⟨a, rfl, hs⟩ := isT_ltr.mp hT
    refine ⟨a, rfl, _, hs, _, rfl, _, .inr (t_PAIRED H), rfl, rfl, ?_⟩
    rw [if_neg (by decide)]
    exact ⟨by decide, fun p hp => q p _ _ (same_new hp _) hp upd_same .nil⟩
  | nd kd x y =>
    obtain ⟨a, vx, vy, rfl, hs, hx, hy⟩ := isT_nd.mp hT
    refine ⟨a, rfl, _, hs, _, rfl, _, .inr (t_PAIRED H), rfl, rfl, ?_⟩
    rw [if_pos (by cases kd <;> decide)]
    exact ⟨a, rfl, _, hs, _, rfl, a, rfl, _, hs, _, rfl, by decide, fun p hp => q p _ _ (same_new hp _) hp upd_same (.cons (hx.keep (keepT_new hp)) (.cons (hy.keep (keepT_new hp)) .nil))⟩
end
end KLaw


set_option Elab.async false
set_option linter.all false
set_option maxRecDepth 100000
set_option maxHeartbeats 4000000
namespace KLaw
open PySem L2 Ken
local macro_rules | `(tactic| walk_at "rd") => `(tactic| simp only [tSeq, tAsg, gName, tVar, tC, tOp, rI0, rI, rU, tUn, tRet, tRetN, tIfS, tTest, tB, tNext, tCons, tNil, tCB, tCall, tTup, tLst, tDrop, tAug, ipI, tAnd, tOr, tNot, tAndV, tOrV, tNotV, tBM, tBM0, rAppend, rExtend, rPop, rIxL, rIxT, rIxS, rCat, rEq, rNe, rMulS, tSl, rSlL, rSlS, tPart, tNoPart, tRev, rJoin, tDGet, tDisp, tPairs, tFs, tFv, tFc, tF0, tKD, rIsi, rEqD, tNever, tChain, rIn, rSetL, gSub, iEnum, iStr, tKNotIn, tDIn, tDNotIn, sDPut, gTup, gCons, gNil, iRng1, iRng2, iList, iTup, iZip, rRevd, L2.start, capt,
  List.map_cons, List.map_nil, List.length_cons, List.length_nil, List.cons_append, List.nil_append, List.append_nil, List.replicate_succ, List.replicate_zero, Nat.reduceAdd, Nat.reduceSub, Nat.zero_add, Nat.add_zero, Nat.sub_zero, Nat.sub_self, List.getElem?_cons_zero, List.getElem?_cons_succ, List.getElem?_nil, List.set_cons_zero, List.set_cons_succ, Option.some.injEq, V.int.injEq, V.str.injEq, V.ref.injEq, V.bl.injEq, V.ty.injEq, List.cons.injEq, and_true, true_and, exists_eq_left', exists_eq_left, exists_and_left, exists_eq, exists_eq', and_assoc, Option.join_some, Option.join_none, scal_int, scal_str, scal_bl, cxOf_K, blk_K, decide_eq_true_eq])
local macro_rules | `(tactic| walk_at "ri") => `(tactic| simp only [tFor, tLC, tVar, tC, tOp, rI0, rI, rU, tUn, tTest, tB, tCons, tNil, tCB, tCall, tTup, tLst, ipI, tAnd, tOr, tNot, tAndV, tOrV, tNotV, tBM, tBM0, rAppend, rExtend, rPop, rIxL, rIxT, rIxS, rCat, rEq, rNe, rMulS, tSl, rSlL, rSlS, tPart, tNoPart, tRev, rJoin, tDGet, tDisp, tPairs, tFs, tFv, tFc, tF0, tKD, rIsi, rEqD, tNever, tChain, rIn, rSetL, iEnum, iStr, tKNotIn, tDIn, tDNotIn, iRng1, iRng2, iList, iTup, iZip, rRevd, L2.start, capt,
  List.map_cons, List.map_nil, List.length_cons, List.length_nil, List.cons_append, List.nil_append, List.append_nil, List.replicate_succ, List.replicate_zero, Nat.reduceAdd, Nat.reduceSub, Nat.zero_add, Nat.add_zero, Nat.sub_zero, Nat.sub_self, List.getElem?_cons_zero, List.getElem?_cons_succ, List.getElem?_nil, List.set_cons_zero, List.set_cons_succ, Option.some.injEq, V.int.injEq, V.str.injEq, V.ref.injEq, V.bl.injEq, V.ty.injEq, List.cons.injEq, and_true, true_and, exists_eq_left', exists_eq_left, exists_and_left, exists_eq, exists_eq', and_assoc, Option.join_some, Option.join_none, scal_int, scal_str, scal_bl, cxOf_K, blk_K, decide_eq_true_eq])
def sumP (ts : List Tm) : Nat := (ts.map Tm.parts).sum
theorem sumP_cons (t : Tm) (ts : List Tm) : sumP (t :: ts) = t.parts + sumP ts := by unfold sumP; rw [List.map_cons, List.sum_cons]
theorem sumP_app (a b : List Tm) : sumP (a ++ b) = sumP a + sumP b := by unfold sumP; rw [List.map_append, List.sum_append]
theorem sumP_kids (t : Tm) : sumP t.kids + 1 = t.parts := by
  cases t with
  | low => rfl
  | ltr w => rfl
  | nd k a b => show sumP [a, b] + 1 = 1 + a.parts + b.parts; rw [sumP_cons, sumP_cons]; show a.parts + (b.parts + 0) + 1 = _; omega
theorem len_sumP : ∀ ts : List Tm, ts.length ≤ sumP ts
  | [] => Nat.le_refl _
  | t :: ts => by
    rw [sumP_cons, List.length_cons]
    have := len_sumP ts
    have := t.parts_pos
    omega
section
variable {P : Program} {w : World} {K : PySem.W.Frag} {mg : Str → Option Value} {base : Heap}
theorem ok_pieces {k : Nat} {f_pieces : Addr} {fd_pieces : FuncData} (F_pieces : Fun K "pieces" "pieces" s_pieces f_pieces fd_pieces) {f_within : Addr} {fd_within : FuncData} (G_within : FnOk P w K mg base CX0 k f_within fd_within ["statement"] (sp_within K)) (m_within : mg "within" = some (.ref f_within)) (k_within : PySem.W.keepIn K (.ref f_within) = true) (b_within : Binds K fd_within ["statement"] []) : FnOk P w K mg base CX0 (k + 1) f_pieces fd_pieces ["statement"] (sp_pieces K) := by
  refine F_pieces.ok sc_pieces (fun vs H Q E h => ?_) (fun cdv A outer s H vs Q E hr h => ?_)
  · obtain ⟨v, t, rfl, _⟩ := h
    rfl
  obtain ⟨v, t, rfl, hT, hp, q⟩ := h
  refine ⟨_, (pss_cons (ps_set (i := 1) sc_pieces.nd rfl (Or.inl rfl) (pe_lst pa_nil))
  (pss_cons (ps_set (i := 2) sc_pieces.nd rfl (Or.inl rfl) (pe_lst (pa_cons (pv 0) pa_nil)))
  (pss_cons (ps_while PassesOwn.never (pt_truth (pv 2) (fun _ => rfl))
    (pss_cons (ps_set (i := 3) sc_pieces.nd rfl (Or.inl rfl) (pe_bm0 PySem.F.plainAttrs_list PySem.F.slot_list_pop PySem.F.type_list_pop mt_pop (pv 2)))
  (pss_cons (ps_expr (pe_bm PySem.F.plainAttrs_list PySem.F.slot_list_append PySem.F.type_list_append mt_append (pv 1) (pa_cons (pv 3) pa_nil)))
  (pss_one (ps_expr (pe_bm PySem.F.plainAttrs_list PySem.F.slot_list_extend PySem.F.type_list_extend mt_extend (pv 2) (pa_cons (pe_rev (pe_call G_within hr (by exact rfl) m_within k_within b_within .nil pass0 (pa_cons (pv 3) pa_nil)) (pe_un un_neg pe_int)) pa_nil)))))))
  (pss_one (ps_ret (pv 1)))))), ?_⟩
  walk_at "rd"
  refine ⟨by decide, fun lt hlt => ⟨by decide, fun lw hlw => ?_⟩⟩
  have hlw0 : H lw = none := (same_new hlt _).free hlw
  have hne : lw ≠ lt := fun z => by subst z; rw [upd_same] at hlw; cases hlw
  refine ⟨fun m σ' H' => ∃ st ts us ds x3, m = sumP ts ∧ σ' = [some v, some (.ref lt), some (.ref lw), x3] ∧ Same H H' ∧ H' lt = some (.lst us) ∧ H' lw = some (.lst st.reverse) ∧ Paired (IsT K H') st ts ∧ Paired (IsT K H') us ds ∧ ds ++ ts.flatMap Tm.pre = t.pre ∧ us.length + sumP ts ≤ 400,
    ⟨_, [v], [t], [], [], none, rfl, rfl, (same_new hlt _).trans (same_new hlw _), ?_, upd_same, .cons ((hT.keep (keepT_new hlt)).keep (keepT_new hlw)) .nil, .nil, ?_, ?_⟩, ?_⟩
  · rw [upd_ne (Ne.symm hne), upd_same]
  · show [] ++ (t.pre ++ []) = t.pre
    simp
  · show 0 + (t.parts + 0) ≤ 400
    omega
  rintro m σ1 H1 ⟨st, ts, us, ds, x3, rfl, rfl, e1, h1, h2, hd, hu, ht, hn⟩
  refine ⟨_, rfl, !st.reverse.isEmpty, .inl ⟨_, SqL.of h2, rfl⟩, ?_⟩
  cases hd with
  | nil =>
    rw [if_neg (by decide)]
    walk_at "rd"
    rw [List.flatMap_nil, List.append_nil] at ht
    rw [ht] at hu
    exact q lt H1 us e1 hlt h1 hu
  | @cons u i st is hi hst =>
    have hrev : (u :: st).reverse = st.reverse ++ [u] := List.reverse_cons
    rw [if_pos (by rw [hrev]; simp)]
    refine ⟨_, fun σ' H' z => z, ?_⟩
    walk_at "rd"
    rw [hrev] at h2
    have ne1 : lt ≠ lw := Ne.symm hne
    refine ⟨.inl ⟨rfl, _, SqL.of h2⟩, _, h2, u, by simp, ?_⟩
    rw [List.dropLast_concat]
    have k1 : KeepT K H1 (upd H1 lw (.lst st.reverse)) := keepT_lst h2
    rw [sumP_cons] at hn
    have pp := i.parts_pos
    have h1' : upd H1 lw (.lst st.reverse) lt = some (.lst us) := by rw [upd_ne ne1]; exact h1
    have k2 : KeepT K H1 (upd (upd H1 lw (.lst st.reverse)) lt (.lst (us ++ [u]))) := k1.trans (keepT_lst h1')
    refine ⟨.inl ⟨rfl, _, SqL.of h1'⟩, _, h1', small1M (by omega), ?_⟩
    have h2lw0 : upd (upd H1 lw (.lst st.reverse)) lt (.lst (us ++ [u])) lw = some (.lst st.reverse) := by rw [upd_ne hne, upd_same]
    refine ⟨.inl ⟨rfl, _, SqL.of h2lw0⟩, u, i, rfl, hi.keep k2, fun r H2 zs e2 hr0 hr2 hz => ?_⟩
    have h2lw := e2 lw _ h2lw0
    have h2lt := e2 lt _ upd_same
    have l1 := Paired.length hz
    have l2 := Paired.length hst
    have l3 := len_sumP is
    have l4 := len_sumP i.kids
    have l5 := sumP_kids i
    have E2 : Same H H2 := ((e1.write hlw0).write hlt).trans e2
    refine ⟨r, rfl, zs, SqL.of hr2, fun p hp => ⟨st.reverse, by rw [upd_ne (ne_of_none h2lw hp)]; exact h2lw, zs.reverse, upd_same, ?_, sumP (i.kids ++ is), ?_, zs ++ st, i.kids ++ is, rfl, ?_, us ++ [u], ?_, ?_, ?_, ds ++ [i], ?_, ?_, ?_⟩⟩
    · rw [List.length_reverse, List.length_reverse]
      exact Nat.le_of_lt (small1M (by omega))
    · rw [sumP_app, sumP_cons]; omega
    · exact (E2.trans (same_new hp _)).write hlw0
    · rw [upd_ne ne1, upd_ne (ne_of_none h2lt hp)]; exact h2lt
    · rw [upd_same, List.reverse_append]
    · have k3 : KeepT K H2 (upd (upd H2 p (.lst zs.reverse)) lw (.lst (st.reverse ++ zs.reverse))) := (keepT_new hp).trans (keepT_lst (by rw [upd_ne (ne_of_none h2lw hp)]; exact h2lw))
      exact paired_app (paired_keepT k3 hz) (paired_keepT ((k2.trans e2.keepT).trans k3) hst)
    · have k3 : KeepT K H2 (upd (upd H2 p (.lst zs.reverse)) lw (.lst (st.reverse ++ zs.reverse))) := (keepT_new hp).trans (keepT_lst (by rw [upd_ne (ne_of_none h2lw hp)]; exact h2lw))
      exact paired_keepT ((k2.trans e2.keepT).trans k3) (paired_app hu (.cons hi .nil))
    · rw [← ht, List.flatMap_append, List.flatMap_cons, Tm.pre_eq i]; simp
    · rw [List.length_append, List.length_singleton, sumP_app]; omega
end
end KLaw


set_option Elab.async false
set_option linter.all false
set_option maxRecDepth 100000
set_option maxHeartbeats 2000000
/-! FOR over reversed(a list); a call of a function that was handed in; sum of a list of whole numbers -/
namespace L2
open PySem PySem.Spec PyProof.Rows
/-- from the last of n to the first -/
def Itv (K : PySem.W.Frag) (a : Addr) (n : Nat) : It :=
  ⟨fun i H => i < n ∧ ∃ xs x, SqL K H a xs ∧ xs[n - 1 - i]? = some x, fun i H x H' => H' = H ∧ ∀ xs, SqL K H a xs → xs[n - 1 - i]? = some x, fun i _ => i = n⟩
theorem turn_rev {P : Program} {w : World} {K : PySem.W.Frag} {tg : Expr} (a it : Addr) (n : Nat) : Turn P w K tg (Itv K a n) [it] it (fun i h => h.IsRevIter it a ((n : Int) - 1 - (i : Int))) where
  mem := by simp
  obj := fun i h st b hb => by
    have e : b = it := by simpa using hb
    subst e
    obtain ⟨o, e, c, d⟩ := st
    exact ⟨o, e, fun v z => by rw [d] at z; cases z⟩
  keep := fun i h h' st k => st.at fun o e => k it (by simp) o e
  item := by
    intro X hP hw hK hc i pins s σ H E I hf st hg
    subst hP hw hK
    obtain ⟨hi, xs, x, hq, hx⟩ := hg
    obtain ⟨its, rv, p, hz⟩ := I.list hq
    obtain ⟨u, hu, ru⟩ := rv.get hx
    obtain ⟨f0, f1, f2, f3, f4, f5⟩ := hf it (by simp)
    have en : (n : Int) - 1 - (i : Int) = ((n - 1 - i : Nat) : Int) := by omega
    rw [en] at st
    refine wpAny_pyNext_rev_item st p.isList (x := u) (by simpa using hu) fun h' st' sb => ?_
    have I1 : Inv X pins σ H { s with heap := h' } := I.turned (t' := s.toks) (fun b o hb e => (sb.2 b hb).trans e) f0 f1 f3 f4 f5
    have en2 : ((n - 1 - i : Nat) : Int) - 1 = (n : Int) - 1 - ((i + 1 : Nat) : Int) := by omega
    rw [en2] at st'
    obtain ⟨o, e, c, d⟩ := id st'
    exact ⟨u, rfl, go_of (s := { s with heap := h' }) e c d (by decide) ⟨x, H, I1, ru, ⟨rfl, fun ys hy => by rw [I.list_inj hy hq]; exact hx⟩, st', fun b hb => (hf b hb).1⟩⟩
  done := by
    intro X hP hw hK hc i pins s σ H E I hf st hg
    subst hP hw hK
    have hg' : i = n := hg
    subst hg'
    obtain ⟨f0, f1, f2, f3, f4, f5⟩ := hf it (by simp)
    have en : (i : Int) - 1 - (i : Int) = -1 := by omega
    rw [en] at st
    exact wpAny_pyNext_rev_end (I.ok.hd hc) st fun h' eb => ⟨rfl, I.turned (t' := s.toks) (fun b o hb e => eb b o hb e) f0 f1 f3 f4 f5⟩
  self := fun _ _ _ _ _ st h => wpAny_pyIter_revIter st h
def iRev (K : PySem.W.Frag) (ta : TA) : TI := fun σ H R => ta σ H fun vs H1 => ∃ a xs, vs = [.ref a] ∧ SqL K H1 a xs ∧ R (Itv K a xs.length) H1
section
variable {X : Cx}
theorem pi_rev {tg e : Expr} {ta : TA} {p pos : Pos} (hg : Gl X "reversed") (hm : X.mg "reversed" = none) (ha : PA X [e] ta) (hs : starEach [e] X.env = [(false, eval e X.env)] := by rfl) :
    PI X tg (.Call (.Name "reversed" p) [e] [] pos) (iRev X.K ta) := by
  intro pins s σ H R I h
  refine Call_ (ld_blt I hg hm (by first | exact PySem.boot_reversed | rfl) (PyProof.Rows.callWith_type1 (thn (ha pos pins s σ H _ I h) fun us s1 ⟨vs, H1, I1, r1, q1⟩ => ?_) (by rw [hs]; rfl) rfl))
  obtain ⟨l, xs, e, q1, q⟩ := q1
  subst e
  obtain ⟨u1, rfl, ru1⟩ := r1.one
  cases ru1
  obtain ⟨its1, rv1, p1, _⟩ := I1.list q1
  have hlen := rv1.length
  refine call_reversed_list p1.isList ?_
  have hit : Heap.IsRevIter (s1.heap.push (revObj l ((its1.toArray.size : Int) - 1))) s1.heap.objs.size l ((its1.toArray.size : Int) - 1) := ⟨_, Heap.get?_push_size _ rfl, rfl, rfl⟩
  refine wpAny_pyIter_revIter hit ?_
  have I2 : Inv X pins σ H1 { s1 with heap := s1.heap.push (revObj l ((its1.toArray.size : Int) - 1)) } := I1.kept (t' := s1.toks) fun b o e => Heap.get?_push_of_some _ e
  have en : ((its1.toArray.size : Nat) : Int) - 1 = (xs.length : Int) - 1 - ((0 : Nat) : Int) := by rw [List.size_toArray]; omega
  rw [en] at hit
  rw [en] at I2
  rw [en]
  refine ⟨_, _, _, _, H1, rfl, I2, turn_rev l _ xs.length, hit, fun b hb => ?_, q⟩
  have e : b = s1.heap.objs.size := by simpa using hb
  subst e
  exact I1.fpOk (Nat.le_refl _) (I1.hok.fresh (Nat.le_refl _))
end
theorem for_rev {K : PySem.W.Frag} {a : Addr} {xs : List V} {g : TG} {tb : TS} {D : Ends} {σ : St} {H : Hp} (Pv : Nat → St → Hp → Prop) (h0 : Pv 0 σ H) (hl : ∀ i σ H, i ≤ xs.length → Pv i σ H → SqL K H a xs)
    (hs : ∀ i x σ H, i < xs.length → xs[xs.length - 1 - i]? = some x → Pv i σ H → g x σ H fun σ2 H2 => tb { D with nx := Pv (i + 1), ct := Pv (i + 1), bk := D.nx } σ2 H2) (hd : ∀ σ H, Pv xs.length σ H → D.nx σ H) :
    ∃ W : Nat → Nat → St → Hp → Prop, (∃ m, W 0 m σ H) ∧ ∀ i m σ H, W i m σ H →
      ((Itv K a xs.length).stop i H ∧ D.nx σ H) ∨ ((Itv K a xs.length).go i H ∧ ∃ N : St → Hp → Prop, (∀ σ' H', N σ' H' → ∃ m', m' < m ∧ W (i + 1) m' σ' H') ∧ ∀ x H', (Itv K a xs.length).yld i H x H' → g x σ H' fun σ2 H2 => tb { D with nx := N, ct := N, bk := D.nx } σ2 H2) := by
  refine ⟨fun i m σ H => m = xs.length - i ∧ i ≤ xs.length ∧ Pv i σ H, ⟨xs.length, by simp, Nat.zero_le _, h0⟩, ?_⟩
  rintro i m σ H ⟨rfl, hi, p⟩
  have q := hl i σ H hi p
  by_cases hlt : i < xs.length
  · refine .inr ⟨⟨hlt, xs, xs[xs.length - 1 - i], q, List.getElem?_eq_getElem (by omega)⟩, Pv (i + 1), fun σ' H' p' => ⟨xs.length - (i + 1), by omega, rfl, hlt, p'⟩, fun x H' y => ?_⟩
    obtain ⟨e, y⟩ := y
    subst e
    exact hs i x σ _ hlt (y xs q) p
  · have e : i = xs.length := by omega
    subst e
    exact .inl ⟨rfl, hd _ _ p⟩
/-- a call of a function by a name of one's own -/
def tCallL (i : Nat) (f : Addr) (t : TE) : TE := fun σ H Q => σ[i]? = some (some (.ref f)) ∧ t σ H Q
section
variable {X : Cx}
theorem pe_callL {k : Nat} {CX : CXT} {E : XK} {f : Addr} {fd : FuncData} {ps : List Str} {sp : Sp} {ds : List Value} {dvs : List V} {x : Str} {p pos : Pos} {e : Expr} {es : List Expr} {t : TA} {i : Nat} (F : FnOk X.prog X.w X.K X.mg X.base CX k f fd ps sp) (hr : Room k X.A) (hN : X.N[i]? = some x) (hv : Vis X.env.scope x) (hk : PySem.W.keepIn X.K (.ref f) = true) (hb : Binds X.K fd ps ds) (hd : Vals dvs ds) (hx : Passes CX X E)
    (ha : PA X (e :: es) t) (hdb : (x == ("__debug__" : Str)) = false := by decide) (hcd : (x == ("__classdict__" : Str)) = false := by decide) (he : starEach (e :: es) X.env = (false, eval e X.env) :: starEach es X.env := by rfl) (hpl : (backTo pos (starEach es X.env)).any (·.1) = false := by rfl) :
    PE X (.Call (.Name x p) (e :: es) [] pos) (tCallL i f (tCall sp dvs E t)) := by
  intro pins s σ H Q I h
  obtain ⟨h1, h2⟩ := h
  refine wpAny_Call_Name_kw ?_
  refine thn (pe_var (X := X) (i := i) hN hv hdb hcd pins s σ H (fun v H1 => v = .ref f ∧ H1 = H) I ⟨_, h1, rfl, rfl⟩) fun v s0 ⟨y, H0, I0, r0, e1, e2⟩ => ?_
  subst e1
  subst e2
  cases (show v = Value.ref f from r0)
  refine PySem.W.callWith_K (h₀ := X.base) I0.ok.mod.kin hk (thn (ha pos pins s0 σ H0 _ I0 h2) fun us s1 ⟨vs, H1, I1, r, q⟩ => ⟨I1.kIn, ?_⟩) he hpl
  exact run_fn F hr hb hd hx I1 r q
end
section
variable {X : Cx}
theorem ints_of : ∀ {ns : List Int} {us : List Value}, Vals (ns.map V.int) us → PyProof.Rows.IntsAre us ns
  | [], us, h => by cases h; exact .nil
  | n :: ns, us, h => by
    cases h with
    | cons r t =>
      obtain ⟨k, rfl⟩ := r
      exact .cons n k (ints_of t)
/-- sum(a list of whole numbers) -/
theorem call_sumL (hc : X.calm = true) : CallR X (.builtin "sum") (fun vs H Q => ∃ (a : Addr) (ns : List Int), vs = [.ref a] ∧ SqL X.K H a (ns.map V.int) ∧ Q (.int ns.sum) H) := by
  intro pins s σ H xs us Q I r h
  obtain ⟨a, ns, rfl, ha, q⟩ := h
  obtain ⟨u, rfl, ru⟩ := vals1 r
  cases ru
  obtain ⟨its, rv, p, hz⟩ := I.list ha
  have hi := ints_of rv
  obtain ⟨xs, hx⟩ := hi.allInts.items
  have hn : numsOf its.toArray.toList = ns := by rw [show its.toArray.toList = its from rfl, hi.numsOf]
  have hl : s.heap.IsList a its.toArray := p.isList
  rw [hx] at hl hn
  rw [nums_intItems] at hn
  have hne : a ≠ s.heap.objs.size := by obtain ⟨o, e, _⟩ := hl; exact Nat.ne_of_lt (Heap.lt_size e)
  have hal : a < s.heap.objs.size := by obtain ⟨o, e, _⟩ := hl; exact Heap.lt_size e
  have hsz : (intItems xs).size = xs.size := by simp [intItems]
  have W := (Walks.list (prog := X.prog) (w := X.w) (A := X.A.in1) (I.ok.hd hc) s.heap.objs.size a hne (intItems xs)).toS
  rw [hsz] at W
  refine call_sum_walkAnyS (wpAny_pyIter_list hl ?_)
  refine ⟨s.heap.objs.size, _, _, _, _, _, _, numAt xs, rfl, W, ⟨⟨_, Heap.get?_push_size _ rfl, rfl, rfl⟩, hl.at fun o e => Heap.get?_push_of_some _ e⟩, fun b hb => ?_, fun i v hP => intItems_at hP, fun s' t' hm => ?_⟩
  · rcases List.mem_cons.mp hb with rfl | hb
    · exact Heap.lt_size (Heap.get?_push_size _ rfl)
    · obtain rfl := List.mem_singleton.mp hb
      exact Nat.lt_of_lt_of_eq (Nat.lt_succ_of_lt hal) (Heap.size_push _ _).symm
  · obtain ⟨h', g', d', tk', os'⟩ := s'
    have e1 : g' = s.gens := hm.gens
    have e2 : d' = s.drawn := hm.drawn
    have e3 : os' = s.os := hm.os
    subst e1 e2 e3
    have hk : ∀ b o, s.heap.get? b = some o → h'.get? b = some o := fun b o e => hm.heap b o (fun hb => absurd (Heap.lt_size e) ((List.mem_singleton.mp hb) ▸ Nat.lt_irrefl _)) (Heap.get?_push_of_some _ e)
    rw [preSum_eq, List.take_of_length_le (by simp), hn]
    exact ⟨.int ns.sum, H, I.kept (t' := tk') hk, ⟨t', rfl⟩, q⟩
end
end L2

set_option Elab.async false
set_option linter.all false
set_option maxRecDepth 100000
set_option maxHeartbeats 2000000
/-! all(a list of truths), any(a list of truths) -/
namespace L2
open PySem PySem.Spec PyProof.Rows
theorem bls_get : ∀ {bs : List Bool} {us : List Value}, Vals (bs.map V.bl) us → us = bs.map Value.bool
  | [], us, h => by cases h; rfl
  | b :: bs, us, h => by
    cases h with
    | cons r t =>
      have r : _ = Value.bool b := r
      rw [r, bls_get t]; rfl
theorem all_range : ∀ (bs : List Bool) (f : Nat → Bool), (∀ i b, bs[i]? = some b → f i = b) → (List.range bs.length).all f = bs.all id := fun bs f h => by
  rw [Bool.eq_iff_iff, List.all_eq_true, List.all_eq_true]
  constructor
  · intro g b hb
    obtain ⟨i, hi, e⟩ := List.getElem_of_mem hb
    have := g i (List.mem_range.mpr hi)
    rw [h i b (by rw [List.getElem?_eq_getElem hi, e])] at this
    exact this
  · intro g i hi
    have hi' := List.mem_range.mp hi
    rw [h i bs[i] (List.getElem?_eq_getElem hi')]
    exact g _ (List.getElem_mem hi')
theorem any_range : ∀ (bs : List Bool) (f : Nat → Bool), (∀ i b, bs[i]? = some b → f i = b) → (List.range bs.length).any f = bs.any id := fun bs f h => by
  rw [Bool.eq_iff_iff, List.any_eq_true, List.any_eq_true]
  constructor
  · rintro ⟨i, hi, g⟩
    have hi' := List.mem_range.mp hi
    rw [h i bs[i] (List.getElem?_eq_getElem hi')] at g
    exact ⟨_, List.getElem_mem hi', g⟩
  · rintro ⟨b, hb, g⟩
    obtain ⟨i, hi, e⟩ := List.getElem_of_mem hb
    exact ⟨i, List.mem_range.mpr hi, by rw [h i b (by rw [List.getElem?_eq_getElem hi, e])]; exact g⟩
section
variable {X : Cx}
theorem call_allB (hc : X.calm = true) : CallR X (.builtin "all") (fun vs H Q => ∃ (a : Addr) (bs : List Bool), vs = [.ref a] ∧ SqL X.K H a (bs.map V.bl) ∧ Q (.bl (bs.all id)) H) := by
  intro pins s σ H xs us Q I r h
  obtain ⟨a, bs, rfl, ha, q⟩ := h
  obtain ⟨u, rfl, ru⟩ := vals1 r
  cases ru
  obtain ⟨its, rv, p, hz⟩ := I.list ha
  have hi := bls_get rv
  have hl : s.heap.IsList a its.toArray := p.isList
  have hne : a ≠ s.heap.objs.size := by obtain ⟨o, e, _⟩ := hl; exact Nat.ne_of_lt (Heap.lt_size e)
  have W := Walks.list (prog := X.prog) (w := X.w) (A := X.A.in1) (I.ok.hd hc) s.heap.objs.size a hne its.toArray
  refine call_all_walk (wpAny_pyIter_list hl ?_)
  refine ⟨s.heap.objs.size, _, _, _, _, _, fun i => (bs[i]?).getD true, rfl, W, ⟨⟨_, Heap.get?_push_size _ rfl, rfl, rfl⟩, hl.at fun o e => Heap.get?_push_of_some _ e⟩, fun i v s' Q' E' hP hQ => ?_, fun h' tk hk => ?_⟩
  · have hQ : Q' ((bs[i]?).getD true) s' := hQ
    have hP : its.toArray[i]? = some v := hP
    rw [hi] at hP
    simp only [List.getElem?_toArray, List.getElem?_map] at hP
    cases e : bs[i]? with
    | none => rw [e] at hP; cases hP
    | some b =>
      rw [e] at hP hQ
      cases hP
      exact wpAny_truthy_bool hQ
  · have kk : ∀ b o, s.heap.get? b = some o → h'.get? b = some o := fun b o e => hk b o (fun hb => absurd (Heap.lt_size e) ((List.mem_singleton.mp hb) ▸ Nat.lt_irrefl _)) (Heap.get?_push_of_some _ e)
    have hsz : its.toArray.size = bs.length := by rw [hi]; simp
    rw [hsz, all_range bs _ fun i b e => by rw [e]; rfl]
    exact ⟨.bl (bs.all id), H, I.kept (t' := tk) kk, rfl, q⟩
end
end L2

set_option Elab.async false
set_option linter.all false
set_option maxRecDepth 100000
set_option maxHeartbeats 2000000
/-! zip of two tuples -/
namespace L2
open PySem PySem.Spec PyProof.Rows
section
variable {prog : Program} {w : World} {A : Around} {E : Value → Shared → Prop} {s : Shared}
theorem stop_it {α : Type} {Q : α → Shared → Prop} (hh : A.handled = none) (hE : ∀ h' e, (∀ b o, s.heap.get? b = some o → h'.get? b = some o) → (∃ o, h'.get? e = some o ∧ o.cls = .type "StopIteration") → E (.ref e) { s with heap := h' }) :
    wpAny (model prog w) A (Builtin.SmallTypes.stopIteration : Sem α) Q E s := by
  show wpAny _ _ (newExc (Value.type "StopIteration") [] >>= _) _ _ _
  refine wpAny_bind ?_
  unfold newExc
  refine wpAny_bind (wpAny_newObj_type ?_)
  refine wpAny_bind (wpAny_of_eq (Eq.refl (firstArgMember (Value.type "StopIteration") [])) (wpAny_newObj_type ?_))
  unfold raiseNew
  refine wpAny_bind (wpAny_handled ?_)
  rw [hh]
  refine wpAny_throw ?_
  exact hE _ _ (fun b o e => Heap.get?_push_of_some _ (Heap.get?_push_of_some _ e)) ⟨_, Heap.get?_push_size _ rfl, rfl⟩
theorem nextOf_tuple_item {it l : Addr} {i : Nat} {items : Array Value} {x : Value} {Q : Value → Shared → Prop} (hit : s.heap.IsTupleIter it l i) (hl : s.heap.IsTuple l items) (hx : items[i]? = some x)
    (hQ : ∀ h', h'.IsTupleIter it l (i + 1) → Heap.SameBut it s.heap h' → Q x { s with heap := h' }) : wpAny (model prog w) A (Builtin.SmallTypes.nextOf (Value.ref it)) Q E s := by
  obtain ⟨o, ho, hc, hd⟩ := id hit
  obtain ⟨ol, hol, _, nl, hdl⟩ := hl
  show wpAny _ _ (callSpecial? (Value.ref it) (Str.ofString "__next__") >>= _) _ _ _
  refine wpAny_bind (wpAny_callSpecial?_slot (Heap.IsTupleIter.typeIs hit) slot_tupleiter_next (wpAny_call_entry slot_tupleiter_next (Heap.IsTupleIter.typeIs hit) entry_tupleiter_next ?_ (args_tupleiter_next (Value.ref it))))
  show wpAny _ _ (field (Value.ref it) 0 >>= _) _ _ _
  refine wpAny_bind (wpAny_field ho hd rfl ?_)
  dsimp only
  rw [if_neg (show ¬ (#[Value.ref l, Value.int (↑i) 0][0] == Value.none) = true from Bool.false_ne_true)]
  refine wpAny_bind (wpAny_field ho hd rfl ?_)
  show wpAny _ _ (seqItems? (Value.ref l) >>= _) _ _ _
  refine wpAny_bind (wpAny_seqItems hol hdl ?_)
  dsimp only
  rw [show items[((i : Int)).toNat]? = some x from hx]
  refine wpAny_bind (wpAny_setField ho hd (by simp) (wpAny_pure ⟨x, rfl, wpAny_pure (hQ _ ⟨_, Heap.get?_update_self _ ho (Obj.isFreed_of_fields (Obj.data_mapFields hd _)), (Obj.cls_mapFields o _).trans hc, ?_⟩ (Heap.SameBut.update s.heap it _))⟩))
  rw [Obj.data_mapFields hd]
  rfl
theorem nextOf_tuple_end {it l : Addr} {i : Nat} {items : Array Value} {Q : Value → Shared → Prop} (hh : A.handled = none) (hit : s.heap.IsTupleIter it l i) (hl : s.heap.IsTuple l items) (hx : items[i]? = none)
    (hE : ∀ h' e, Heap.ExtBut it s.heap h' → (∃ o, h'.get? e = some o ∧ o.cls = .type "StopIteration") → E (.ref e) { s with heap := h' }) : wpAny (model prog w) A (Builtin.SmallTypes.nextOf (Value.ref it)) Q E s := by
  obtain ⟨o, ho, hc, hd⟩ := id hit
  obtain ⟨ol, hol, _, nl, hdl⟩ := hl
  show wpAny _ _ (callSpecial? (Value.ref it) (Str.ofString "__next__") >>= _) _ _ _
  refine wpAny_bind (wpAny_callSpecial?_slot (Heap.IsTupleIter.typeIs hit) slot_tupleiter_next (wpAny_call_entry slot_tupleiter_next (Heap.IsTupleIter.typeIs hit) entry_tupleiter_next ?_ (args_tupleiter_next (Value.ref it))))
  show wpAny _ _ (field (Value.ref it) 0 >>= _) _ _ _
  refine wpAny_bind (wpAny_field ho hd rfl ?_)
  dsimp only
  rw [if_neg (show ¬ (#[Value.ref l, Value.int (↑i) 0][0] == Value.none) = true from Bool.false_ne_true)]
  refine wpAny_bind (wpAny_field ho hd rfl ?_)
  show wpAny _ _ (seqItems? (Value.ref l) >>= _) _ _ _
  refine wpAny_bind (wpAny_seqItems hol hdl ?_)
  dsimp only
  rw [show items[((i : Int)).toNat]? = none from hx]
  refine wpAny_bind (wpAny_rule (wpAny_bind (wpAny_setField ho hd (by simp) ?_)))
  refine stop_it (A := A.in1) (by first | exact hh | rfl) fun h' e k hc' => ?_
  exact hE h' e (fun b ob hb eb => k b ob ((Heap.SameBut.update s.heap it _).2 b hb |>.trans eb)) hc'
end
end L2

set_option Elab.async false
set_option linter.all false
set_option maxRecDepth 100000
set_option maxHeartbeats 2000000
namespace L2
open PySem PySem.Spec PyProof.Rows
section
variable {prog : Program} {w : World} {A : Around} {E : Value → Shared → Prop} {s : Shared}
theorem zip_next_itemT {z TI TO i1 i2 l1 l2 : Addr} {k1 k2 : Nat} {xs ys : Array Value} {x y a b : Value} {Q : Value → Shared → Prop} (D : ZipApart z TI TO i1 i2 l1 l2) (hz : IsZip s.heap z TI TO .none) (hTI : IsPair s.heap TI (.ref i1) (.ref i2)) (hTO : IsPair s.heap TO a b)
    (h1 : s.heap.IsTupleIter i1 l1 k1) (h2 : s.heap.IsTupleIter i2 l2 k2) (hl1 : s.heap.IsTuple l1 xs) (hl2 : s.heap.IsTuple l2 ys) (hx : xs[k1]? = some x) (hy : ys[k2]? = some y)
    (hQ : ∀ h', IsZip h' z TI TO (rawInt ↑s.heap.objs.size) → IsPair h' TO x y → h'.IsTupleIter i1 l1 (k1 + 1) → h'.IsTupleIter i2 l2 (k2 + 1) → IsPair h' s.heap.objs.size x y → h'.objs.size = s.heap.objs.size + 1 →
      (∀ c o, c ≠ z → c ≠ TO → c ≠ i1 → c ≠ i2 → s.heap.get? c = some o → h'.get? c = some o) → Q (.ref s.heap.objs.size) { s with heap := h' }) :
    wpAny (model prog w) A (Builtin.«zip.__next__» { pos := [.ref z] }) (fun fin s' => ∃ v, fin = Fin.done (Flow.ret v) ∧ Q v s') E s := by
  show wpAny _ _ (field (Value.ref z) 2 >>= _) _ _ _
  refine wpAny_bind (wpAny_field hz rfl rfl ?_)
  show wpAny _ _ (field (Value.ref z) 3 >>= _) _ _ _
  refine wpAny_bind (wpAny_field hz rfl rfl ?_)
  refine wpAny_bind (wpAny_seqItems hTI rfl ?_)
  show wpAny _ _ (Builtin.SmallTypes.ownedTupleIsFree (Value.ref z) >>= _) _ _ _
  refine wpAny_bind ?_
  show wpAny _ _ (field (Value.ref z) 0 >>= _) _ _ _
  refine wpAny_bind (wpAny_field hz rfl rfl (wpAny_pure ?_))
  dsimp only
  rw [if_pos rfl]
  refine wpAny_bind (wpAny_rule (wpAny_bind (wpAny_field hz rfl rfl ?_)))
  show wpAny _ _ (setField (Value.ref z) 0 Value.ellipsis >>= _) _ _ _
  refine wpAny_bind (wpAny_setField_rec hz (by simp) fun g1 z1 sb1 => ?_)
  simp only [List.zipIdx_cons, List.zipIdx_nil, List.forIn_cons, List.forIn_nil]
  have nxt : ∀ {g g' : Heap} {c : Addr}, Heap.SameBut c g g' → Heap.ExtBut c g g' := fun sb b o hb e => (sb.2 b hb).trans e
  have tupK : ∀ {g g' : Heap} {c t : Addr} {vs : Array Value}, Heap.SameBut c g g' → t ≠ c → g.IsTuple t vs → g'.IsTuple t vs := fun sb hne ⟨o, e, r⟩ => ⟨o, (sb.2 _ hne).trans e, r⟩
  have h11 := h1.extBut (nxt sb1) D.i1z
  have h21 := h2.extBut (nxt sb1) D.i2z
  have hl11 := tupK sb1 D.l1z hl1
  have hl21 := tupK sb1 D.l2z hl2
  have hTO1 : IsPair g1 TO a b := (sb1.2 TO D.TOz).trans hTO
  refine wpAny_bind (wpAny_bind (wpAny_bind (wpAny_onRaise ?_)))
  show wpAny _ _ (Builtin.SmallTypes.nextOf (Value.ref i1) >>= _) _ _ _
  refine wpAny_bind (nextOf_tuple_item (s := { s with heap := g1 }) h11 hl11 hx fun g2 h12 sb2 => wpAny_pure ?_)
  have h22 := h21.extBut (nxt sb2) D.i12.symm
  have hl22 := tupK sb2 D.l2i1 hl21
  have hTO2 : IsPair g2 TO a b := (sb2.2 TO D.TOi1).trans hTO1
  have z2 := (sb2.2 z D.i1z.symm).trans z1
  refine wpAny_bind (wpAny_seqItems hTO2 rfl ?_)
  refine wpAny_bind (wpAny_updateSeq_pair (s := { s with heap := g2 }) hTO2 fun g3 hTO3 sb3 => wpAny_bind (wpAny_letGo (wpAny_pure ?_)))
  have hTO3' : IsPair g3 TO x b := hTO3
  have h13 := h12.extBut (nxt sb3) D.TOi1.symm
  have h23 := h22.extBut (nxt sb3) D.TOi2.symm
  have hl23 := tupK sb3 D.l2TO hl22
  have z3 := (sb3.2 z D.TOz.symm).trans z2
  refine wpAny_bind (wpAny_bind (wpAny_onRaise ?_))
  show wpAny _ _ (Builtin.SmallTypes.nextOf (Value.ref i2) >>= _) _ _ _
  refine wpAny_bind (nextOf_tuple_item (s := { s with heap := g3 }) h23 hl23 hy fun g4 h24 sb4 => wpAny_pure ?_)
  have h14 := h13.extBut (nxt sb4) D.i12
  have hTO4 : IsPair g4 TO x b := (sb4.2 TO D.TOi2).trans hTO3'
  have z4 := (sb4.2 z D.i2z.symm).trans z3
  refine wpAny_bind (wpAny_seqItems hTO4 rfl ?_)
  refine wpAny_bind (wpAny_updateSeq_pair (s := { s with heap := g4 }) hTO4 fun g5 hTO5 sb5 => wpAny_bind (wpAny_letGo (wpAny_pure (wpAny_pure ?_))))
  have hTO5' : IsPair g5 TO x y := hTO5
  have h15 := h14.extBut (nxt sb5) D.TOi1.symm
  have h25 := h24.extBut (nxt sb5) D.TOi2.symm
  have z5 := (sb5.2 z D.TOz.symm).trans z4
  have hs1 : g5.objs.size = s.heap.objs.size := by rw [sb5.1, sb4.1, sb3.1, sb2.1, sb1.1]
  refine wpAny_bind (wpAny_seqItems hTO5' rfl ?_)
  refine wpAny_bind (wpAny_newTuple (s := { s with heap := g5 }) ?_ (by show 2 ≤ sizeLine; decide))
  have z6 : (g5.push { cls := Value.type "tuple", data := Data.seq #[x, y] }).get? z = _ := Heap.get?_push_of_some _ z5
  show wpAny _ _ (Builtin.SmallTypes.ownedTupleHandOut (Value.ref z) (Value.ref g5.objs.size) >>= _) _ _ _
  refine wpAny_bind ?_
  show wpAny _ _ (setField (Value.ref z) 0 (rawInt (g5.objs.size : Int)) >>= _) _ _ _
  refine wpAny_bind (wpAny_setField_rec z6 (by simp) fun g7 z7 sb7 => wpAny_setField_rec z7 (by simp) fun g8 z8 sb8 => wpAny_pure ⟨_, rfl, ?_⟩)
  have ltz : z < s.heap.objs.size := Heap.lt_size hz
  have k8 : ∀ c o, c ≠ z → (g5.push { cls := Value.type "tuple", data := Data.seq #[x, y] }).get? c = some o → g8.get? c = some o := fun c o hc e => (sb8.2 c hc).trans ((sb7.2 c hc).trans e)
  have kp : ∀ c o, c ≠ z → g5.get? c = some o → g8.get? c = some o := fun c o hc e => k8 c o hc (Heap.get?_push_of_some _ e)
  have nz : g5.objs.size ≠ z := by rw [hs1]; exact (Nat.ne_of_lt ltz).symm
  have e56 : (g5.push { cls := Value.type "tuple", data := Data.seq #[x, y] }).get? g5.objs.size = some { cls := Value.type "tuple", data := Data.seq #[x, y] } := Heap.get?_push_size _ rfl
  have q := hQ g8 (by rw [← hs1]; exact z8) (kp TO _ D.TOz hTO5') (h15.at fun o e => kp i1 o D.i1z e) (h25.at fun o e => kp i2 o D.i2z e) (by rw [← hs1]; exact k8 _ _ nz e56)
    (by rw [sb8.1, sb7.1, Heap.size_push, hs1]) (fun c o n1 n2 n3 n4 e => kp c o n1 ((sb5.2 c n2).trans ((sb4.2 c n4).trans ((sb3.2 c n2).trans ((sb2.2 c n3).trans ((sb1.2 c n1).trans e))))))
  rw [← hs1] at q
  exact q
theorem zip_next_endT {z TI TO i1 i2 l1 l2 : Addr} {k1 k2 : Nat} {xs ys : Array Value} {a b : Value} {Q : PySem.Fin → Shared → Prop} (hh : A.handled = none) (D : ZipApart z TI TO i1 i2 l1 l2) (hz : IsZip s.heap z TI TO .none) (hTI : IsPair s.heap TI (.ref i1) (.ref i2)) (hTO : IsPair s.heap TO a b)
    (h1 : s.heap.IsTupleIter i1 l1 k1) (h2 : s.heap.IsTupleIter i2 l2 k2) (hl1 : s.heap.IsTuple l1 xs) (hl2 : s.heap.IsTuple l2 ys) (hx : xs[k1]? = none)
    (hE : ∀ h' e, (∀ c o, c ≠ z → c ≠ TO → c ≠ i1 → c ≠ i2 → s.heap.get? c = some o → h'.get? c = some o) → (∃ o, h'.get? e = some o ∧ o.cls = .type "StopIteration") → E (.ref e) { s with heap := h' }) :
    wpAny (model prog w) A (Builtin.«zip.__next__» { pos := [.ref z] }) Q E s := by
  show wpAny _ _ (field (Value.ref z) 2 >>= _) _ _ _
  refine wpAny_bind (wpAny_field hz rfl rfl ?_)
  show wpAny _ _ (field (Value.ref z) 3 >>= _) _ _ _
  refine wpAny_bind (wpAny_field hz rfl rfl ?_)
  refine wpAny_bind (wpAny_seqItems hTI rfl ?_)
  show wpAny _ _ (Builtin.SmallTypes.ownedTupleIsFree (Value.ref z) >>= _) _ _ _
  refine wpAny_bind ?_
  show wpAny _ _ (field (Value.ref z) 0 >>= _) _ _ _
  refine wpAny_bind (wpAny_field hz rfl rfl (wpAny_pure ?_))
  dsimp only
  rw [if_pos rfl]
  refine wpAny_bind (wpAny_rule (wpAny_bind (wpAny_field hz rfl rfl ?_)))
  show wpAny _ _ (setField (Value.ref z) 0 Value.ellipsis >>= _) _ _ _
  refine wpAny_bind (wpAny_setField_rec hz (by simp) fun g1 z1 sb1 => ?_)
  simp only [List.zipIdx_cons, List.zipIdx_nil, List.forIn_cons, List.forIn_nil]
  have nxt : ∀ {g g' : Heap} {c : Addr}, Heap.SameBut c g g' → Heap.ExtBut c g g' := fun sb b o hb e => (sb.2 b hb).trans e
  have tupK : ∀ {g g' : Heap} {c t : Addr} {vs : Array Value}, Heap.SameBut c g g' → t ≠ c → g.IsTuple t vs → g'.IsTuple t vs := fun sb hne ⟨o, e, r⟩ => ⟨o, (sb.2 _ hne).trans e, r⟩
  have h11 := h1.extBut (nxt sb1) D.i1z
  have hl11 := tupK sb1 D.l1z hl1
  refine wpAny_bind (wpAny_bind (wpAny_bind (wpAny_onRaise ?_)))
  show wpAny _ _ (Builtin.SmallTypes.nextOf (Value.ref i1) >>= _) _ _ _
  refine wpAny_bind (nextOf_tuple_end (s := { s with heap := g1 }) hh h11 hl11 hx fun g2 e eb ⟨oe, he, hce⟩ => ?_)
  have z2 := eb z _ D.i1z.symm z1
  refine wpAny_setField_rec (s := { s with heap := g2 }) z2 (by simp) fun g3 z3 sb3 => ?_
  have nez : e ≠ z := fun w => by
    rw [w, z2] at he
    cases he
    injection hce with q
    exact absurd q (by decide)
  exact hE g3 e (fun c o n1 n2 n3 n4 ee => (sb3.2 c n1).trans (eb c o n3 ((sb1.2 c n1).trans ee))) ⟨oe, (sb3.2 e nez).trans he, hce⟩
end
end L2

set_option Elab.async false
set_option linter.all false
set_option maxRecDepth 100000
set_option maxHeartbeats 2000000
namespace L2
open PySem PySem.Spec PyProof.Rows
abbrev tIter (l : Addr) : Obj := { cls := Value.type "tuple_iterator", data := Data.fields #[Value.ref l, Value.int 0 0] }
theorem meets_zip_newT (l1 l2 : Addr) (xs ys : Array Value) : Meets (Builtin.«zip.__new__» { pos := [Value.type "zip", Value.ref l1, Value.ref l2] }) fun x R s =>
    s.heap.IsTuple l1 xs ∧ s.heap.IsTuple l2 ys ∧ (∀ g : Heap, g = ((((s.heap.push (tIter l1)).push (tIter l2)).push { cls := Value.type "tuple", data := Data.seq #[Value.ref s.heap.objs.size, Value.ref (s.heap.objs.size + 1)] }).push { cls := Value.type "tuple", data := Data.seq #[Value.none, Value.none] }).push
        { cls := Value.type "zip", data := Data.fields #[Value.none, Value.bool false, Value.bool false, Value.ref (s.heap.objs.size + 2), Value.ref (s.heap.objs.size + 3)] } →
      R (Except.ok (Flow.ret (Value.ref (s.heap.objs.size + 4)))) { s with heap := g }) :=
  Meets.of_wp fun prog w A R s h => by
    obtain ⟨hl1, hl2, h⟩ := h
    have hsub := sub_zip
    show wpAny _ _ (Builtin.SmallTypes.newClass "zip" { pos := [Value.type "zip", Value.ref l1, Value.ref l2] } >>= _) _ _ _
    refine wpAny_bind ?_
    unfold Builtin.SmallTypes.newClass
    show wpAny _ _ (isType (Value.type "zip") >>= _) _ _ _
    refine wpAny_bind (wpAny_of_eq (show isType (Value.type "zip") = pure true from rfl) ?_)
    dsimp only
    refine wpAny_ite_false rfl ?_
    refine wpAny_bind (wpAny_of_eq hsub ?_)
    refine wpAny_ite_false rfl (wpAny_pure ?_)
    dsimp only
    refine wpAny_ite_false rfl ?_
    show wpAny _ _ (Builtin.SmallTypes.iterAll [Value.ref l1, Value.ref l2] >>= _) _ _ _
    refine wpAny_bind ?_
    unfold Builtin.SmallTypes.iterAll
    simp only [List.forIn_cons, List.forIn_nil]
    have hl2' : (s.heap.push (tIter l1)).IsTuple l2 ys := by
      obtain ⟨o, e, r⟩ := hl2
      exact ⟨o, Heap.get?_push_of_some _ e, r⟩
    refine wpAny_bind (wpAny_bind (wpAny_bind (wpAny_holding (wpAny_pyIter_tuple hl1 (wpAny_pure ?_)))))
    refine wpAny_bind (wpAny_bind (wpAny_holding (wpAny_pyIter_tuple (s := { s with heap := s.heap.push (tIter l1) }) hl2' (wpAny_pure (wpAny_pure (wpAny_pure ?_))))))
    refine wpAny_bind (wpAny_newTuple ?_ (by show 2 ≤ sizeLine; decide))
    refine wpAny_bind (wpAny_newTuple ?_ (by show 2 ≤ sizeLine; decide))
    dsimp only
    refine wpAny_bind ?_
    unfold Builtin.SmallTypes.newRecord
    refine wpAny_newObj_type (wpAny_pure ⟨_, rfl, ?_⟩) (hd := by first | exact True.intro | (unfold sizeOk; first | exact True.intro | (show ¬ (5 > sizeLine); decide) | (simp [Builtin.SmallTypes.ownedTupleFields]; done) | (simp [Builtin.SmallTypes.ownedTupleFields, sizeLine]; done)))
    dsimp only
    have e1 : (s.heap.push (tIter l1)).objs.size = s.heap.objs.size + 1 := Heap.size_push _ _
    have e2 : ((s.heap.push (tIter l1)).push (tIter l2)).objs.size = s.heap.objs.size + 2 := by rw [Heap.size_push, e1]
    have e3 : ∀ o, (((s.heap.push (tIter l1)).push (tIter l2)).push o).objs.size = s.heap.objs.size + 3 := fun o => by rw [Heap.size_push, e2]
    have e4 : ∀ o o', ((((s.heap.push (tIter l1)).push (tIter l2)).push o).push o').objs.size = s.heap.objs.size + 4 := fun o o' => by rw [Heap.size_push, e3]
    have q := h _ rfl
    simp only [Heap.size_push] at q ⊢
    exact q
theorem call_zip_T {prog : Program} {w : World} {A : Around} {E : Value → Shared → Prop} {s : Shared} {l1 l2 : Addr} {xs ys : Array Value} {Q : Value → Shared → Prop} (hl1 : s.heap.IsTuple l1 xs) (hl2 : s.heap.IsTuple l2 ys)
    (h : ∀ h' : Heap, IsZip h' (s.heap.objs.size + 4) (s.heap.objs.size + 2) (s.heap.objs.size + 3) Value.none → IsPair h' (s.heap.objs.size + 2) (Value.ref s.heap.objs.size) (Value.ref (s.heap.objs.size + 1)) → IsPair h' (s.heap.objs.size + 3) Value.none Value.none →
      h'.IsTupleIter s.heap.objs.size l1 0 → h'.IsTupleIter (s.heap.objs.size + 1) l2 0 → h'.objs.size = s.heap.objs.size + 5 → (∀ c o, s.heap.get? c = some o → h'.get? c = some o) → Q (Value.ref (s.heap.objs.size + 4)) { s with heap := h' }) :
    wpAny (model prog w) A (call (Value.type "zip") [Value.ref l1, Value.ref l2]) Q E s := by
  refine callType_new F.called_zip (by decide) (F.typeCall_zip_2 _ _) (F.newCall_zip_2 _ _) (fun obj => F.args_object_init_3 obj _ _) F.entry_zip_new (meets_zip_newT l1 l2 xs ys) ⟨hl1, hl2, fun g hg => ?_⟩
  have z1 : (s.heap.push (tIter l1)).objs.size = s.heap.objs.size + 1 := Heap.size_push _ _
  have z2 : ((s.heap.push (tIter l1)).push (tIter l2)).objs.size = s.heap.objs.size + 2 := by rw [Heap.size_push, z1]
  have a0 : (s.heap.push (tIter l1)).get? s.heap.objs.size = some (tIter l1) := Heap.get?_push_size _ rfl
  have a1 : ((s.heap.push (tIter l1)).push (tIter l2)).get? (s.heap.objs.size + 1) = some (tIter l2) := by rw [← z1]; exact Heap.get?_push_size _ rfl
  generalize hp1 : (s.heap.push (tIter l1)).push (tIter l2) = p1 at hg z2 a1
  have a0' : p1.get? s.heap.objs.size = some (tIter l1) := by rw [← hp1]; exact Heap.get?_push_of_some _ a0
  have k1 : ∀ c o, s.heap.get? c = some o → p1.get? c = some o := fun c o e => by rw [← hp1]; exact Heap.get?_push_of_some _ (Heap.get?_push_of_some _ e)
  generalize ho2 : ({ cls := Value.type "tuple", data := Data.seq #[Value.ref s.heap.objs.size, Value.ref (s.heap.objs.size + 1)] } : Obj) = o2 at hg
  generalize ho3 : ({ cls := Value.type "tuple", data := Data.seq #[Value.none, Value.none] } : Obj) = o3 at hg
  generalize ho4 : ({ cls := Value.type "zip", data := Data.fields #[Value.none, Value.bool false, Value.bool false, Value.ref (s.heap.objs.size + 2), Value.ref (s.heap.objs.size + 3)] } : Obj) = o4 at hg
  have z3 : (p1.push o2).objs.size = s.heap.objs.size + 3 := by rw [Heap.size_push, z2]
  have z4 : ((p1.push o2).push o3).objs.size = s.heap.objs.size + 4 := by rw [Heap.size_push, z3]
  have z5 : g.objs.size = s.heap.objs.size + 5 := by rw [hg, Heap.size_push, z4]
  have g4 : g.get? (s.heap.objs.size + 4) = some o4 := by rw [hg, ← z4]; exact Heap.get?_push_size _ (by rw [← ho4]; rfl)
  have g3 : g.get? (s.heap.objs.size + 3) = some o3 := by rw [hg, ← z3]; exact Heap.get?_push_of_some _ (Heap.get?_push_size _ (by rw [← ho3]; rfl))
  have g2 : g.get? (s.heap.objs.size + 2) = some o2 := by rw [hg, ← z2]; exact Heap.get?_push_of_some _ (Heap.get?_push_of_some _ (Heap.get?_push_size _ (by rw [← ho2]; rfl)))
  have kk : ∀ c o, p1.get? c = some o → g.get? c = some o := fun c o e => by rw [hg]; exact Heap.get?_push_of_some _ (Heap.get?_push_of_some _ (Heap.get?_push_of_some _ e))
  refine ⟨⟨_, g4, by rw [← ho4]⟩, ?_⟩
  exact h g (g4.trans (by rw [← ho4])) (g2.trans (by rw [← ho2])) (g3.trans (by rw [← ho3])) ⟨_, kk _ _ a0', rfl, rfl⟩ ⟨_, kk _ _ a1, rfl, rfl⟩ z5 fun c o e => kk c o (k1 c o e)
section
variable {prog : Program} {w : World} {A : Around} {E : Value → Shared → Prop} {s : Shared}
theorem pyNext_zip_itemT {z TI TO i1 i2 l1 l2 : Addr} {k1 k2 : Nat} {xs ys : Array Value} {x y a b : Value} {Q : Option Value → Shared → Prop} (D : ZipApart z TI TO i1 i2 l1 l2) (hz : IsZip s.heap z TI TO .none) (hTI : IsPair s.heap TI (.ref i1) (.ref i2)) (hTO : IsPair s.heap TO a b)
    (h1 : s.heap.IsTupleIter i1 l1 k1) (h2 : s.heap.IsTupleIter i2 l2 k2) (hl1 : s.heap.IsTuple l1 xs) (hl2 : s.heap.IsTuple l2 ys) (hx : xs[k1]? = some x) (hy : ys[k2]? = some y)
    (hQ : ∀ h', IsZip h' z TI TO (rawInt ↑s.heap.objs.size) → IsPair h' TO x y → h'.IsTupleIter i1 l1 (k1 + 1) → h'.IsTupleIter i2 l2 (k2 + 1) → IsPair h' s.heap.objs.size x y → h'.objs.size = s.heap.objs.size + 1 →
      (∀ c o, c ≠ z → c ≠ TO → c ≠ i1 → c ≠ i2 → s.heap.get? c = some o → h'.get? c = some o) → Q (some (.ref s.heap.objs.size)) { s with heap := h' }) :
    wpAny (model prog w) A (pyNext (.ref z)) Q E s := by
  have hT : s.TypeIs (.ref z) "zip" := ⟨_, hz, rfl⟩
  exact id (wpAny_bind (wpAny_attempt (wpAny_callSpecial?_slot hT F.slot_zip_next (wpAny_call_entry F.slot_zip_next hT F.entry_zip_next (zip_next_itemT D hz hTI hTO h1 h2 hl1 hl2 hx hy fun h' a1 a2 a3 a4 a5 a6 a7 => wpAny_pure (hQ h' a1 a2 a3 a4 a5 a6 a7)) (F.args_zip_next_1 (.ref z))))))
theorem pyNext_zip_endT {z TI TO i1 i2 l1 l2 : Addr} {k1 k2 : Nat} {xs ys : Array Value} {a b : Value} {Q : Option Value → Shared → Prop} (hh : A.handled = none) (D : ZipApart z TI TO i1 i2 l1 l2) (hz : IsZip s.heap z TI TO .none) (hTI : IsPair s.heap TI (.ref i1) (.ref i2)) (hTO : IsPair s.heap TO a b)
    (h1 : s.heap.IsTupleIter i1 l1 k1) (h2 : s.heap.IsTupleIter i2 l2 k2) (hl1 : s.heap.IsTuple l1 xs) (hl2 : s.heap.IsTuple l2 ys) (hx : xs[k1]? = none)
    (hQ : ∀ h', (∀ c o, c ≠ z → c ≠ TO → c ≠ i1 → c ≠ i2 → s.heap.get? c = some o → h'.get? c = some o) → Q none { s with heap := h' }) :
    wpAny (model prog w) A (pyNext (.ref z)) Q E s := by
  have hT : s.TypeIs (.ref z) "zip" := ⟨_, hz, rfl⟩
  exact id (wpAny_bind (wpAny_attempt (wpAny_callSpecial?_slot hT F.slot_zip_next (wpAny_call_entry F.slot_zip_next hT F.entry_zip_next (zip_next_endT hh D hz hTI hTO h1 h2 hl1 hl2 hx fun h' e hk ⟨o, ho, hc⟩ =>
    wpAny_bind (wpAny_isInstance ⟨o, ho, hc⟩ isSubtype_stop (wpAny_pure (hQ h' hk)))) (F.args_zip_next_1 (.ref z))))))
end
end L2

set_option Elab.async false
set_option linter.all false
set_option maxRecDepth 100000
set_option maxHeartbeats 2000000
/-! for a, b in zip(two tuples) -/
namespace L2
open PySem PySem.Spec PyProof.Rows
def ItzT (K : PySem.W.Frag) (a b : Addr) : It :=
  ⟨fun i H => ∃ xs ys x y, SqT K H a xs ∧ SqT K H b ys ∧ xs[i]? = some x ∧ ys[i]? = some y,
   fun i H v H' => ∃ T x y, v = .ref T ∧ H T = none ∧ H' = upd H T (.tup [x, y]) ∧ (∀ xs, SqT K H a xs → xs[i]? = some x) ∧ ∀ ys, SqT K H b ys → ys[i]? = some y,
   fun i H => ∃ xs ys, SqT K H a xs ∧ SqT K H b ys ∧ xs.length ≤ i⟩
def zipStT (z TI TO i1 i2 l1 l2 : Addr) (i : Nat) (h : Heap) : Prop :=
  IsZip h z TI TO .none ∧ IsPair h TI (.ref i1) (.ref i2) ∧ (∃ a b, IsPair h TO a b) ∧ h.IsTupleIter i1 l1 i ∧ h.IsTupleIter i2 l2 i
theorem turn_zipT {P : Program} {w : World} {K : PySem.W.Frag} {elts : List Expr} {k0 : Nat} {tpos : Pos} (z TI TO i1 i2 l1 l2 : Addr) (D : ZipApart z TI TO i1 i2 l1 l2) :
    Turn P w K (.Tuple elts k0 tpos) (ItzT K l1 l2) [z, TI, TO, i1, i2] z (zipStT z TI TO i1 i2 l1 l2) where
  mem := by simp
  obj := fun i h st b hb => by
    obtain ⟨hz, hTI, ⟨a, c, hTO⟩, ⟨o1, e1, c1, d1⟩, ⟨o2, e2, c2, d2⟩⟩ := st
    simp only [List.mem_cons, List.not_mem_nil, or_false] at hb
    rcases hb with rfl | rfl | rfl | rfl | rfl
    · exact ⟨_, hz, fun v q => by cases q⟩
    · exact ⟨_, hTI, fun v q => by cases q⟩
    · exact ⟨_, hTO, fun v q => by cases q⟩
    · exact ⟨o1, e1, fun v q => by rw [d1] at q; cases q⟩
    · exact ⟨o2, e2, fun v q => by rw [d2] at q; cases q⟩
  keep := fun i h h' st k => by
    obtain ⟨hz, hTI, ⟨a, c, hTO⟩, h1, h2⟩ := st
    exact ⟨k z (by simp) _ hz, k TI (by simp) _ hTI, ⟨a, c, k TO (by simp) _ hTO⟩, h1.at fun o e => k i1 (by simp) o e, h2.at fun o e => k i2 (by simp) o e⟩
  item := by
    intro X hP hw hK hc i pins s σ H E I hf st hg
    subst hP hw hK
    obtain ⟨hz, hTI, ⟨a, c, hTO⟩, h1, h2⟩ := st
    obtain ⟨xs, ys, x, y, q1, q2, hx, hy⟩ := hg
    obtain ⟨its1, rv1, p1, _⟩ := I.tuple q1
    obtain ⟨its2, rv2, p2, _⟩ := I.tuple q2
    obtain ⟨u1, hu1, ru1⟩ := rv1.get hx
    obtain ⟨u2, hu2, ru2⟩ := rv2.get hy
    refine pyNext_zip_itemT D hz hTI hTO h1 h2 (show s.heap.IsTuple l1 its1.toArray from p1) (show s.heap.IsTuple l2 its2.toArray from p2) (x := u1) (y := u2) (by simpa using hu1) (by simpa using hu2) fun h' a1 a2 a3 a4 a5 a6 kk => ?_
    have hT : H s.heap.objs.size = none := I.hok.fresh (Nat.le_refl _)
    have nch : ∀ b u, H b = some u → b ∉ [z, TO, i1, i2] := fun b u e hb => by
      have hb' : b ∈ [z, TI, TO, i1, i2] := by
        simp only [List.mem_cons, List.not_mem_nil, or_false] at hb ⊢
        rcases hb with q | q | q | q
        · exact .inl q
        · exact .inr (.inr (.inl q))
        · exact .inr (.inr (.inr (.inl q)))
        · exact .inr (.inr (.inr (.inr q)))
      rw [(hf b hb').1] at e; cases e
    have kk' : ∀ b o, b ∉ [z, TO, i1, i2] → s.heap.get? b = some o → h'.get? b = some o := fun b o hb e => by
      simp only [List.mem_cons, List.not_mem_nil, or_false, not_or] at hb
      exact kk b o hb.1 hb.2.1 hb.2.2.1 hb.2.2.2 e
    have ltT : ∀ b o, s.heap.get? b = some o → b ≠ s.heap.objs.size := fun b o e => Nat.ne_of_lt (Heap.lt_size e)
    have hokT : HOk X.prog X.w (upd H s.heap.objs.size (.tup [x, y])) h' := fun b ob e => by
      by_cases hb : b = s.heap.objs.size
      · subst hb
        rw [upd_same] at e
        cases e
        exact ⟨by show 2 ≤ sizeLine; decide, [u1, u2], .cons ru1 (.cons ru2 .nil), _, a5, rfl, _, rfl⟩
      · rw [upd_ne hb] at e
        refine (I.hok b ob e).stay (fun c v hcv q => kk' c v ?_ q) (fun c q => by rw [upd_ne (ne_of_none q hT)]; exact q) fun c xs q => by rw [upd_ne (ne_of_none q hT)]; exact q
        rcases hcv with rfl | hcv
        · exact nch _ _ e
        · exact nch _ _ hcv
    have I1 : Inv X pins σ (upd H s.heap.objs.size (.tup [x, y])) { s with heap := h' } := by
      refine I.step (g' := s.gens) (d' := s.drawn) (t' := s.toks) (ch := [z, TO, i1, i2]) (fun b hb => ?_) (fun b o _ _ hb e _ => kk' b o hb e) (fun b o _ _ hb e _ => ⟨o.slots, kk' b o hb e⟩) (fun b o _ e n => by rw [upd_ne (ltT b o e)]; exact n) (fun b o hb e => ⟨o, kk' b o hb e⟩)
        (fun b xs q => by rw [upd_ne (ne_of_none q hT)]; exact q) (fun b o u q => by rw [upd_ne (ne_of_none q hT)]; exact q) (fun b ps q => ⟨#[], by rw [upd_ne (ne_of_none q hT), q]; simp⟩) (fun m hm => ?_) hokT I.bare
      · have hb' : b ∈ [z, TI, TO, i1, i2] := by
          simp only [List.mem_cons, List.not_mem_nil, or_false] at hb ⊢
          rcases hb with q | q | q | q
          · exact .inl q
          · exact .inr (.inr (.inl q))
          · exact .inr (.inr (.inr (.inl q)))
          · exact .inr (.inr (.inr (.inr q)))
        obtain ⟨f0, f1, f2, f3, f4, f5⟩ := hf b hb'
        exact ⟨f3, f1, f4, f5⟩
      · obtain ⟨o, es, ep, ho, r⟩ := hm
        refine ⟨o, es, ep, kk' _ o ?_ ho, r⟩
        simp only [List.mem_cons, List.not_mem_nil, or_false, not_or]
        exact ⟨((hf z (by simp)).2.1).symm, ((hf TO (by simp)).2.1).symm, ((hf i1 (by simp)).2.1).symm, ((hf i2 (by simp)).2.1).symm⟩
    refine ⟨_, rfl, wpAny_letOwnedTupleGo_zip a1 fun h'' hz'' sb => ?_⟩
    obtain ⟨f0, f1, f2, f3, f4, f5⟩ := hf z (by simp)
    have ltz : ∀ b ∈ [z, TI, TO, i1, i2], b ≠ s.heap.objs.size := fun b hb => by
      simp only [List.mem_cons, List.not_mem_nil, or_false] at hb
      obtain ⟨o1, e1, _⟩ := h1
      obtain ⟨o2, e2, _⟩ := h2
      rcases hb with rfl | rfl | rfl | rfl | rfl
      · exact ltT _ _ hz
      · exact ltT _ _ hTI
      · exact ltT _ _ hTO
      · exact ltT _ _ e1
      · exact ltT _ _ e2
    have fn : ∀ b ∈ [z, TI, TO, i1, i2], upd H s.heap.objs.size (.tup [x, y]) b = none := fun b hb => by rw [upd_ne (ltz b hb)]; exact (hf b hb).1
    have I2 : Inv X pins σ (upd H s.heap.objs.size (.tup [x, y])) { s with heap := h'' } := I1.turned (t' := s.toks) (fun b o hb e => (sb.2 b hb).trans e) (fn z (by simp)) f1 f3 f4 f5
    refine ⟨.ref s.heap.objs.size, _, I2, rfl, ⟨_, x, y, rfl, hT, rfl, fun ys hy' => by rw [I.tuple_inj hy' q1]; exact hx, fun ys hy' => by rw [I.tuple_inj hy' q2]; exact hy⟩, ⟨hz'', ?_, ⟨u1, u2, ?_⟩, ?_, ?_⟩, fn⟩
    · exact (sb.2 TI D.TIz).trans (kk' TI _ (by simp only [List.mem_cons, List.not_mem_nil, or_false, not_or]; exact ⟨D.TIz, D.TITO, D.TIi1, D.TIi2⟩) hTI)
    · exact (sb.2 TO D.TOz).trans a2
    · exact a3.extBut sb.extBut D.i1z
    · exact a4.extBut sb.extBut D.i2z
  done := by
    intro X hP hw hK hc i pins s σ H E I hf st hg
    subst hP hw hK
    obtain ⟨hz, hTI, ⟨a, c, hTO⟩, h1, h2⟩ := st
    obtain ⟨xs, ys, q1, q2, hend⟩ := hg
    obtain ⟨its1, rv1, p1, _⟩ := I.tuple q1
    obtain ⟨its2, rv2, p2, _⟩ := I.tuple q2
    have e1 := rv1.length
    have e2 := rv2.length
    refine pyNext_zip_endT (I.ok.hd hc) D hz hTI hTO h1 h2 (show s.heap.IsTuple l1 its1.toArray from p1) (show s.heap.IsTuple l2 its2.toArray from p2) ?_ fun h' kk => ⟨rfl, ?_⟩
    · simp; omega
    · have nch : ∀ b u, H b = some u → b ∉ [z, TO, i1, i2] := fun b u e hb => by
        have hb' : b ∈ [z, TI, TO, i1, i2] := by
          simp only [List.mem_cons, List.not_mem_nil, or_false] at hb ⊢
          rcases hb with q | q | q | q
          · exact .inl q
          · exact .inr (.inr (.inl q))
          · exact .inr (.inr (.inr (.inl q)))
          · exact .inr (.inr (.inr (.inr q)))
        rw [(hf b hb').1] at e; cases e
      have kk' : ∀ b o, b ∉ [z, TO, i1, i2] → s.heap.get? b = some o → h'.get? b = some o := fun b o hb e => by
        simp only [List.mem_cons, List.not_mem_nil, or_false, not_or] at hb
        exact kk b o hb.1 hb.2.1 hb.2.2.1 hb.2.2.2 e
      have hok' : HOk X.prog X.w H h' := fun b ob e => by
        refine (I.hok b ob e).stay (fun c v hcv q => kk' c v ?_ q) (fun c q => q) fun c xs q => q
        rcases hcv with rfl | hcv
        · exact nch _ _ e
        · exact nch _ _ hcv
      refine I.step (g' := s.gens) (d' := s.drawn) (t' := s.toks) (ch := [z, TO, i1, i2]) (fun b hb => ?_) (fun b o _ _ hb e _ => kk' b o hb e) (fun b o _ _ hb e _ => ⟨o.slots, kk' b o hb e⟩) (fun b o _ e n => n) (fun b o _ e => ?_)
        (fun b xs q => q) (fun b o u q => q) (fun b ps q => ⟨#[], by rw [q]; simp⟩) (fun m hm => ?_) hok' I.bare
      · have hb' : b ∈ [z, TI, TO, i1, i2] := by
          simp only [List.mem_cons, List.not_mem_nil, or_false] at hb ⊢
          rcases hb with q | q | q | q
          · exact .inl q
          · exact .inr (.inr (.inl q))
          · exact .inr (.inr (.inr (.inl q)))
          · exact .inr (.inr (.inr (.inr q)))
        obtain ⟨f0, f1, f2, f3, f4, f5⟩ := hf b hb'
        exact ⟨f3, f1, f4, f5⟩
      · rename_i hb
        exact ⟨o, kk' b o hb e⟩
      · obtain ⟨o, es, ep, ho, r⟩ := hm
        refine ⟨o, es, ep, kk' _ o ?_ ho, r⟩
        simp only [List.mem_cons, List.not_mem_nil, or_false, not_or]
        exact ⟨((hf z (by simp)).2.1).symm, ((hf TO (by simp)).2.1).symm, ((hf i1 (by simp)).2.1).symm, ((hf i2 (by simp)).2.1).symm⟩
  self := fun _ _ _ _ _ st h => wpAny_pyIter_zip st.1 h
section
variable {X : Cx}
def iZipT (K : PySem.W.Frag) (ta : TA) : TI := fun σ H R => ta σ H fun vs H1 => ∃ a b, vs = [.ref a, .ref b] ∧ (∃ xs, SqT K H1 a xs) ∧ (∃ ys, SqT K H1 b ys) ∧ R (ItzT K a b) H1
theorem pi_zipT {a b : Expr} {ta : TA} {p pos : Pos} {elts : List Expr} {k0 : Nat} {tpos : Pos} (hg : Gl X "zip") (hm : X.mg "zip" = none) (ha : PA X [a, b] ta) (hs : starEach [a, b] X.env = [(false, eval a X.env), (false, eval b X.env)] := by rfl) (hs2 : starEach [b] X.env = [(false, eval b X.env)] := by rfl) :
    PI X (.Tuple elts k0 tpos) (.Call (.Name "zip" p) [a, b] [] pos) (iZipT X.K ta) := by
  intro pins s σ H R I h
  refine Call_ (ld_blt I hg hm (by first | exact PySem.boot_zip | rfl) (PyProof.Rows.callWith_type1 (thn (ha pos pins s σ H _ I h) fun us s1 ⟨vs, H1, I1, r1, q1⟩ => ?_) (by rw [hs, hs2]) (by rw [hs2]; rfl)))
  obtain ⟨l1, l2, e, ⟨xs, q1⟩, ⟨ys, q2⟩, q⟩ := q1
  subst e
  obtain ⟨u1, u2, rfl, ru1, ru2⟩ := vals2 r1
  cases ru1
  cases ru2
  obtain ⟨its1, rv1, p1, _⟩ := I1.tuple q1
  obtain ⟨its2, rv2, p2, _⟩ := I1.tuple q2
  have a1 : l1 < s1.heap.objs.size := p1.lt
  have a2 : l2 < s1.heap.objs.size := p2.lt
  refine call_zip_T (show s1.heap.IsTuple l1 its1.toArray from p1) (show s1.heap.IsTuple l2 its2.toArray from p2) fun h' hz hTI hTO hi1 hi2 _ hk => wpAny_pyIter_zip hz ?_
  have I2 : Inv X pins σ H1 { s1 with heap := h' } := I1.kept (t' := s1.toks) hk
  refine ⟨_, _, _, _, H1, rfl, I2, turn_zipT _ _ _ _ _ l1 l2 (zipApart_new a1 a2), ⟨hz, hTI, ⟨_, _, hTO⟩, hi1, hi2⟩, fun b hb => ?_, q⟩
  have hb' : s1.heap.objs.size ≤ b := by
    simp only [List.mem_cons, List.not_mem_nil, or_false] at hb
    rcases hb with rfl | rfl | rfl | rfl | rfl <;> omega
  exact I1.fpOk hb' (I1.hok.fresh hb')
theorem pi_zipTK {K : PySem.W.Frag} {a b : Expr} {ta : TA} {p pos : Pos} {elts : List Expr} {k0 : Nat} {tpos : Pos} (e : X.K = K) (hg : Gl X "zip") (hm : X.mg "zip" = none) (ha : PA X [a, b] ta) (hs : starEach [a, b] X.env = [(false, eval a X.env), (false, eval b X.env)] := by rfl) (hs2 : starEach [b] X.env = [(false, eval b X.env)] := by rfl) :
    PI X (.Tuple elts k0 tpos) (.Call (.Name "zip" p) [a, b] [] pos) (iZipT K ta) := by subst e; exact pi_zipT hg hm ha hs hs2
end
theorem lcW_zipT {K : PySem.W.Frag} {σ0 : St} {a b : Addr} {xs ys : List V} {acc : Addr} {g : TG} {te : TE} {Q : VK} {H : Hp} (Pv : Nat → List V → Hp → Prop) (hxy : xs.length = ys.length) (h0 : Pv 0 [] (upd H acc (.lst []))) (hl : ∀ i zs H2, i ≤ xs.length → Pv i zs H2 → H2 acc = some (.lst zs) ∧ zs.length < sizeLine ∧ SqT K H2 a xs ∧ SqT K H2 b ys)
    (hs : ∀ i x y zs H2 T, xs[i]? = some x → ys[i]? = some y → H2 T = none → Pv i zs H2 → ∀ C : VK, (∀ z H5, H5 acc = some (.lst zs) → Pv (i + 1) (zs ++ [z]) (upd H5 acc (.lst (zs ++ [z]))) → C z H5) → g (.ref T) σ0 (upd H2 T (.tup [x, y])) fun σ4 H4 => Wk σ0 σ4 ∧ te σ4 H4 C) (hd : ∀ zs H2, Pv xs.length zs H2 → Q (.ref acc) H2) :
    ∃ W : Nat → Nat → List V → Hp → Prop, (∃ m, W 0 m [] (upd H acc (.lst []))) ∧ lcW K σ0 (ItzT K a b) acc g te Q W := by
  refine ⟨fun i m zs H2 => m = xs.length - i ∧ i ≤ xs.length ∧ Pv i zs H2, ⟨xs.length, by simp, Nat.zero_le _, h0⟩, ?_⟩
  rintro i m zs H2 ⟨rfl, hi, p⟩
  obtain ⟨e1, e2, q1, q2⟩ := hl i zs H2 hi p
  refine ⟨e1, e2, ?_⟩
  by_cases hlt : i < xs.length
  · refine .inr ⟨⟨xs, ys, xs[i], ys[i], q1, q2, by simp [hlt], by simp [hxy ▸ hlt]⟩, fun v H3 z => ?_⟩
    obtain ⟨T, x, y, rfl, hT, rfl, z1, z2⟩ := z
    exact hs i x y zs H2 T (z1 xs q1) (z2 ys q2) hT p _ fun v H5 z1 z2 => ⟨z1, xs.length - (i + 1), by omega, rfl, hlt, z2⟩
  · have e : i = xs.length := by omega
    subst e
    exact .inl ⟨⟨xs, ys, q1, q2, Nat.le_refl _⟩, hd zs H2 p⟩
end L2

set_option Elab.async false
set_option linter.all false
set_option maxRecDepth 100000
set_option maxHeartbeats 2000000
/-! FOLDED, weights, the measure -/
namespace Ken
open PySem L2
theorem pre_drop : ∀ (t : Tm) (j : Nat), j < t.pre.length → ∃ s rest, t.pre[j]? = some s ∧ t.pre.drop j = s.pre ++ rest ∧ s.parts ≤ t.parts
  | .low, j, h => by
    have : j = 0 := by have h' : j < 1 := h; omega
    subst this
    exact ⟨.low, [], rfl, rfl, Nat.le_refl _⟩
  | .ltr w, j, h => by
    have : j = 0 := by have h' : j < 1 := h; omega
    subst this
    exact ⟨.ltr w, [], rfl, rfl, Nat.le_refl _⟩
  | .nd k a b, 0, h => ⟨.nd k a b, [], rfl, by rw [List.append_nil]; rfl, Nat.le_refl _⟩
  | .nd k a b, j + 1, h => by
    have e1 : (Tm.nd k a b).pre = .nd k a b :: (a.pre ++ b.pre) := rfl
    have e2 : (Tm.nd k a b).parts = 1 + a.parts + b.parts := rfl
    rw [e1] at h ⊢
    rw [List.length_cons, List.length_append] at h
    rw [List.getElem?_cons_succ, List.drop_succ_cons, e2]
    by_cases hj : j < a.pre.length
    · obtain ⟨s, rest, h1, h2, h3⟩ := pre_drop a j hj
      refine ⟨s, rest ++ b.pre, by rw [List.getElem?_append_left hj]; exact h1, ?_, by omega⟩
      rw [List.drop_append_of_le_length (Nat.le_of_lt hj), h2, List.append_assoc]
    · obtain ⟨s, rest, h1, h2, h3⟩ := pre_drop b (j - a.pre.length) (by omega)
      refine ⟨s, rest, by rw [List.getElem?_append_right (by omega)]; exact h1, ?_, by omega⟩
      rw [List.drop_append, List.drop_of_length_le (by omega), List.nil_append]; exact h2
theorem pre_head (t : Tm) : ∃ l, t.pre = t :: l := ⟨_, t.pre_eq⟩
theorem forest_head {fs : List Tm} {a : Tm} {rest : List Tm} (h : fs.flatMap Tm.pre = a.pre ++ rest) : ∃ fs', fs = a :: fs' ∧ fs'.flatMap Tm.pre = rest := by
  cases fs with
  | nil =>
    obtain ⟨l, e⟩ := pre_head a
    rw [e] at h; cases h
  | cons f fs =>
    obtain ⟨l, e⟩ := pre_head f
    obtain ⟨m, e'⟩ := pre_head a
    have h' := h
    rw [List.flatMap_cons, e, e'] at h'
    have ef : f = a := (List.cons.inj h').1
    subst ef
    rw [List.flatMap_cons] at h
    exact ⟨fs, rfl, List.append_cancel_left h⟩
theorem forest_nil {fs : List Tm} (h : fs.flatMap Tm.pre = []) : fs = [] := by
  cases fs with
  | nil => rfl
  | cons f fs =>
    obtain ⟨l, e⟩ := pre_head f
    rw [List.flatMap_cons, e] at h; cases h
/-- what is told of a letter, and of what can't be -/
def sp_of1 (K : PySem.W.Frag) (R : Tm → V → Prop) : Sp := fun vs H Q _ => ∃ (v : V) (t : Tm), vs = [v] ∧ IsT K H v t ∧ t.kids = [] ∧ ∀ (r : V) (H' : Hp), Same H H' → R t r → Q r H'
/-- what is told of a statement by what was told of its two ones -/
def sp_of2 (R : Tm → V → Prop) (B : Nat) : Sp := fun vs H Q _ => ∃ (k : Kd) (a b : Tm) (x y : V), vs = [.str k.str, x, y] ∧ R a x ∧ R b y ∧ (Tm.nd k a b).parts ≤ B ∧ ∀ (r : V) (H' : Hp), Same H H' → R (.nd k a b) r → Q r H'
def sp_folded (K : PySem.W.Frag) (R : Tm → V → Prop) (B : Nat) (fs fp : Addr) : Sp := fun vs H Q _ => ∃ (v : V) (t : Tm), vs = [v, .ref fs, .ref fp] ∧ IsT K H v t ∧ t.parts ≤ B ∧ B ≤ 400 ∧ ∀ (r : V) (H' : Hp), Same H H' → R t r → Q r H'
/-! weights -/
def Tm.wt : Tm → Int
  | .low => 2
  | .ltr _ => 2
  | .nd .both a b => a.wt * b.wt + a.wt + b.wt
  | .nd .one a b => a.wt + b.wt + 1
  | .nd .thn a b => a.wt * (b.wt + 1)
def Tm.leaves : Tm → Nat
  | .low => 1
  | .ltr _ => 1
  | .nd _ a b => a.leaves + b.leaves
theorem Tm.leaves_parts : ∀ t : Tm, 2 * t.leaves = t.parts + 1
  | .low => rfl
  | .ltr _ => rfl
  | .nd _ a b => by
    show 2 * (a.leaves + b.leaves) = 1 + a.parts + b.parts + 1
    have := a.leaves_parts
    have := b.leaves_parts
    omega
theorem pow3 (n : Nat) : (1 : Int) ≤ 3 ^ n := by
  induction n with
  | zero => decide
  | succ n ih => rw [Int.pow_succ]; omega
theorem Tm.wt_bd : ∀ t : Tm, 2 ≤ t.wt ∧ t.wt + 1 ≤ 3 ^ t.leaves
  | .low => by decide
  | .ltr _ => ⟨Int.le_refl _, by show (2 : Int) + 1 ≤ 3 ^ 1; decide⟩
  | .nd k a b => by
    obtain ⟨a1, a2⟩ := a.wt_bd
    obtain ⟨b1, b2⟩ := b.wt_bd
    have e : (3 : Int) ^ (Tm.nd k a b).leaves = 3 ^ a.leaves * 3 ^ b.leaves := by
      show (3 : Int) ^ (a.leaves + b.leaves) = _
      rw [Int.pow_add]
    rw [e]
    have m : (a.wt + 1) * (b.wt + 1) ≤ 3 ^ a.leaves * 3 ^ b.leaves := Int.mul_le_mul a2 b2 (by omega) (by have := pow3 a.leaves; omega)
    have m2 : (a.wt + 1) * (b.wt + 1) = a.wt * b.wt + a.wt + b.wt + 1 := by rw [Int.add_mul, Int.mul_add]; omega
    have m3 : a.wt * (b.wt + 1) = a.wt * b.wt + a.wt := by rw [Int.mul_add]; omega
    have m4 : 2 * b.wt ≤ a.wt * b.wt := Int.mul_le_mul_of_nonneg_right a1 (by omega)
    have m5 : a.wt * 2 ≤ a.wt * b.wt := Int.mul_le_mul_of_nonneg_left b1 (by omega)
    rw [m2] at m
    cases k with
    | both => show 2 ≤ a.wt * b.wt + a.wt + b.wt ∧ a.wt * b.wt + a.wt + b.wt + 1 ≤ _; exact ⟨by omega, by omega⟩
    | one => show 2 ≤ a.wt + b.wt + 1 ∧ a.wt + b.wt + 1 + 1 ≤ _; exact ⟨by omega, by omega⟩
    | thn => show 2 ≤ a.wt * (b.wt + 1) ∧ a.wt * (b.wt + 1) + 1 ≤ _; rw [m3]; exact ⟨by omega, by omega⟩
theorem pow_mono {a b : Nat} (h : a ≤ b) : (3 : Int) ^ a ≤ 3 ^ b := by
  obtain ⟨c, rfl⟩ := Nat.le.dest h
  rw [Int.pow_add]
  have h1 := pow3 c
  have h2 := pow3 a
  have := Int.mul_le_mul_of_nonneg_left h1 (show (0 : Int) ≤ 3 ^ a by omega)
  omega
theorem Tm.wt_lt {t : Tm} (h : t.parts ≤ 79) : t.wt < 12157665459056928801 := by
  have h1 := t.wt_bd.2
  have h2 := t.leaves_parts
  have h3 : (3 : Int) ^ t.leaves ≤ 3 ^ 40 := pow_mono (by omega)
  have h4 : (3 : Int) ^ 40 = 12157665459056928801 := by decide
  omega
def R_wt : Tm → V → Prop := fun t v => v = .int t.wt
def sp_weight (K : PySem.W.Frag) : Sp := fun vs H Q _ => ∃ (v : V) (t : Tm), vs = [v] ∧ IsT K H v t ∧ t.parts ≤ 79 ∧ ∀ H', Same H H' → Q (.int t.wt) H'
def sp_measure (K : PySem.W.Frag) : Sp := fun vs H Q _ => ∃ (a : Addr) (g : V) (xs : List V) (ts : List Tm) (u : Tm), vs = [.ref a, g] ∧ SqL K H a xs ∧ Paired (IsT K H) xs ts ∧ ts.length < 64 ∧ (∀ t ∈ ts, t.parts ≤ 79) ∧ IsT K H g u ∧ u.parts ≤ 79 ∧
  ∀ (H' : Hp) (os : List Tm), Same H H' → os.Nodup → (∀ t, t ∈ os ↔ t ∈ ts) → Q (.int ((os.map Tm.wt).sum + u.wt)) H'
theorem sum_same {f : Tm → Int} : ∀ {os ds : List Tm}, os.Nodup → ds.Nodup → (∀ t, t ∈ os ↔ t ∈ ds) → (os.map f).sum = (ds.map f).sum
  | [], ds, _, _, h => by
    cases ds with
    | nil => rfl
    | cons d ds => exact absurd ((h d).mpr List.mem_cons_self) (by simp)
  | o :: os, ds, ho, hd, h => by
    obtain ⟨l, r, rfl⟩ := List.append_of_mem ((h o).mp List.mem_cons_self)
    have h1 := List.nodup_cons.mp ho
    have hp : List.Perm (l ++ o :: r) (o :: (l ++ r)) := List.perm_middle
    have hd' := List.nodup_cons.mp (hp.nodup_iff.mp hd)
    have e := sum_same (f := f) h1.2 hd'.2 fun t => by
      constructor
      · intro ht
        have := hp.mem_iff.mp ((h t).mp (List.mem_cons_of_mem _ ht))
        rcases List.mem_cons.mp this with z | z
        · exact absurd (z ▸ ht) h1.1
        · exact z
      · intro ht
        have := (h t).mpr (hp.mem_iff.mpr (List.mem_cons_of_mem _ ht))
        rcases List.mem_cons.mp this with z | z
        · exact absurd (z ▸ ht) hd'.1
        · exact z
    rw [List.map_cons, List.sum_cons, e, List.map_append, List.map_append, List.sum_append, List.sum_append, List.map_cons, List.sum_cons]
    omega
theorem len_le_of_subT : ∀ {os ts : List Tm}, os.Nodup → (∀ t ∈ os, t ∈ ts) → os.length ≤ ts.length
  | [], _, _, _ => Nat.zero_le _
  | o :: os, ts, hn, h => by
    obtain ⟨l, r, rfl⟩ := List.append_of_mem (h o List.mem_cons_self)
    have h1 := List.nodup_cons.mp hn
    have := len_le_of_subT (ts := l ++ r) h1.2 fun t ht => by
      have := h t (List.mem_cons_of_mem _ ht)
      rcases List.mem_append.mp this with z | z
      · exact List.mem_append_left _ z
      · rcases List.mem_cons.mp z with z | z
        · exact absurd (z ▸ ht) h1.1
        · exact List.mem_append_right _ z
    rw [List.length_append] at this
    rw [List.length_cons, List.length_append, List.length_cons]; omega
end Ken

set_option Elab.async false
set_option linter.all false
set_option maxRecDepth 100000
set_option maxHeartbeats 2000000
/-! a statement in a list of statements, or not in it -/
namespace Ken
open PySem L2
section
variable {X : Cx} {pins : List (Addr × Obj)} {σ : St} {H : Hp} {s : Shared}
theorem isT_inj (I : Inv X pins σ H s) : ∀ {a b : Tm} {v : V}, IsT X.K H v a → IsT X.K H v b → a = b
  | .low, b, v, h, g => by
    obtain ⟨p, rfl, hs⟩ := isT_low.mp h
    cases b with
    | low => rfl
    | ltr w =>
      obtain ⟨q, e, gs⟩ := isT_ltr.mp g
      cases e
      exact absurd (I.tuple_inj hs gs) (by simp)
    | nd k x y =>
      obtain ⟨q, _, _, e, gs, _⟩ := isT_nd.mp g
      cases e
      exact absurd (I.tuple_inj hs gs) (by simp)
  | .ltr w, b, v, h, g => by
    obtain ⟨p, rfl, hs⟩ := isT_ltr.mp h
    cases b with
    | low =>
      obtain ⟨q, e, gs⟩ := isT_low.mp g
      cases e
      exact absurd (I.tuple_inj hs gs) (by simp)
    | ltr w' =>
      obtain ⟨q, e, gs⟩ := isT_ltr.mp g
      cases e
      have := I.tuple_inj hs gs
      simp only [List.cons.injEq, V.str.injEq, and_true, true_and] at this
      rw [this]
    | nd k x y =>
      obtain ⟨q, _, _, e, gs, _⟩ := isT_nd.mp g
      cases e
      exact absurd (I.tuple_inj hs gs) (by simp)
  | .nd k x y, b, v, h, g => by
    obtain ⟨p, vx, vy, rfl, hs, hx, hy⟩ := isT_nd.mp h
    cases b with
    | low =>
      obtain ⟨q, e, gs⟩ := isT_low.mp g
      cases e
      exact absurd (I.tuple_inj hs gs) (by simp)
    | ltr w' =>
      obtain ⟨q, e, gs⟩ := isT_ltr.mp g
      cases e
      exact absurd (I.tuple_inj hs gs) (by simp)
    | nd k' x' y' =>
      obtain ⟨q, _, _, e, gs, gx, gy⟩ := isT_nd.mp g
      cases e
      have := I.tuple_inj hs gs
      simp only [List.cons.injEq, V.str.injEq, and_true] at this
      obtain ⟨e1, rfl, rfl⟩ := this
      rw [Kd.str_inj e1, isT_inj I hx gx, isT_inj I hy gy]
end
theorem tms_dn {K : PySem.W.Frag} {H : Hp} : ∀ {us : List V} {ts : List Tm}, Paired (IsT K H) us ts → DnAll K H us (ts.map Tm.data)
  | _, _, .nil => by rw [List.map_nil, DnAll]
  | _, _, .cons h t => by
    rw [List.map_cons, DnAll]
    exact ⟨_, _, rfl, h, tms_dn t⟩
theorem tms_lay : ∀ {ts : List Tm}, (∀ t ∈ ts, t.ok) → (PyData.list (ts.map Tm.data)).canLay0 = true
  | [], _ => rfl
  | t :: ts, h => by
    have := tms_lay (ts := ts) fun s hs => h s (List.mem_cons_of_mem _ hs)
    show (t.data.canLay0 && (PyData.list (ts.map Tm.data)).canLay0) = true
    rw [t.lay (h t List.mem_cons_self), this]; rfl
end Ken
namespace L2
open PySem PySem.Spec PyProof.Rows
section
variable {X : Cx}
def rInT (K : PySem.W.Frag) (neg : Bool) : R2 := fun x y H Q => ∃ (t : Ken.Tm) (p : Addr) (xs : List V) (ts : List Ken.Tm), Ken.IsT K H x t ∧ y = .ref p ∧ SqL K H p xs ∧ Paired (Ken.IsT K H) xs ts ∧ t.ok ∧ (∀ s ∈ ts, s.ok) ∧ t.deep ≤ 140 ∧ Q (.bl (if neg then !decide (t ∈ ts) else decide (t ∈ ts))) H
theorem mem_at {pins : List (Addr × Obj)} {σ : St} {H : Hp} {s : Shared} {x : V} {v : Value} {t : Ken.Tm} {xs : List V} {ts : List Ken.Tm} {its : List Value} (hu : X.A.units + 150 < cLine) (I : Inv X pins σ H s) (rx : RelV x v) (hT : Ken.IsT X.K H x t) (hP : Paired (Ken.IsT X.K H) xs ts) (r : Vals xs its) (ho : t.ok) (hs : ∀ s ∈ ts, s.ok) (hd : t.deep ≤ 140) :
    ∃ e : Value → Bool, (∀ w ∈ its, SeqAt.EqAt X.A.in1 s w v (e w)) ∧ its.any e = decide (t ∈ ts) := by
  classical
  have l1 := Paired.length hP
  have l2 := r.length
  have same : ∀ (i j : Nat) (w : Value) (a b : Ken.Tm), its[i]? = some w → its[j]? = some w → ts[i]? = some a → ts[j]? = some b → a = b := by
    intro i j w a b h1 h2 h3 h4
    have hi : i < xs.length := by have := (List.getElem?_eq_some_iff.mp h3).1; omega
    have hj : j < xs.length := by have := (List.getElem?_eq_some_iff.mp h4).1; omega
    obtain ⟨a', ea, ha⟩ := Ken.paired_get hP (List.getElem?_eq_getElem hi)
    obtain ⟨b', eb, hb⟩ := Ken.paired_get hP (List.getElem?_eq_getElem hj)
    obtain ⟨u1, g1, r1⟩ := r.get (List.getElem?_eq_getElem hi)
    obtain ⟨u2, g2, r2⟩ := r.get (List.getElem?_eq_getElem hj)
    rw [h3] at ea; cases ea
    rw [h4] at eb; cases eb
    rw [h1] at g1; cases g1
    rw [h2] at g2; cases g2
    obtain ⟨p1, _, z1, _⟩ := Ken.isT_tup ha
    obtain ⟨p2, _, z2, _⟩ := Ken.isT_tup hb
    rw [z1] at r1 ha
    rw [z2] at r2 hb
    have y1 : w = .ref p1 := r1
    have y2 : w = .ref p2 := r2
    rw [y1] at y2; cases y2
    exact Ken.isT_inj I ha hb
  refine ⟨fun w => decide (∃ j : Nat, its[j]? = some w ∧ ts[j]? = some t), fun w hw => ?_, ?_⟩
  · obtain ⟨j, hj, ej⟩ := List.mem_iff_getElem.mp hw
    have hjx : j < xs.length := by omega
    have hjt : j < ts.length := by omega
    obtain ⟨a, ea, ha⟩ := Ken.paired_get hP (List.getElem?_eq_getElem hjx)
    obtain ⟨u1, g1, r1⟩ := r.get (List.getElem?_eq_getElem hjx)
    have gj : its[j]? = some w := by rw [List.getElem?_eq_getElem hj, ej]
    rw [gj] at g1; cases g1
    have key : decide (∃ j : Nat, its[j]? = some w ∧ ts[j]? = some t) = decide (a = t) := by
      by_cases h : a = t
      · rw [decide_eq_true h, decide_eq_true ⟨j, gj, by rw [ea, h]⟩]
      · rw [decide_eq_false h, decide_eq_false]
        rintro ⟨i, h1, h2⟩
        exact h (same j i w a t gj h1 ea h2)
    show SeqAt.EqAt X.A.in1 s w v (decide (∃ j : Nat, its[j]? = some w ∧ ts[j]? = some t))
    rw [key]
    obtain ⟨p1, _, z1, _⟩ := Ken.isT_tup ha
    obtain ⟨p2, _, z2, _⟩ := Ken.isT_tup hT
    rw [z1] at r1 ha
    rw [z2] at rx hT
    have y1 : w = .ref p1 := r1
    have y2 : v = .ref p2 := rx
    subst y1
    subst y2
    by_cases h : p1 = p2
    · subst h
      rw [decide_eq_true (Ken.isT_inj I ha hT)]
      exact SeqAt.EqAt.same _
    · obtain ⟨as, q1⟩ := Dn.reads I ha (show RelV (.ref p1) (.ref p1) from rfl)
      obtain ⟨bs, q2⟩ := Dn.reads I hT (show RelV (.ref p2) (.ref p2) from rfl)
      rw [← Ken.Tm.eqv]
      have hu1 : X.A.in1.units = X.A.units + 1 := rfl
      have dm : min a.data.depth t.data.depth ≤ 140 := by rw [Ken.Tm.depth, Ken.Tm.depth]; omega
      exact SeqAt.EqAt.of_refs h (SeqAt.rcAt_reads q1 q2 (a.lay (hs a (List.mem_of_getElem? ea))) (t.lay ho) (by omega))
  · rw [Bool.eq_iff_iff, List.any_eq_true, decide_eq_true_iff]
    constructor
    · rintro ⟨w, hw, h⟩
      obtain ⟨j, _, h2⟩ := of_decide_eq_true h
      exact List.mem_of_getElem? h2
    · intro h
      obtain ⟨j, hj, ej⟩ := List.mem_iff_getElem.mp h
      have hji : j < its.length := by omega
      exact ⟨its[j], List.getElem_mem hji, decide_eq_true ⟨j, List.getElem?_eq_getElem hji, by rw [List.getElem?_eq_getElem hj, ej]⟩⟩
theorem op_inT (hu : X.A.units + 150 < cLine) : OpR X (compareOp .In) (rInT X.K false) := by
  intro pins s σ H x y v u Q I rx ry h
  obtain ⟨t, p, xs, ts, hT, rfl, hq, hP, ho, hs, hd, q⟩ := h
  cases ry
  obtain ⟨its, r, pl, hz⟩ := I.list hq
  obtain ⟨e, he, ea⟩ := mem_at hu I rx hT hP r ho hs hd
  refine SeqAt.in_listAt e pl.isList (fun w hw => he w (by simpa using hw)) ⟨.bl _, H, I, rfl, ?_⟩
  rw [show its.toArray.any e = its.any e by simp, ea]
  exact q
theorem op_notInT (hu : X.A.units + 150 < cLine) : OpR X (compareOp .NotIn) (rInT X.K true) := by
  intro pins s σ H x y v u Q I rx ry h
  obtain ⟨t, p, xs, ts, hT, rfl, hq, hP, ho, hs, hd, q⟩ := h
  cases ry
  obtain ⟨its, r, pl, hz⟩ := I.list hq
  obtain ⟨e, he, ea⟩ := mem_at hu I rx hT hP r ho hs hd
  refine SeqAt.notIn_listAt e pl.isList (fun w hw => he w (by simpa using hw)) ⟨.bl _, H, I, rfl, ?_⟩
  rw [show its.toArray.any e = its.any e by simp, ea]
  exact q
end
end L2

set_option Elab.async false
set_option linter.all false
set_option maxRecDepth 100000
set_option maxHeartbeats 2000000
/-! DEFS WITHIN A DEF: the def statement, the body of what it makes, and a call that hands such a function on -/
namespace L2
open PySem PySem.Spec PyProof.Rows
theorem lookup_out {α : Type} {x : Str} : ∀ {l : List (Str × α)}, (∀ v, (x, v) ∉ l) → l.lookup x = none
  | [], _ => rfl
  | (y, v) :: l, h => by
    have hy : x ≠ y := fun e => h v (by rw [e]; exact List.mem_cons_self)
    rw [List.lookup_cons, show (x == y) = false from by simpa using hy]
    exact lookup_out fun v hv => h v (List.mem_cons_of_mem _ hv)
theorem lookup_rev_zip : ∀ {ps : List Str} {us : List Value} {i : Nat} {x : Str} {u : Value}, ps.Nodup → ps[i]? = some x → us[i]? = some u → (ps.zip us).reverse.lookup x = some u
  | [], _, _, _, _, _, h, _ => by simp at h
  | _ :: _, [], _, _, _, _, _, h => by simp at h
  | p :: ps, w :: us, 0, x, u, nd, h1, h2 => by
    simp at h1 h2
    subst h1; subst h2
    rw [List.zip_cons_cons, List.reverse_cons, List.lookup_append, lookup_out (fun v hv => (List.nodup_cons.mp nd).1 (List.of_mem_zip (List.mem_reverse.mp hv)).1)]
    simp
  | p :: ps, w :: us, i + 1, x, u, nd, h1, h2 => by
    have ih := lookup_rev_zip (List.nodup_cons.mp nd).2 (show ps[i]? = some x by simpa using h1) (show us[i]? = some u by simpa using h2)
    rw [List.zip_cons_cons, List.reverse_cons, List.lookup_append, ih]
    rfl

/-- the names of a def within a def: N the body's, ps the parameters, fv the ones that are taken from around -/
structure FnScopeC (N ps fv : List Str) (sc : Scope) : Prop where
  kind : sc.kind = .function
  co : sc.isCoroutine = false
  gen : sc.isGenerator = false
  nd : N.Nodup
  pre : N.take (ps ++ fv).length = ps ++ fv
  par : ∀ x ∈ ps, sc.names.lookup x = some .local
  fr : ∀ x ∈ fv, sc.names.lookup x = some .free
  nocell : ∀ y ∈ sc.names, y.2 ≠ .cell
/-- the cells that it was made with: where they stand, and what is in them -/
structure Caught (K : PySem.W.Frag) (sc : Scope) (cl : List (Str × Addr)) (fv : List Str) (frv : List V) : Prop where
  len : frv.length = fv.length
  cell : ∀ (i : Nat) (x : Str) (v : V), fv[i]? = some x → frv[i]? = some v → ∃ c o u, cl.lookup x = some c ∧ K.lookup c = some o ∧ o.data = .cell (some u) ∧ RelV v u
  all : ∀ x c, cl.lookup x = some c → ∃ o v, K.lookup c = some o ∧ o.data = .cell v
  inj : ∀ x y c, cl.lookup x = some c → cl.lookup y = some c → x = y
  has : ∀ x, sc.names.lookup x = some .free → ∃ c, cl.lookup x = some c

def cxC (CX : CXT) (P : Program) (w : World) (K : PySem.W.Frag) (mg : Str → Option Value) (base : Heap) (N : List Str) (qual : Str) (scope : Scope) (f : Addr) (cd : Value) (cl : List (Str × Addr)) (A : Around) (outer : List Env) (s : Shared) (H : Hp) (E : XK) : Cx where
  prog := P
  w := w
  K := K
  mg := mg
  base := base
  A := A.deeper (PySem.W.envX qual scope s.heap.objs.size f cd cl)
  N := N
  s₀ := s
  H₀ := H
  env := PySem.W.envX qual scope s.heap.objs.size f cd cl
  outer := outer
  stack := PySem.W.envX qual scope s.heap.objs.size f cd cl :: outer
  ex := []
  calm := true
  fn := fun _ => false
  pn := []
  xe := fun e s' => wpAny (model P w) (A.deeper (PySem.W.envX qual scope s.heap.objs.size f cd cl)) (leaving (PySem.W.envX qual scope s.heap.objs.size f cd cl) e) (fun _ s'' => CX outer H s E e s'') (fun e' s'' => CX outer H s E e' s'') s'
theorem cxC_K (CX : CXT) (P : Program) (w : World) (K : PySem.W.Frag) (mg : Str → Option Value) (base : Heap) (N : List Str) (qual : Str) (scope : Scope) (f : Addr) (cd : Value) (cl : List (Str × Addr)) (A : Around) (outer : List Env) (s : Shared) (H : Hp) (E : XK) : (cxC CX P w K mg base N qual scope f cd cl A outer s H E).K = K := rfl

theorem inv_startC {CX : CXT} {P : Program} {w : World} {K : PySem.W.Frag} {mg : Str → Option Value} {base : Heap} {N ps fv : List Str} {qual : Str} {scope : Scope} {f : Addr} {cd : Value} {cl : List (Str × Addr)} {A : Around} {outer : List Env} {s : Shared} {H : Hp} {E : XK} {us : List Value} {vs frv : List V} {h1 : Heap} {tk : Nat}
    (S : FnScopeC N ps fv scope) (C : Caught K scope cl fv frv) (hd : A.handled = none) (e0 : Env0 P w K mg base A outer s H) (hl : vs.length = ps.length) (r : Vals vs us)
    (ns : h1.Ns s.heap.objs.size fun x => (ps.zip us).reverse.lookup x) (hk : ∀ b o, s.heap.get? b = some o → h1.get? b = some o) :
    Inv (cxC CX P w K mg base N qual scope f cd cl A outer s H E) [] (start N (vs ++ frv)) H { s with heap := h1, toks := tk } := by
  have hpl : (ps ++ fv).length ≤ N.length := by have := congrArg List.length S.pre; rw [List.length_take] at this; omega
  have noA : ∀ b : Addr, b ∉ (cxC CX P w K mg base N qual scope f cd cl A outer s H E).ex := fun b z => absurd (show b ∈ ([] : List Addr) from z) (by simp)
  have hlen : (vs ++ frv).length = (ps ++ fv).length := by rw [List.length_append, List.length_append, hl, C.len]
  have kin : ∀ c o, K.lookup c = some o → s.heap.get? c = some o ∧ H c = none := fun c o e => e0.bs c o (e0.mod.kin c o e)
  refine ⟨⟨e0.mod, S.kind, rfl, rfl, Nat.le_refl _, C.inj, fun y hy => ?_, fun y c z _ => (nomatch (show false = true from z)), fun _ => hd, Around.frames_deeper e0.frames, .inr ⟨rfl, rfl⟩, fun b z => absurd z (noA b), e0.bs, e0.bsz, fun b _ _ => noA b, fun b z => absurd z (noA b), e0.funs, e0.frf⟩,
    rfl, e0.bare, Un.kept hk, ⟨_, ns, fun i y v h1 h2 h3 => ?_⟩, fun y c h => ?_, e0.hok.fresh (Nat.le_refl _), fun y c h => ?_, fun p hp => absurd (show p ∈ ([] : List (Addr × Obj)) from hp) (by simp), e0.hok.kept hk, ?_⟩
  · have hy : scope.names.lookup y = some .cell ∨ scope.names.lookup y = some .free := hy
    rcases hy with hy | hy
    · exact absurd rfl (S.nocell _ (PySem.mem_of_lookup hy))
    · exact C.has y hy
  · have hi : i < (vs ++ frv).length := by
      unfold start at h2
      by_cases hi : i < (vs ++ frv).length
      · exact hi
      · rw [List.getElem?_append_right (by simpa using hi)] at h2
        rw [List.getElem?_replicate] at h2
        split at h2 <;> cases h2
    have ha : (vs ++ frv)[i]? = some v := by
      unfold start at h2
      rw [List.getElem?_append_left (by simpa using hi), List.getElem?_map] at h2
      cases e : (vs ++ frv)[i]? with
      | none => rw [e] at h2; cases h2
      | some a => rw [e] at h2; cases h2; rfl
    have hp : (ps ++ fv)[i]? = some y := by
      rw [← S.pre, List.getElem?_take_of_lt (by omega)]; exact h1
    have ndP : (ps ++ fv).Nodup := by rw [← S.pre]; exact S.nd.sublist (List.take_sublist _ _)
    by_cases hv : i < vs.length
    · rw [List.getElem?_append_left hv] at ha
      rw [List.getElem?_append_left (by omega)] at hp
      obtain ⟨u, hu, rv⟩ := r.get ha
      exact ⟨u, rv, .inl ⟨S.par y (List.mem_of_getElem? hp), lookup_rev_zip (ndP.sublist (List.sublist_append_left _ _)) hp hu⟩⟩
    · rw [List.getElem?_append_right (by omega)] at ha
      rw [List.getElem?_append_right (by omega), ← hl] at hp
      obtain ⟨c, o, u, e1, e2, e3, rv⟩ := C.cell _ y v hp ha
      refine ⟨u, rv, .inr ⟨.inr (S.fr y (List.mem_of_getElem? hp)), c, e1, o, hk c o (kin c o e2).1, e3⟩⟩
  · obtain ⟨o, v, e1, e2⟩ := C.all y c h
    exact ⟨v, o, hk c o (kin c o e1).1, e2⟩
  · obtain ⟨o, v, e1, e2⟩ := C.all y c h
    exact (kin c o e1).2
  · unfold start
    show _ = N.length
    rw [List.length_append, List.length_map, List.length_replicate]
    omega

/-- THE RULE: a function that a def made within a def, by its body -/
theorem fn_ofC {CX : CXT} {P : Program} {w : World} {K : PySem.W.Frag} {mg : Str → Option Value} {base : Heap} {k : Nat} {f : Addr} {name qual : Str} {params : Arguments} {body : List Stmt} {scope : Scope} {cl : List (Str × Addr)} {doc pm cdv ct oc : Value} {od : Option Addr}
    {osl : Array (Option Value)} {N ps fv : List Str} {frv : List V} {sp : Sp} (lk : K.lookup f = some ⟨oc, od, .func (PySem.W.fnX name qual params body scope cl .none .none doc pm none cdv ct), osl⟩) (hcd : PySem.W.codeIn K cdv qual = true) (S : FnScopeC N ps fv scope) (C : Caught K scope cl fv frv)
    (len : ∀ vs H Q E, sp vs H Q E → vs.length = ps.length)
    (hbody : ∀ (A : Around) (outer : List Env) (s : Shared) (H : Hp) (vs : List V) (Q : VK) (E : XK), Room k (A.deeper (PySem.W.envX qual scope s.heap.objs.size f cdv cl)) → sp vs H Q E →
      ∃ t, PSs (cxC CX P w K mg base N qual scope f cdv cl A outer s H E) body t ∧ t { nx := fun _ H' => Q .non H', rt := Q } (start N (vs ++ frv)) H) :
    FnOk P w K mg base CX (k + 1) f (PySem.W.fnX name qual params body scope cl .none .none doc pm none cdv ct) ps sp := by
  refine ⟨len, fun A outer s H args us vs Q E hr e0 hb r hsp => ?_⟩
  have hl := len _ _ _ _ hsp
  have KX : K.In s.heap := e0.mod.kin.keeps fun b o e => (e0.bs b o e).1
  have lim : s.heap.NoLimit := e0.mod.nolimit.keeps fun b o e => (e0.bs b o e).1
  refine codeAny_call_function hr.depth (KX _ _ lk) rfl S.co S.gen rfl (PySem.W.codeRec_of KX hcd) (hb _ _ _ _ ?_)
  refine wpAny_newFunctionEnv S.nocell (fun ⟨n, v⟩ hy => S.par n (List.of_mem_zip hy).1) (fun h1 ns sb => ?_) S.kind
  have hk : ∀ b o, s.heap.get? b = some o → h1.get? b = some o := fun b o e => by
    rw [sb.2 b (Nat.ne_of_lt (Heap.lt_size e))]
    exact Heap.get?_push_of_some _ e
  refine ⟨lim.keeps hk, codeAny_func ?_⟩
  obtain ⟨t, ht, hq⟩ := hbody A outer s H vs Q E (hr.deeper _) hsp
  have I : Inv (cxC CX P w K mg base N qual scope f cdv cl A outer s H E) [] (start N (vs ++ frv)) H { s with heap := h1, toks := s.toks + (ps.zip us).length } := inv_startC S C hr.hd e0 hl r ns hk
  refine wpAny_mono (ht [] _ (start N (vs ++ frv)) H _ I hq) (fun fl s' hs => ?_) fun e s' hs => hs
  have fin : ∀ {σ' : St} {H' : Hp} {v : V} {u : Value}, Inv (cxC CX P w K mg base N qual scope f cdv cl A outer s H E) [] σ' H' s' → RelV v u → Q v H' → CE outer P w H s Q u s' :=
    fun {σ' H' v u} J rv q => ⟨v, H', J.os, J.bare, J.base, J.hok, rv, q⟩
  cases fl with
  | ret u =>
    obtain ⟨v, σ', H', J, rv, q⟩ := hs
    exact fin J rv q
  | next =>
    obtain ⟨σ', H', J, q⟩ := hs
    exact fin (v := V.non) (u := Value.none) J rfl q
  | brk =>
    obtain ⟨_, _, _, q⟩ := hs
    exact False.elim q
  | cont =>
    obtain ⟨_, _, _, q⟩ := hs
    exact False.elim q
end L2

set_option Elab.async false
set_option linter.all false
set_option maxRecDepth 100000
set_option maxHeartbeats 2000000
/-! THE DEF STATEMENT within a def: the code's table grows at the first time, and is read from then on -/
namespace L2
open PySem PySem.Spec PyProof.Rows
/-- known to the object -/
abbrev FZ (o : Obj) : HO := .frz o (.ext fun _ => True)
/-- all that was tracked is as it was, tables aside -/
def SameT (H H' : Hp) : Prop := ∀ b o, (∀ ps, o ≠ .tbl ps) → H b = some o → H' b = some o
theorem SameT.refl (H : Hp) : SameT H H := fun _ _ _ h => h
theorem SameT.trans {H H1 H2 : Hp} (a : SameT H H1) (b : SameT H1 H2) : SameT H H2 := fun c o n h => b c o n (a c o n h)
theorem Same.toT {H H' : Hp} (a : Same H H') : SameT H H' := fun c o _ h => a c o h
def CodeFz (H : Hp) (cv : Value) (q : Str) : Prop := ∃ c o vs t, cv = .ref c ∧ H c = some (FZ o) ∧ o.data = .fields vs ∧ vs[1]? = some (.str q t)
theorem CodeFz.keep {H H' : Hp} {cv : Value} {q : Str} (h : CodeFz H cv q) (k : SameT H H') : CodeFz H' cv q := by
  obtain ⟨c, o, vs, t, h1, h2, h3, h4⟩ := h
  exact ⟨c, o, vs, t, h1, k c _ (fun _ z => nomatch z) h2, h3, h4⟩
/-- a code's table, and the codes in it of the defs at these places -/
def TabOk (H : Hp) (P : Addr) (ds : List (Pos × Str)) : Prop :=
  ∃ ps, H P = some (.tbl ps) ∧ TriplesOk ps.toList ∧ ∀ d ∈ ds, ∀ cv, codeAmong d.1 ps.toList = some cv → CodeFz H cv d.2
theorem TabOk.keep {H H' : Hp} {P : Addr} {ds : List (Pos × Str)} (h : TabOk H P ds) (k : Same H H') : TabOk H' P ds := by
  obtain ⟨ps, h1, h2, h3⟩ := h
  exact ⟨ps, k _ _ h1, h2, fun d hd cv e => (h3 d hd cv e).keep k.toT⟩
theorem TabOk.new {H : Hp} {P : Addr} {ds : List (Pos × Str)} (h : H P = some (.tbl #[])) : TabOk H P ds :=
  ⟨#[], h, trivial, fun d _ cv e => by
    have e' : (none : Option Value) = some cv := e
    cases e'⟩
def FnFz (H : Hp) (f : Addr) (name qual : Str) (params : Arguments) (body : List Stmt) (scope : Scope) (cl : List (Str × Addr)) : Prop :=
  ∃ doc pm ct cv, H f = some (FZ { cls := .type "function", data := .func (PySem.W.fnX name qual params body scope cl .none .none doc pm none cv ct) }) ∧ CodeFz H cv qual
theorem FnFz.keep {H H' : Hp} {f : Addr} {name qual : Str} {params : Arguments} {body : List Stmt} {scope : Scope} {cl : List (Str × Addr)} (h : FnFz H f name qual params body scope cl) (k : SameT H H') : FnFz H' f name qual params body scope cl := by
  obtain ⟨doc, pm, ct, cv, h1, h2⟩ := h
  exact ⟨doc, pm, ct, cv, k _ _ (fun _ z => nomatch z) h1, h2.keep k⟩
theorem triples_app : ∀ {l m : List Value}, TriplesOk l → TriplesOk m → TriplesOk (l ++ m)
  | [], m, _, h => h
  | .int i a :: .int j b :: c :: r, m, h, h' => by
    show TriplesOk (.int i a :: .int j b :: c :: (r ++ m))
    exact triples_app (l := r) h h'
theorem codeAmong_app {pos : Pos} : ∀ {l m : List Value}, TriplesOk l → codeAmong pos (l ++ m) = (codeAmong pos l).or (codeAmong pos m)
  | [], m, _ => by simp [codeAmong]
  | .int i a :: .int j b :: c :: r, m, h => by
    show codeAmong pos (.int i a :: .int j b :: c :: (r ++ m)) = _
    rw [codeAmong, codeAmong]
    split
    · rfl
    · exact codeAmong_app (l := r) h
theorem fz_ok {P : Program} {w : World} {H : Hp} {h : Heap} {a : Addr} {o : Obj} (e : h.get? a = some o) : ObjOk P w H h a (FZ o) := ⟨e, trivial, ⟨o, e⟩, fun _ _ _ _ => trivial⟩

/-- def x(..): .. within a def -/
def tDef (i : Nat) (name qual : Str) (params : Arguments) (body : List Stmt) (scope : Scope) (cl : List (Str × Addr)) (P : Addr) (ds : List (Pos × Str)) : TS := fun D σ H =>
  TabOk H P ds ∧ ∀ f H', H f = none → SameT H H' → TabOk H' P ds → FnFz H' f name qual params body scope cl → D.nx (σ.set i (some (.ref f))) H'
theorem ps_def {X : Cx} {i : Nat} {name qual : Str} {params : Arguments} {body : List Stmt} {scope : Scope} {pos : Pos} {cl : List (Str × Addr)} {c P : Addr} {ds : List (Pos × Str)}
    (hN : X.N.Nodup) (hi : X.N[i]? = some name) (hx : Loc X.env.scope name) (hcl : closureFor scope X.env = pure cl) (hc : X.env.code = .ref c) (hC : ∀ h, X.K.In h → PySem.W.CodeHd h c P) (hB : ∀ h, X.K.In h → h.BuiltinsAt X.mg P) (hP : mainGlobals ≠ P)
    (hq : qualnameIn X.env name name = qual) (hd : (pos, qual) ∈ ds) (hds : ∀ d ∈ ds, d.1.line = pos.line → d.1.col = pos.col → d.2 = qual)
    (h1 : params.defaults = []) (h2 : params.kw_defaults = []) (h3 : annTrees params none X.env = [])
    (hf : X.fn name = true ∨ X.env.scope.names.lookup name = some .local := by first | exact .inl rfl | exact .inr rfl | assumption) :
    PS X (.FunctionDef name params body [] none [] scope none name pos) (tDef i name qual params body scope cl P ds) := by
  intro pins s σ H D I h
  obtain ⟨⟨ps, hp, ht, hcs⟩, q⟩ := h
  refine PySem.W.nestDef_K h1 h2 h3 ?_
  rw [hq]
  have kX := I.kIn
  have hPs : s.heap.get? P = some (PySem.W.tabObj ps) := I.hok P _ hp
  have mgs : s.heap.Ns mainGlobals X.mg := by
    obtain ⟨o, es, ep, e, d, r⟩ := I.ok.mod.glob
    exact ⟨o, es, ep, I.bk _ _ e, d, r⟩
  have fin : ∀ {H' : Hp} {s' : Shared} {f : Addr}, Inv X pins σ H' s' → H f = none → SameT H H' → TabOk H' P ds → FnFz H' f name qual params body scope cl →
      wpAny (model X.prog X.w) X.A (storeName X.env name (.ref f)) (fun _ s'' => SP X pins D .next s'') X.xe s' := fun {H' s' f} J g1 g2 g3 g4 =>
    store_ok (v := .ref f) J hN hi hx rfl (fun s'' J' => ⟨_, _, J', q f H' g1 g2 g3 g4⟩) hf
  cases hm : codeAmong pos ps.toList with
  | some cv =>
    refine PySem.W.makeFunction_hit hcl I.ok.glob mgs hc (hC _ kX) hPs ht hm (hB _ kX) fun ctv doc h' tk hk hsz => ?_
    have kk : ∀ b o, s.heap.get? b = some o → (h'.push { cls := Value.type "function", data := Data.func (PySem.W.fnX name qual params body scope cl Value.none Value.none doc ((X.mg (Str.ofString "__name__")).getD Value.none) none cv ctv) }).get? b = some o :=
      fun b o e => Heap.get?_push_of_some _ (hk b o e)
    have hn : H h'.objs.size = none := I.hok.fresh hsz
    have J := I.laid (a := h'.objs.size) (o := FZ _) (t' := tk) kk hsz (fz_ok (Heap.get?_push_size _ rfl))
    have e1 : Same H (upd H h'.objs.size (FZ { cls := Value.type "function", data := Data.func (PySem.W.fnX name qual params body scope cl Value.none Value.none doc ((X.mg (Str.ofString "__name__")).getD Value.none) none cv ctv) })) := fun b u z => by rw [upd_ne (ne_of_none z hn)]; exact z
    exact fin J hn e1.toT (TabOk.keep ⟨ps, hp, ht, hcs⟩ e1) ⟨_, _, _, _, upd_same, (hcs _ hd cv hm).keep e1.toT⟩
  | none =>
    refine PySem.W.makeFunction_K hcl I.ok.glob mgs hc (hC _ kX) hPs ht hm hP (hB _ kX) fun c' ctv doc h' tk ext hc1 hc2 hcr htab => ?_
    obtain ⟨c2, co, vs, t, e1, e2, e3, e4⟩ := hcr
    cases e1
    have hPl : P < s.heap.objs.size := Heap.lt_size hPs
    have hsz : s.heap.objs.size ≤ h'.objs.size := by omega
    have nf : H h'.objs.size = none := I.hok.fresh hsz
    have nc : H c' = none := I.hok.fresh hc1
    have ncf : c' ≠ h'.objs.size := by omega
    have nPc : P ≠ c' := Nat.ne_of_lt (Nat.lt_of_lt_of_le hPl hc1)
    have nPf : P ≠ h'.objs.size := Nat.ne_of_lt (Nat.lt_of_lt_of_le hPl hsz)
    generalize hfo : ({ cls := Value.type "function", data := Data.func (PySem.W.fnX name qual params body scope cl Value.none Value.none doc ((X.mg (Str.ofString "__name__")).getD Value.none) none (Value.ref c') ctv) } : Obj) = fo
    generalize htr : ps ++ #[rawInt (pos.line : Int), rawInt (pos.col : Int), Value.ref c'] = ps'
    rw [htr] at htab
    have hps' : ps'.toList = ps.toList ++ [rawInt (pos.line : Int), rawInt (pos.col : Int), Value.ref c'] := by rw [← htr]; simp
    have gk : ∀ b o, b ≠ P → s.heap.get? b = some o → (h'.push fo).get? b = some o := fun b o hb e => Heap.get?_push_of_some _ (ext b o hb e)
    have oP : ∀ b, b ≠ P → b ≠ c' → b ≠ h'.objs.size → (upd (upd (upd H P (.tbl ps')) c' (FZ co)) h'.objs.size (FZ fo)) b = H b := fun b n1 n2 n3 => by rw [upd_ne n3, upd_ne n2, upd_ne n1]
    have oPP : (upd (upd (upd H P (.tbl ps')) c' (FZ co)) h'.objs.size (FZ fo)) P = some (.tbl ps') := by rw [upd_ne nPf, upd_ne nPc, upd_same]
    have oc : (upd (upd (upd H P (.tbl ps')) c' (FZ co)) h'.objs.size (FZ fo)) c' = some (FZ co) := by rw [upd_ne ncf, upd_same]
    have of' : (upd (upd (upd H P (.tbl ps')) c' (FZ co)) h'.objs.size (FZ fo)) h'.objs.size = some (FZ fo) := upd_same
    generalize (upd (upd (upd H P (.tbl ps')) c' (FZ co)) h'.objs.size (FZ fo)) = H' at oP oPP oc of'
    have tr : ∀ b u, (∀ ps, u ≠ HO.tbl ps) → H b = some u → H' b = some u := fun b u nu z => by
      rw [oP b (fun w => nu ps (by rw [w, hp] at z; exact (Option.some.inj z).symm)) (ne_of_none z nc) (ne_of_none z nf)]; exact z
    have hok : HOk X.prog X.w H' (h'.push fo) := fun b u z => by
      by_cases b1 : b = h'.objs.size
      · subst b1; rw [of'] at z; cases z; exact fz_ok (Heap.get?_push_size _ (by rw [← hfo]; rfl))
      by_cases b2 : b = c'
      · subst b2; rw [oc] at z; cases z; exact fz_ok (Heap.get?_push_of_some _ e2)
      by_cases b3 : b = P
      · subst b3; rw [oPP] at z; cases z; exact Heap.get?_push_of_some _ htab
      rw [oP b b3 b2 b1] at z
      refine (I.hok b u z).stay (fun d v hd e => gk d v (fun w => ?_) e) (fun d z => tr d _ (fun _ q => nomatch q) z) fun d xs z => tr d _ (fun _ q => nomatch q) z
      rcases hd with hd | hd
      · exact b3 (hd.symm.trans w)
      · rw [w, hp] at hd; cases hd
    have un : Un X.fs [] H H' s.heap (h'.push fo) := by
      refine ⟨fun b o e n _ _ => gk b o (fun w => by rw [w, hp] at n; cases n) e, fun b o e n _ _ => ⟨o.slots, gk b o (fun w => by rw [w, hp] at n; cases n) e⟩, fun b o e n _ => ?_, fun b o e _ => ?_, fun b xs z => tr b _ (fun _ q => nomatch q) z, fun b o u z => tr b _ (fun _ q => nomatch q) z, fun b ps2 z => ?_⟩
      · rw [oP b (fun w => by rw [w, hp] at n; cases n) (Nat.ne_of_lt (Nat.lt_of_lt_of_le (Heap.lt_size e) hc1)) (Nat.ne_of_lt (Nat.lt_of_lt_of_le (Heap.lt_size e) hsz))]; exact n
      · by_cases b3 : b = P
        · subst b3; exact ⟨_, Heap.get?_push_of_some _ htab⟩
        · exact ⟨o, gk b o b3 e⟩
      · by_cases b3 : b = P
        · subst b3
          rw [hp] at z
          cases z
          exact ⟨_, by rw [oPP, ← htr]⟩
        · refine ⟨#[], ?_⟩
          rw [oP b b3 (ne_of_none z nc) (ne_of_none z nf), z]; simp
    have J : Inv X pins σ H' { s with heap := h'.push fo, toks := tk } := I.un un hok
    have sT : SameT H H' := tr
    have cf : CodeFz H' (.ref c') qual := ⟨c', co, vs, t, rfl, oc, e3, e4⟩
    have tri : TriplesOk [rawInt (pos.line : Int), rawInt (pos.col : Int), Value.ref c'] := by
      unfold rawInt
      exact trivial
    have tab : TabOk H' P ds := by
      refine ⟨ps', oPP, by rw [hps']; exact triples_app ht tri, fun d hd' cv e => ?_⟩
      rw [hps', codeAmong_app ht] at e
      cases hm' : codeAmong d.1 ps.toList with
      | some cv2 =>
        rw [hm'] at e
        cases e
        exact (hcs d hd' cv hm').keep sT
      | none =>
        rw [hm', Option.none_or] at e
        unfold rawInt at e
        rw [codeAmong] at e
        split at e
        · rename_i hh
          cases e
          have hh' : d.1.line = pos.line ∧ d.1.col = pos.col := by
            have := hh
            simp only [Bool.and_eq_true, beq_iff_eq] at this
            omega
          rw [hds d hd' hh'.1 hh'.2]
          exact cf
        · simp [codeAmong] at e
    rw [show PySem.W.fnMade name qual params body scope cl doc ((X.mg (Str.ofString "__name__")).getD Value.none) c' ctv = fo from hfo]
    exact fin J nf sT tab ⟨doc, _, ctv, .ref c', by rw [of', ← hfo], cf⟩
end L2

set_option Elab.async false
set_option linter.all false
set_option maxRecDepth 100000
set_option maxHeartbeats 2000000
/-! A CALL that hands a made function on: the callee stands over a greater text, in which the made functions and the cells are -/
namespace L2
open PySem PySem.Spec PyProof.Rows
def KLe (K K' : PySem.W.Frag) : Prop := ∀ a o, K.lookup a = some o → K'.lookup a = some o
def remX (xs : List (Addr × Obj)) (H : Hp) : Hp := fun b => if b ∈ xs.map (·.1) then none else H b
def backX (xs : List (Addr × Obj)) (H H2 : Hp) : Hp := fun b => if b ∈ xs.map (·.1) then H b else H2 b
theorem remX_in {xs : List (Addr × Obj)} {H : Hp} {b : Addr} (h : b ∈ xs.map (·.1)) : remX xs H b = none := by unfold remX; rw [if_pos h]
theorem remX_out {xs : List (Addr × Obj)} {H : Hp} {b : Addr} (h : b ∉ xs.map (·.1)) : remX xs H b = H b := by unfold remX; rw [if_neg h]
theorem backX_in {xs : List (Addr × Obj)} {H H2 : Hp} {b : Addr} (h : b ∈ xs.map (·.1)) : backX xs H H2 b = H b := by unfold backX; rw [if_pos h]
theorem backX_out {xs : List (Addr × Obj)} {H H2 : Hp} {b : Addr} (h : b ∉ xs.map (·.1)) : backX xs H H2 b = H2 b := by unfold backX; rw [if_neg h]
theorem lookup_same : ∀ {l : List (Addr × Obj)} {p : Addr × Obj}, (∀ q ∈ l, q.1 = p.1 → q.2 = p.2) → p ∈ l → l.lookup p.1 = some p.2
  | [], _, _, h => absurd h (by simp)
  | q :: l, p, hc, h => by
    rw [show q :: l = (q.1, q.2) :: l from rfl, List.lookup_cons]
    by_cases e : q.1 = p.1
    · rw [show (p.1 == q.1) = true from by simp [e]]
      rw [hc q List.mem_cons_self e]
    · rw [show (p.1 == q.1) = false from by simpa using fun z => e z.symm]
      exact lookup_same (fun r hr => hc r (List.mem_cons_of_mem _ hr)) (by
        rcases List.mem_cons.mp h with z | z
        · exact absurd (by rw [z]) e
        · exact z)
theorem mem_of_lookupA : ∀ {l : List (Addr × Obj)} {a : Addr} {o : Obj}, l.lookup a = some o → (a, o) ∈ l
  | [], _, _, h => by cases h
  | (b, u) :: l, a, o, h => by
    rw [List.lookup_cons] at h
    split at h
    · rename_i e
      cases h
      rw [show a = b from by simpa using e]
      exact List.mem_cons_self
    · exact List.mem_cons_of_mem _ (mem_of_lookupA h)
theorem funFrames_base {h base base' : Heap} : ∀ {l : List Env}, h.FunFrames base l → (∀ b ∈ frs l, base'.get? b = none) → h.FunFrames base' l
  | [], _, _ => trivial
  | env :: r, ⟨hk, ⟨L, o, hf, hn, ho, hd⟩, hr⟩, g => by
    have e : frs (env :: r) = L :: frs r := by unfold frs; rw [List.filterMap_cons, hf]
    rw [e] at g
    exact ⟨hk, ⟨L, o, hf, g L List.mem_cons_self, ho, hd⟩, funFrames_base hr fun b hb => g b (List.mem_cons_of_mem _ hb)⟩
section
variable {X : Cx} {k : Nat} {f : Addr} {fd : FuncData} {ps : List Str} {sp : Sp}
theorem run_fnG {pins : List (Addr × Obj)} {σ : St} {H : Hp} {s : Shared} {Q : VK} {us : List Value} {vs : List V} (xs cs : List (Addr × Obj)) (I : Inv X pins σ H s) (hxs : ∀ p ∈ xs, H p.1 = some (FZ p.2))
    (hcs : ∀ p ∈ cs, s.heap.get? p.1 = some p.2 ∧ H p.1 = none ∧ p.1 ∉ frs X.stack) (F : ∀ base, FnOk X.prog X.w (X.K ++ (xs ++ cs)) X.mg base CX0 k f fd ps sp) (hr : Room k X.A) (hb : Binds X.K fd ps [])
    (r : Vals vs us) (h : sp vs (remX xs H) (fun v H2 => (∀ p ∈ xs, H2 p.1 = none) → Q v (backX xs H H2)) E0) : wpAny (model X.prog X.w) X.A (call (.ref f) us) (EP X pins σ Q) X.xe s := by
  have hx1 : ∀ p ∈ xs, s.heap.get? p.1 = some p.2 := fun p hp => (I.hok _ _ (hxs p hp)).1
  have good2 : ∀ p ∈ xs ++ cs, s.heap.get? p.1 = some p.2 := fun p hp => (List.mem_append.mp hp).elim (hx1 p) fun z => (hcs p z).1
  let good : Addr → Prop := fun b => (X.base.get? b).isSome = true ∨ b ∈ (xs ++ cs).map (·.1)
  have hdec : ∀ b, Decidable (good b) := fun b => by dsimp only [good]; infer_instance
  let hid : List Addr := (List.range s.heap.objs.size).filter fun b => !(decide ((X.base.get? b).isSome = true) || decide (b ∈ (xs ++ cs).map (·.1)))
  have notin : ∀ b, good b → b ∉ hid := fun b g hm => by
    have q := (List.mem_filter.mp hm).2
    rcases g with g | g
    · simp [g] at q
    · rw [decide_eq_true g] at q; simp at q
  have isin : ∀ b, ¬ good b → b < s.heap.objs.size → b ∈ hid := fun b g hl => by
    refine List.mem_filter.mpr ⟨List.mem_range.mpr hl, ?_⟩
    rw [decide_eq_false (fun z => g (.inl z)), decide_eq_false (fun z => g (.inr z))]; rfl
  let base' : Heap := PySem.W.hideAll s.heap hid
  have gget : ∀ b o, s.heap.get? b = some o → good b → base'.get? b = some o := fun b o e g => PySem.W.hideAll_get _ e (notin b g)
  have gof : ∀ b o, base'.get? b = some o → s.heap.get? b = some o ∧ good b := fun b o e => by
    have e' : s.heap.get? b = some o := PySem.W.of_hideAll hid e
    refine ⟨e', ?_⟩
    by_cases g : good b
    · exact g
    · have z : base'.get? b = none := PySem.W.hideAll_none hid (isin b g (Heap.lt_size e'))
      rw [z] at e; cases e
  have gb : ∀ b o, X.base.get? b = some o → base'.get? b = some o := fun b o e => gget b o (I.bk b o e) (.inl (by rw [e]; rfl))
  have goodH : ∀ b, good b → remX xs H b = none := fun b g => by
    rcases g with g | g
    · obtain ⟨o, e⟩ := Option.isSome_iff_exists.mp g
      by_cases z : b ∈ xs.map (·.1)
      · exact remX_in z
      · rw [remX_out z]; exact (I.bs b o e).2
    · rw [List.map_append] at g
      rcases List.mem_append.mp g with g | g
      · exact remX_in g
      · by_cases z : b ∈ xs.map (·.1)
        · exact remX_in z
        · rw [remX_out z]
          obtain ⟨p, hp, rfl⟩ := List.mem_map.mp g
          exact (hcs p hp).2.1
  have kin' : PySem.W.Frag.In (X.K ++ (xs ++ cs)) base' := fun a o e => by
    have e : List.lookup a (X.K ++ (xs ++ cs)) = some o := e
    rw [List.lookup_append] at e
    cases z : List.lookup a X.K with
    | some o' =>
      rw [z] at e
      cases e
      exact gb a o (I.ok.mod.kin a o z)
    | none =>
      rw [z, Option.none_or] at e
      have hm : (a, o) ∈ xs ++ cs := mem_of_lookupA e
      exact gget a o (good2 _ hm) (.inr (List.mem_map.mpr ⟨_, hm, rfl⟩))
  have nsB : ∀ {b : Addr} {m : Str → Option Value}, X.base.Ns b m → base'.Ns b m := fun {b m} ⟨o, es, ep, e, d, r⟩ => ⟨o, es, ep, gb b o e, d, r⟩
  have xfree : ∀ b, b ∈ xs.map (·.1) → ∃ o, H b = some (FZ o) ∧ s.heap.get? b = some o := fun b z => by
    obtain ⟨p, hp, rfl⟩ := List.mem_map.mp z
    exact ⟨p.2, hxs p hp, hx1 p hp⟩
  have frames : ∀ b ∈ frs X.stack, base'.get? b = none := fun b hb => by
    cases z : base'.get? b with
    | none => rfl
    | some o =>
      obtain ⟨e, g⟩ := gof b o z
      rcases g with g | g
      · have := (I.stack.mem hb).1
        rw [this] at g; simp at g
      · rw [List.map_append] at g
        rcases List.mem_append.mp g with g | g
        · obtain ⟨o', e', _⟩ := xfree b g
          rw [I.stkFree b hb] at e'; cases e'
        · obtain ⟨p, hp, rfl⟩ := List.mem_map.mp g
          exact absurd hb (hcs p hp).2.2
  have e0 : Env0 X.prog X.w (X.K ++ (xs ++ cs)) X.mg base' X.A X.stack s (remX xs H) := by
    refine ⟨I.ok.frames, ⟨kin', nsB I.ok.mod.glob, ?_, ?_⟩, fun b o e => ⟨(gof b o e).1, goodH b (gof b o e).2⟩, Nat.le_of_eq (PySem.W.hideAll_size _ _), funFrames_base I.stack frames, fun b hb => ?_, fun a o z => ?_, I.bare⟩
    · obtain ⟨mb, h1, h2⟩ := I.ok.mod.blt
      exact ⟨mb, nsB h1, h2⟩
    · obtain ⟨mc, h1, h2⟩ := I.ok.mod.nolimit
      exact ⟨mc, nsB h1, h2⟩
    · by_cases z : b ∈ xs.map (·.1)
      · exact remX_in z
      · rw [remX_out z]; exact I.stkFree b hb
    · by_cases y : a ∈ xs.map (·.1)
      · rw [remX_in y] at z; cases z
      · rw [remX_out y] at z
        refine (I.hok a o z).stay (fun b u _ e => e) (fun b q => ?_) fun b ys q => ?_
        · rw [remX_out fun y => by obtain ⟨o', e', _⟩ := xfree b y; rw [q] at e'; cases e']; exact q
        · rw [remX_out fun y => by obtain ⟨o', e', _⟩ := xfree b y; rw [q] at e'; cases e']; exact q
  have hl : us.length = ps.length := by rw [← r.length]; exact (F base').len _ _ _ _ h
  have hbd : BindsTo s fd ⟨us, []⟩ (ps.zip us) := by
    have := hb s us I.kIn (by rw [List.append_nil]; exact hl)
    rw [List.append_nil] at this
    exact this
  refine wpAny_call (codeAny_mono ((F base').run X.A X.stack s (remX xs H) ⟨us, []⟩ us vs _ E0 hr e0 hbd r h) fun rr s' hq => ?_)
  cases rr with
  | error e => exact False.elim hq
  | ok fl =>
    cases fl with
    | next => exact False.elim hq
    | brk => exact False.elim hq
    | cont => exact False.elim hq
    | ret u =>
      obtain ⟨v, H2, os, bare, un, hok2, rv, q⟩ := hq
      have none2 : ∀ b, b ∈ xs.map (·.1) → H2 b = none := fun b z => by
        obtain ⟨o, _, e⟩ := xfree b z
        exact un.free b o e (remX_in z) (by simp)
      have outX : ∀ {b : Addr} {u : HO}, H b = some u → (∀ o, u ≠ FZ o) → b ∉ xs.map (·.1) := fun {b u} e n z => by
        obtain ⟨o, e', _⟩ := xfree b z
        rw [e] at e'
        cases e'
        exact n o rfl
      refine ⟨v, backX xs H H2, I.call' (ch := []) os ⟨fun b o e n hb hx => un.keep b o e ?_ hb hx, fun b o e n hb hx => un.slot b o e ?_ hb hx, fun b o e n hx => ?_, un.there, fun b ys e => ?_, fun b o u e => ?_, fun b ys e => ?_⟩ (fun a o z => ?_) bare (fun b z => absurd z (by simp)), rv, q fun p hp => none2 p.1 (List.mem_map.mpr ⟨p, hp, rfl⟩)⟩
      · by_cases z : b ∈ xs.map (·.1)
        · exact remX_in z
        · rw [remX_out z]; exact n
      · by_cases z : b ∈ xs.map (·.1)
        · exact remX_in z
        · rw [remX_out z]; exact n
      · by_cases z : b ∈ xs.map (·.1)
        · rw [backX_in z]; exact n
        · rw [backX_out z]; exact un.free b o e (by rw [remX_out z]; exact n) hx
      · have z := outX e (fun _ q => nomatch q)
        rw [backX_out z]; exact un.tups b ys (by rw [remX_out z]; exact e)
      · by_cases z : b ∈ xs.map (·.1)
        · rw [backX_in z]; exact e
        · rw [backX_out z]; exact un.frzs b o u (by rw [remX_out z]; exact e)
      · have z := outX e (fun _ q => nomatch q)
        rw [backX_out z]; exact un.tbls b ys (by rw [remX_out z]; exact e)
      · by_cases y : a ∈ xs.map (·.1)
        · rw [backX_in y] at z
          obtain ⟨o', e', g⟩ := xfree a y
          rw [z] at e'
          cases e'
          exact fz_ok (un.keep a o' g (remX_in y) (fun hb => by rw [I.stkFree a hb] at z; cases z) (by simp))
        · rw [backX_out y] at z
          refine (hok2 a o z).stay (fun b u _ e => e) (fun b q => ?_) fun b ys q => ?_
          · rw [backX_out fun y => by rw [none2 b y] at q; cases q]; exact q
          · rw [backX_out fun y => by rw [none2 b y] at q; cases q]; exact q
theorem same_back {xs : List (Addr × Obj)} {H H2 : Hp} (h : Same (remX xs H) H2) : Same H (backX xs H H2) := fun b o e => by
  by_cases z : b ∈ xs.map (·.1)
  · rw [backX_in z]; exact e
  · rw [backX_out z]; exact h b o (by rw [remX_out z]; exact e)
/-- the cells of these names, and what is in them -/
def CellsAt (X : Cx) (σ : St) (ix : List Nat) (cs : List (Addr × Obj)) : Prop :=
  Paired (fun (i : Nat) (p : Addr × Obj) => ∃ x v u, X.N[i]? = some x ∧ σ[i]? = some (some v) ∧ X.env.cells.lookup x = some p.1 ∧ p.2.data = .cell (some u) ∧ RelV v u) ix cs
def tCallG (X : Cx) (k : Nat) (f : Addr) (fd : FuncData) (ps : List Str) (ix : List Nat) (t : TA) : TE := fun σ H Q => t σ H fun vs H1 => (∀ i ∈ ix, ∃ v, σ[i]? = some (some v)) ∧ ∃ xs : List (Addr × Obj), (∀ p ∈ xs, H1 p.1 = some (FZ p.2)) ∧
  ∀ (K' : PySem.W.Frag) (cs : List (Addr × Obj)), X.Ok → KLe X.K K' → (∀ a o, K'.lookup a = some o → X.K.lookup a = some o ∨ (a, o) ∈ xs ++ cs) → (∀ p ∈ xs ++ cs, K'.lookup p.1 = some p.2) → CellsAt X σ ix cs →
    ∃ sp : Sp, (∀ base, FnOk X.prog X.w K' X.mg base CX0 k f fd ps sp) ∧ sp vs (remX xs H1) (fun v H2 => (∀ p ∈ xs, H2 p.1 = none) → Q v (backX xs H1 H2)) E0
theorem Inv.cellsAt {pins : List (Addr × Obj)} {σ : St} {H : Hp} {s : Shared} (I : Inv X pins σ H s) : ∀ (ix : List Nat), (∀ i ∈ ix, ∃ x, X.N[i]? = some x ∧ X.env.scope.names.lookup x = some .cell ∧ X.fn x = true) → (∀ i ∈ ix, ∃ v, σ[i]? = some (some v)) →
    ∃ cs, CellsAt X σ ix cs ∧ ∀ p ∈ cs, s.heap.get? p.1 = some p.2 ∧ H p.1 = none ∧ p.1 ∉ frs X.stack ∧ X.K.lookup p.1 = none
  | [], _, _ => ⟨[], .nil, fun _ h => absurd h (by simp)⟩
  | i :: ix, h1, h2 => by
    obtain ⟨cs, g1, g2⟩ := I.cellsAt ix (fun j hj => h1 j (List.mem_cons_of_mem _ hj)) fun j hj => h2 j (List.mem_cons_of_mem _ hj)
    obtain ⟨x, e1, e2, e3⟩ := h1 i List.mem_cons_self
    obtain ⟨v, e4⟩ := h2 i List.mem_cons_self
    obtain ⟨m, _, hm⟩ := I.loc
    obtain ⟨u, rv, lk⟩ := hm i x v e1 e4 (.inr (.inl e2))
    rcases lk with ⟨lk, _⟩ | ⟨_, c, lk, o, ho, hd⟩
    · have lk' : X.env.scope.names.lookup x = some .local := lk
      rw [e2] at lk'; cases lk'
    · have hc := I.ok.cab x c e3 lk
      refine ⟨(c, o) :: cs, .cons ⟨x, v, u, e1, e4, lk, hd, rv⟩ g1, fun p hp => ?_⟩
      rcases List.mem_cons.mp hp with rfl | hp
      · refine ⟨ho, I.freeC x c lk, fun hb => ?_, ?_⟩
        · rcases List.mem_cons.mp (I.stkSub _ hb) with z | z
          · exact I.cne x c lk z
          · obtain ⟨_, o', ho', _⟩ := I.ok.funs.mem z
            exact absurd (Heap.lt_size ho') (Nat.not_lt.mpr hc)
        · cases z : X.K.lookup c with
          | none => rfl
          | some o' => exact absurd (Heap.lt_size (I.ok.bs c o' (I.ok.mod.kin c o' z)).1) (Nat.not_lt.mpr hc)
      · exact g2 p hp
theorem pe_callG {x : Str} {p pos : Pos} {e : Expr} {es : List Expr} {t : TA} {ix : List Nat} (hr : Room k X.A) (hg : Gl X x) (hm : X.mg x = some (.ref f)) (hk : PySem.W.keepIn X.K (.ref f) = true) (hb : Binds X.K fd ps [])
    (hix : ∀ i ∈ ix, ∃ x, X.N[i]? = some x ∧ X.env.scope.names.lookup x = some .cell ∧ X.fn x = true)
    (ha : PA X (e :: es) t) (hdb : (x == ("__debug__" : Str)) = false := by decide) (he : starEach (e :: es) X.env = (false, eval e X.env) :: starEach es X.env := by rfl) (hpl : (backTo pos (starEach es X.env)).any (·.1) = false := by rfl) :
    PE X (.Call (.Name x p) (e :: es) [] pos) (tCallG X k f fd ps ix t) := by
  intro pins s σ H Q I h
  refine wpAny_Call_Name_kw (ld_glob I hg hm ?_ hdb)
  refine PySem.W.callWith_K (h₀ := X.base) I.ok.mod.kin hk (thn (ha pos pins s σ H _ I h) fun us s1 ⟨vs, H1, I1, r, hσ, xs, hxs, q⟩ => ⟨I1.kIn, ?_⟩) he hpl
  obtain ⟨cs, g1, g2⟩ := I1.cellsAt ix hix hσ
  have hx1 : ∀ p ∈ xs, s1.heap.get? p.1 = some p.2 := fun p hp => (I1.hok _ _ (hxs p hp)).1
  have good2 : ∀ p ∈ xs ++ cs, s1.heap.get? p.1 = some p.2 := fun p hp => (List.mem_append.mp hp).elim (hx1 p) fun z => (g2 p z).1
  obtain ⟨sp, F, hs⟩ := q (X.K ++ (xs ++ cs)) cs I1.ok (fun a o z => by
      show List.lookup a (X.K ++ (xs ++ cs)) = some o
      rw [List.lookup_append, show List.lookup a X.K = some o from z]; rfl) (fun a o z => by
      have z : List.lookup a (X.K ++ (xs ++ cs)) = some o := z
      rw [List.lookup_append] at z
      cases y : List.lookup a X.K with
      | some o' =>
        rw [y] at z
        cases z
        exact .inl rfl
      | none =>
        rw [y, Option.none_or] at z
        exact .inr (mem_of_lookupA z)) (fun p hp => by
      have kn : X.K.lookup p.1 = none := by
        rcases List.mem_append.mp hp with z | z
        · cases y : X.K.lookup p.1 with
          | none => rfl
          | some o =>
            have := (I1.bs p.1 o (I1.ok.mod.kin _ _ y)).2
            rw [hxs p z] at this; cases this
        · exact (g2 p z).2.2.2
      show List.lookup p.1 (X.K ++ (xs ++ cs)) = some p.2
      rw [List.lookup_append, show List.lookup p.1 X.K = none from kn, Option.none_or]
      exact lookup_same (fun q hq e => by
        have h1 := good2 q hq
        rw [e, good2 p hp] at h1
        exact (Option.some.inj h1).symm) hp) g1
  exact run_fnG xs cs I1 hxs (fun p hp => ⟨(g2 p hp).1, (g2 p hp).2.1, (g2 p hp).2.2.1⟩) F hr hb r hs
end
end L2

set_option Elab.async false
set_option linter.all false
set_option maxRecDepth 100000
set_option maxHeartbeats 2000000
/-! THE HEAD where codes' tables grow -/
namespace L2
open PySem PySem.Spec PyProof.Rows
theorem lookup_outA : ∀ {l : List (Addr × Obj)} {a : Addr}, a ∉ l.map (·.1) → l.lookup a = none
  | [], _, _ => rfl
  | (b, u) :: l, a, h => by
    have hb : a ≠ b := fun z => h (by rw [z]; exact List.mem_cons_self)
    rw [List.lookup_cons, show (a == b) = false from by simpa using hb]
    exact lookup_outA fun z => h (List.mem_cons_of_mem _ z)
theorem law_callT {P : Program} {w : World} {K : PySem.W.Frag} {mg mb : Str → Option Value} {CX : CXT} {k : Nat} {fa a : Addr} {fd : FuncData} {x : Str} {sp : Sp} {s₁ : Shared} {vs : List Value} {ns : List Int} {ts : List Addr}
    (KX : K.In s₁.heap) (hns : s₁.heap.Ns mainGlobals mg) (hb : s₁.heap.Ns builtinsNs mb) (hbb : ∀ x : Str, x ≠ "__name__" → mb x = bootBuiltins x) (hlim : s₁.heap.NoLimit) (hg : s₁.gens = #[])
    (ha : s₁.heap.get? a = some { cls := .type "list", data := .seq vs.toArray }) (hi : IntsAre vs ns) (hl : ns.length ≤ sizeLine) (hr : Room k callerA)
    (hT : ∀ p ∈ ts, s₁.heap.get? p = some (PySem.W.tabObj #[])) (hTK : ∀ p ∈ ts, K.lookup p = none) (hTc : ∀ p ∈ ts, isCodeTable s₁.heap p)
    (F : ∀ base : Heap, K.In base → base.Ns mainGlobals mg → FnOk P w K mg base CX k fa fd [x] sp) (hbind : ∀ (s : Shared) (u : Value), BindsTo s fd ⟨[u], []⟩ [(x, u)])
    (hsp : ∀ H : Hp, (∀ p ∈ ts, H p = some (.tbl #[])) → SqL K H a (ns.map V.int) → sp [.ref a] H (fun v _ => v = .bl true) fun _ _ _ => False)
    (hCX : ∀ H e s', CX [] H s₁ (fun _ _ _ => False) e s' → False) :
    codeAny (model P w) callerA (.call (.ref fa) ⟨[.ref a], []⟩) (fun r s' => r = .ok (.ret (.bool true)) ∧ OldK s₁.heap s'.heap ∧ s'.os = s₁.os ∧ AllBare s'.gens) s₁ := by
  have rv := vals_ints hi
  have lenV := hi.length
  have core : ∀ H : Hp, (∀ b u, H b = some u → (b = a ∧ K.lookup a = none ∧ ∃ xs, u = .frz { cls := .type "list", data := .seq vs.toArray } (.lst xs)) ∨ (b ∈ ts ∧ u = .tbl #[])) → (∀ p ∈ ts, H p = some (.tbl #[])) → SqL K H a (ns.map V.int) → HOk P w H s₁.heap →
      codeAny (model P w) callerA (.call (.ref fa) ⟨[.ref a], []⟩) (fun r s' => r = .ok (.ret (.bool true)) ∧ OldK s₁.heap s'.heap ∧ s'.os = s₁.os ∧ AllBare s'.gens) s₁ := by
    intro H hA hTb hS hok
    have base_of : ∀ {b : Addr} {o : Obj}, s₁.heap.get? b = some o → H b = none → (hidT s₁.heap H).get? b = some o := fun e n => hidT_get e n
    have noA : ∀ {b : Addr} {o : Obj} {es : Array DictEntry} {ep : Nat}, s₁.heap.get? b = some o → o.data = .dict es ep → H b = none := fun {b o es ep} e d => by
      cases q : H b with
      | none => rfl
      | some u =>
        rcases hA b u q with ⟨rfl, _⟩ | ⟨hb, _⟩
        · rw [ha] at e; cases e
          have d' : Data.seq vs.toArray _ = Data.dict es ep := d
          cases d'
        · rw [hT b hb] at e; cases e
          have d' : Data.fields #[] = Data.dict es ep := d
          cases d'
    have nsK : ∀ {b : Addr} {m : Str → Option Value}, s₁.heap.Ns b m → (hidT s₁.heap H).Ns b m := fun {b m} ⟨o, es, ep, e, d, r⟩ => ⟨o, es, ep, base_of e (noA e d), d, r⟩
    have hKb : K.In (hidT s₁.heap H) := fun b o e => base_of (KX b o e) (by
      cases q : H b with
      | none => rfl
      | some u =>
        rcases hA b u q with ⟨rfl, hk, _⟩ | ⟨hb, _⟩
        · rw [hk] at e; cases e
        · rw [hTK b hb] at e; cases e)
    have hM : Mod K mg (hidT s₁.heap H) := ⟨hKb, nsK hns, ⟨mb, nsK hb, hbb⟩, let ⟨mc, h1, h2⟩ := hlim; ⟨mc, nsK h1, h2⟩⟩
    have e0 : Env0 P w K mg (hidT s₁.heap H) callerA [] s₁ H := ⟨rfl, hM, fun b o e => of_hidT e, Nat.le_of_eq (hidT_size _ _), trivial, fun b hb => absurd (show b ∈ ([] : List Addr) from hb) (by simp), hok, .of_eq hg⟩
    refine codeAny_mono ((F _ hKb (nsK hns)).run callerA [] s₁ H ⟨[.ref a], []⟩ [.ref a] [.ref a] _ _ hr e0 (hbind s₁ (.ref a)) (.cons rfl .nil) (hsp H hTb hS)) fun r s' h => ?_
    cases r with
    | error e => exact (hCX H e s' h).elim
    | ok fl =>
      cases fl with
      | next => exact False.elim h
      | brk => exact False.elim h
      | cont => exact False.elim h
      | ret u =>
        obtain ⟨v, H', os, bare, un, hok', r', q⟩ := h
        have q' : v = .bl true := q
        subst q'
        obtain rfl : u = Value.bool true := r'
        refine ⟨rfl, ⟨fun b o e => ?_, fun b o e => un.there b o e (by simp)⟩, os, bare⟩
        cases q : H b with
        | none => exact .inl (un.keep b o e q (by intro z; exact absurd (show b ∈ ([] : List Addr) from z) (by simp)) (by simp))
        | some u =>
          rcases hA b u q with ⟨rfl, _, xs, rfl⟩ | ⟨hb, rfl⟩
          · have z2 := un.frzs b _ _ q
            obtain ⟨e1, _⟩ := hok b _ q
            obtain ⟨e2, _⟩ := hok' b _ z2
            rw [e] at e1; cases e1
            exact .inl e2
          · obtain ⟨more, z2⟩ := un.tbls b _ q
            have e2 := hok' b _ z2
            rw [hT b hb] at e
            cases e
            exact .inr (.inl ⟨hTc b hb, rfl, #[], more, rfl, e2⟩)
  have naT : a ∉ ts := fun z => by
    have := hT a z
    rw [ha] at this
    have h2 := congrArg Obj.cls (Option.some.inj this)
    cases h2
  cases hk : K.lookup a with
  | some o =>
    have e := KX a o hk
    rw [ha] at e
    cases e
    refine core (fun b => if b ∈ ts then some (.tbl #[]) else none) (fun b u z => ?_) (fun p hp => if_pos hp) (.inr ⟨_, vs.toArray, _, hk, rfl, rfl, rfl, by rw [List.size_toArray, lenV]; exact hl, by simpa using rv⟩) (fun b u z => ?_)
    · by_cases hb : b ∈ ts
      · have z' := (if_pos hb).symm.trans z
        cases z'
        exact .inr ⟨hb, rfl⟩
      · have z' := (if_neg hb).symm.trans z
        cases z'
    · by_cases hb : b ∈ ts
      · have z' := (if_pos hb).symm.trans z
        cases z'
        exact hT b hb
      · have z' := (if_neg hb).symm.trans z
        cases z'
  | none =>
    refine core (fun b => if b ∈ ts then some (.tbl #[]) else if b = a then some (.frz { cls := .type "list", data := .seq vs.toArray } (.lst (ns.map V.int))) else none) (fun b u z => ?_) (fun p hp => if_pos hp) (.inl (.inr ⟨{ cls := .type "list", data := .seq vs.toArray }, (if_neg naT).trans (if_pos rfl)⟩)) (fun b u z => ?_)
    · by_cases hb : b ∈ ts
      · have z' := (if_pos hb).symm.trans z
        cases z'
        exact .inr ⟨hb, rfl⟩
      · have z' := (if_neg hb).symm.trans z
        by_cases hba : b = a
        · rw [if_pos hba] at z'
          cases z'
          exact .inl ⟨hba, hk, _, rfl⟩
        · rw [if_neg hba] at z'
          cases z'
    · by_cases hb : b ∈ ts
      · have z' := (if_pos hb).symm.trans z
        cases z'
        exact hT b hb
      · have z' := (if_neg hb).symm.trans z
        by_cases hba : b = a
        · rw [if_pos hba] at z'
          cases z'
          subst hba
          exact ⟨ha, by rw [List.length_map]; exact hl, vs, _, rv, ha⟩
        · rw [if_neg hba] at z'
          cases z'
/-- the module of the built-in names -/
structure BltK (K : PySem.W.Frag) (mg : Str → Option Value) (bm : Addr) : Prop where
  m : mg (Str.ofString "__builtins__") = some (.ref bm)
  l : ∃ ob, K.lookup bm = some ob ∧ ob.cls = .type "module" ∧ ob.dict = some builtinsNs ∧ ob.data = .plain
  n1 : bm ≠ builtinsNs
  n2 : bm ≠ mainGlobals
theorem BltK.at {K : PySem.W.Frag} {mg : Str → Option Value} {bm : Addr} (b : BltK K mg bm) {T : Addr} (n : bm ≠ T) (h : Heap) (k : K.In h) : h.BuiltinsAt mg T := by
  obtain ⟨ob, l, c, d, e⟩ := b.l
  exact ⟨bm, ob, b.m, b.n1, b.n2, n, k _ _ l, c, d, e⟩
/-- as walk_of, over the tables ts; the text gets the module of the built-in names beside -/
theorem walk_ofT {l : PySem.W.OpenLaw} {n k : Nat} {q : Program} {loose : List Str} {XP : (Str → Option Value) → Heap → Prop} {d : DefRec} {K : Params → PySem.W.Frag} {as ts : List Addr} {ee : ∀ (P : Params), as = List.map (fun x => x.fst) (K P)} {CX : CXT} {sp : PySem.W.Frag → Sp} {x : Str}
    (hn : l.most = some n) (hn2 : n ≤ sizeLine) (hdf : d.params.defaults = []) (hr : Room k callerA) (hts : ∀ p ∈ ts, p ∉ as)
    (hct : ∀ (w : World) (h : Heap), (K w.params).In h → ∀ p ∈ ts, isCodeTable h p)
    (F : ∀ (w : World) (mg : Str → Option Value) (fa : Addr) (h : Heap) (K' : PySem.W.Frag) (bm : Addr), (K w.params).In h → h.Ns mainGlobals mg → mg d.name = some (.ref fa) → (∀ a o, (K w.params).lookup a = some o → K'.lookup a = some o) → BltK K' mg bm → (∀ p ∈ ts, bm ≠ p) →
      ∃ fd : FuncData, (∀ (s : Shared) (u : Value), BindsTo s fd ⟨[u], []⟩ [(x, u)]) ∧
        ∀ base : Heap, K'.In base → base.Ns mainGlobals mg → FnOk l.prog w K' mg base CX k fa fd [x] (sp K'))
    (hsp : ∀ (K : PySem.W.Frag) (H : Hp) (a : Addr) (ns : List Int), ns.length ≤ n → (∀ p ∈ ts, H p = some (.tbl #[])) → SqL K H a (ns.map V.int) → sp K [.ref a] H (fun v _ => v = .bl true) fun _ _ _ => False)
    (hCX : ∀ (H : Hp) (s : Shared) (e : Value) (s' : Shared), CX [] H s (fun _ _ _ => False) e s' → False) :
    PySem.W.WalkO q loose XP (PySem.W.kmHook K as ee ts).says l.row.toRowW d [] (fun f vs => PySem.call f vs) := by
  refine Att.attach_call hn hdf fun w s₀ s₁ mg mb fa o pm cd doc a vs ns G Y ho hd hcd hmg hobj hints hlen hg => ?_
  have KX : (K w.params).In s₁.heap := PySem.W.km_in_of Y
  have TX := PySem.W.km_tabs_of Y
  obtain ⟨bm, ob, b1, b2, b3, b4, b5, b6⟩ := G.T.bmain
  have KX' : PySem.W.Frag.In (K w.params ++ [(bm, ob)]) s₁.heap := fun b u e => by
    have e : List.lookup b (K w.params ++ [(bm, ob)]) = some u := e
    rw [List.lookup_append] at e
    cases z : List.lookup b (K w.params) with
    | some u' =>
      rw [z] at e
      cases e
      exact KX b u z
    | none =>
      rw [z, Option.none_or] at e
      have hm := mem_of_lookupA e
      rcases List.mem_singleton.mp hm with h
      cases h
      exact b3
  have lb : List.lookup bm (K w.params ++ [(bm, ob)]) = some ob := by
    rw [List.lookup_append]
    cases z : List.lookup bm (K w.params) with
    | some u' =>
      have := KX bm u' z
      rw [b3] at this
      cases this
      rfl
    | none => simp
  have nT : ∀ p ∈ ts, bm ≠ p := fun p hp z => by
    have := TX p hp
    rw [← z, b3] at this
    cases this
    cases b4
  have nM : bm ≠ mainGlobals := fun z => by
    obtain ⟨o', es, ep, e, d', _⟩ := G.T.g
    rw [← z, b3] at e
    cases e
    rw [b6] at d'
    cases d'
  obtain ⟨fd, hb, hF⟩ := F w mg fa _ (K w.params ++ [(bm, ob)]) bm KX G.T.g hmg (fun b u e => by
    show List.lookup b (K w.params ++ [(bm, ob)]) = some u
    rw [List.lookup_append, show List.lookup b (K w.params) = some u from e]; rfl) ⟨b1, ⟨ob, lb, b4, b5, b6⟩, b2, nM⟩ nT
  exact law_callT KX' G.T.g G.T.b G.T.builtins G.T.nolimit hg hobj hints (Nat.le_trans hlen hn2) hr TX (fun p hp => by
    show List.lookup p (K w.params ++ [(bm, ob)]) = none
    rw [List.lookup_append, show List.lookup p (K w.params) = none from lookup_outA (by rw [← ee w.params]; exact hts p hp), Option.none_or]
    exact lookup_outA (by
      intro z
      have : p = bm := by simpa using z
      exact nT p hp this.symm)) (hct w _ KX) hF hb (fun H hO hS => hsp _ H a ns hlen hO hS) fun H e s' => hCX H s₁ e s'
end L2

set_option Elab.async false
set_option linter.all false
set_option maxRecDepth 100000
set_option maxHeartbeats 2000000
/-! made functions over the greater text; FOLDED where things are told that stand in the heap; a statement in the place of a word -/
namespace L2
open PySem PySem.Spec PyProof.Rows
def posOf (s : Stmt) : Pos := match s with
  | .FunctionDef _ _ _ _ _ _ _ _ _ p => p
  | _ => ⟨0, 0, 0, 0⟩
/-- the j-th statement of a def's body -/
def inDef (s : Stmt) (j : Nat) : Stmt := (defBody s).getD j (.Pass ⟨0, 0, 0, 0⟩)
theorem ps_defS {X : Cx} {i : Nat} {name qual : Str} {st : Stmt} {cl : List (Str × Addr)} {c P : Addr} {ds : List (Pos × Str)}
    (hst : st = .FunctionDef name (defArgs st) (defBody st) [] none [] (defScope st) none name (posOf st))
    (hN : X.N.Nodup) (hi : X.N[i]? = some name) (hx : Loc X.env.scope name) (hcl : closureFor (defScope st) X.env = pure cl) (hc : X.env.code = .ref c) (hC : ∀ h, X.K.In h → PySem.W.CodeHd h c P) (hB : ∀ h, X.K.In h → h.BuiltinsAt X.mg P) (hP : mainGlobals ≠ P)
    (hq : qualnameIn X.env name name = qual) (hd : (posOf st, qual) ∈ ds) (hds : ∀ d ∈ ds, d.1.line = (posOf st).line → d.1.col = (posOf st).col → d.2 = qual)
    (h1 : (defArgs st).defaults = []) (h2 : (defArgs st).kw_defaults = []) (h3 : annTrees (defArgs st) none X.env = [])
    (hf : X.fn name = true ∨ X.env.scope.names.lookup name = some .local := by first | exact .inl rfl | exact .inr rfl | assumption) :
    PS X st (tDef i name qual (defArgs st) (defBody st) (defScope st) cl P ds) := by
  have h := ps_def (X := X) (pos := posOf st) (body := defBody st) hN hi hx hcl hc hC hB hP hq hd hds h1 h2 h3 hf
  rw [← hst] at h
  exact h
theorem codeIn_of {K : PySem.W.Frag} {c : Addr} {o : Obj} {vs : Array Value} {q : Str} {t : Tok} (h : K.lookup c = some o) (hd : o.data = .fields vs) (hv : vs[1]? = some (.str q t)) : PySem.W.codeIn K (.ref c) q = true := by
  obtain ⟨cls, dict, data, slots⟩ := o
  have hd : data = .fields vs := hd
  subst hd
  unfold PySem.W.codeIn
  dsimp only
  rw [show List.lookup c K = _ from h]
  obtain ⟨l⟩ := vs
  have hv : l[1]? = some (.str q t) := by simpa using hv
  match l, hv with
  | a :: b :: r, hv =>
    have hb : b = .str q t := by simpa using hv
    subst hb
    show (q == q) = true
    simp
theorem keepIn_fn {K : PySem.W.Frag} {f : Addr} {oc : Value} {od : Option Addr} {fd : FuncData} {sl : Array (Option Value)} (h : K.lookup f = some ⟨oc, od, .func fd, sl⟩) : PySem.W.keepIn K (.ref f) = true := by
  unfold PySem.W.keepIn
  dsimp only
  rw [show List.lookup f K = _ from h]
theorem codeIn_le {K K' : PySem.W.Frag} (k : KLe K K') {cd : Value} {q : Str} (h : PySem.W.codeIn K cd q = true) : PySem.W.codeIn K' cd q = true := by
  cases cd with
  | ref c =>
    unfold PySem.W.codeIn at h ⊢
    dsimp only at h ⊢
    cases z : List.lookup c K with
    | none => rw [z] at h; cases h
    | some o =>
      rw [z] at h
      rw [show List.lookup c K' = some o from k c o z]
      exact h
  | _ => exact absurd h (by simp [PySem.W.codeIn])
theorem Fun.le {K K' : PySem.W.Frag} (k : KLe K K') {x qual : Str} {st : Stmt} {f : Addr} {fd : FuncData} (F : Fun K x qual st f fd) : Fun K' x qual st f fd := by
  obtain ⟨⟨oc, od, kV, doc, pm, an, cdv, ct, osl, e, lk, hcd⟩, kp⟩ := F
  exact ⟨⟨oc, od, kV, doc, pm, an, cdv, ct, osl, e, k _ _ lk, codeIn_le k hcd⟩, keepIn_fn (k _ _ lk)⟩
theorem Binds.le {K K' : PySem.W.Frag} (k : KLe K K') {fd : FuncData} {ps : List Str} {ds : List Value} (b : Binds K fd ps ds) : Binds K' fd ps ds := fun s us h hl => b s us (fun a o e => h a o (k a o e)) hl
theorem SqT.le {K K' : PySem.W.Frag} (k : KLe K K') {H : Hp} {a : Addr} {xs : List V} (h : SqT K H a xs) : SqT K' H a xs := by
  rcases h with h | ⟨o, its, n, e, r⟩
  · exact .inl h
  · exact .inr ⟨o, its, n, k a o e, r⟩
/-- a def whose body makes functions -/
structure FunT (K : PySem.W.Frag) (x qual : Str) (st : Stmt) (f : Addr) (fd : FuncData) (P : Addr) : Prop where
  ex : ∃ (oc : Value) (od : Option Addr) (kV doc pm : Value) (an : Option Addr) (c : Addr) (ct : Value) (osl : Array (Option Value)),
    fd = PySem.W.fnOf x qual (defArgs st) (defBody st) (defScope st) .none kV doc pm an (.ref c) ct ∧ K.lookup f = some ⟨oc, od, .func fd, osl⟩ ∧ PySem.W.codeIn K (.ref c) qual = true ∧ ∀ h, K.In h → PySem.W.CodeHd h c P
  kp : PySem.W.keepIn K (.ref f) = true
theorem FunT.ok {P : Program} {w : World} {K : PySem.W.Frag} {mg : Str → Option Value} {base : Heap} {x qual : Str} {st : Stmt} {f : Addr} {fd : FuncData} {T : Addr} {N ps : List Str} {k : Nat} {sp : Sp} (F : FunT K x qual st f fd T) (S : FnScope N ps (defScope st)) (len : ∀ vs H Q E, sp vs H Q E → vs.length = ps.length)
    (hbody : ∀ (c : Addr) (A : Around) (outer : List Env) (s : Shared) (H : Hp) (vs : List V) (Q : VK) (E : XK), (∀ h, K.In h → PySem.W.CodeHd h c T) → Room k (A.deeper (envOfC qual (defScope st) s.heap.objs.size f (.ref c))) → sp vs H Q E →
      ∃ t, PSs (cxOf CX0 P w K mg base N qual (defScope st) f (.ref c) A outer s H E).nox (defBody st) t ∧ t { nx := fun _ H' => Q .non H', rt := Q } (start N vs) H) : FnOk P w K mg base CX0 (k + 1) f fd ps sp := by
  obtain ⟨oc, od, kV, doc, pm, an, c, ct, osl, rfl, lk, hcd, hC⟩ := F.ex
  refine fn_of lk hcd S len fun A outer s H vs Q E hr hsp => ?_
  obtain ⟨t, h, q⟩ := hbody c A outer s H vs Q E hC hr hsp
  exact ⟨t, h.nox, q⟩
/-- a made function over a text that holds it -/
structure FunC (K : PySem.W.Frag) (x qual : Str) (st : Stmt) (cl : List (Str × Addr)) (f : Addr) (fd : FuncData) : Prop where
  ex : ∃ (oc : Value) (od : Option Addr) (doc pm cdv ct : Value) (osl : Array (Option Value)),
    fd = PySem.W.fnX x qual (defArgs st) (defBody st) (defScope st) cl .none .none doc pm none cdv ct ∧ K.lookup f = some ⟨oc, od, .func fd, osl⟩ ∧ PySem.W.codeIn K cdv qual = true
  kp : PySem.W.keepIn K (.ref f) = true
theorem FunC.ok {P : Program} {w : World} {K : PySem.W.Frag} {mg : Str → Option Value} {base : Heap} {x qual : Str} {st : Stmt} {cl : List (Str × Addr)} {f : Addr} {fd : FuncData} {N ps fv : List Str} {frv : List V} {k : Nat} {sp : Sp} (F : FunC K x qual st cl f fd) (S : FnScopeC N ps fv (defScope st)) (C : Caught K (defScope st) cl fv frv) (len : ∀ vs H Q E, sp vs H Q E → vs.length = ps.length)
    (hbody : ∀ (cdv : Value) (A : Around) (outer : List Env) (s : Shared) (H : Hp) (vs : List V) (Q : VK) (E : XK), Room k (A.deeper (PySem.W.envX qual (defScope st) s.heap.objs.size f cdv cl)) → sp vs H Q E →
      ∃ t, PSs (cxC CX0 P w K mg base N qual (defScope st) f cdv cl A outer s H E).nox (defBody st) t ∧ t { nx := fun _ H' => Q .non H', rt := Q } (start N (vs ++ frv)) H) : FnOk P w K mg base CX0 (k + 1) f fd ps sp := by
  obtain ⟨oc, od, doc, pm, cdv, ct, osl, rfl, lk, hcd⟩ := F.ex
  refine fn_ofC lk hcd S C len fun A outer s H vs Q E hr hsp => ?_
  obtain ⟨t, h, q⟩ := hbody cdv A outer s H vs Q E hr hsp
  exact ⟨t, h.nox, q⟩
theorem FunC.binds {K : PySem.W.Frag} {x qual : Str} {st : Stmt} {cl : List (Str × Addr)} {f : Addr} {fd : FuncData} {ps : List Str} (F : FunC K x qual st cl f fd)
    (h : ∀ (doc pm cdv ct : Value) (us : List Value), us.length = ps.length → bindArgs (PySem.W.fnX x qual (defArgs st) (defBody st) (defScope st) cl .none .none doc pm none cdv ct) ⟨us, []⟩ = pure (ps.zip us)) : Binds K fd ps [] := by
  obtain ⟨oc, od, doc, pm, cdv, ct, osl, rfl, lk, hcd⟩ := F.ex
  exact .all (h doc pm cdv ct)
/-- the objects of a made function: itself and its code -/
theorem FnFz.objs {H : Hp} {f : Addr} {name qual : Str} {st : Stmt} {cl : List (Str × Addr)} (h : FnFz H f name qual (defArgs st) (defBody st) (defScope st) cl) :
    ∃ (o1 : Obj) (c : Addr) (o2 : Obj), H f = some (FZ o1) ∧ H c = some (FZ o2) ∧ (∀ its n, o1.data ≠ .seq its n) ∧ (∀ its n, o2.data ≠ .seq its n) ∧
      ∀ K : PySem.W.Frag, K.lookup f = some o1 → K.lookup c = some o2 → ∃ fd, FunC K name qual st cl f fd := by
  obtain ⟨doc, pm, ct, cv, h1, c, o, vs, t, rfl, h3, h4, h5⟩ := h
  refine ⟨_, c, o, h1, h3, ?_, ?_, fun K e1 e2 => ⟨_, ⟨_, _, doc, pm, _, ct, _, rfl, e1, codeIn_of e2 h4 h5⟩, keepIn_fn e1⟩⟩
  · intro its n z
    cases z
  · intro its n z
    rw [h4] at z; cases z
def CellIn (X : Cx) (K : PySem.W.Frag) (x : Str) (v : V) : Prop := ∃ c o u, X.env.cells.lookup x = some c ∧ K.lookup c = some o ∧ o.data = .cell (some u) ∧ RelV v u
theorem caught_of {X : Cx} {K : PySem.W.Frag} {sc : Scope} {fv : List Str} {frv : List V} (ok : X.Ok) (hlen : frv.length = fv.length) (h1 : ∀ y ∈ sc.names, y.2 = .free → y.1 ∈ fv) (h2 : ∀ x ∈ fv, (x, NameKind.free) ∈ sc.names)
    (hc : ∀ (i : Nat) (x : Str) (v : V), fv[i]? = some x → frv[i]? = some v → CellIn X K x v) : Caught K sc (closL X.env.cells sc.names []) fv frv := by
  have at' : ∀ x c, (closL X.env.cells sc.names []).lookup x = some c → x ∈ fv ∧ c = (X.env.cells.lookup x).getD 0 := fun x c e => by
    rcases closL_mem (PySem.mem_of_lookup e) with z | ⟨z1, z2⟩
    · exact absurd z (by simp)
    · exact ⟨h1 _ z1 rfl, z2⟩
  have val : ∀ x ∈ fv, ∃ i v, fv[i]? = some x ∧ frv[i]? = some v := fun x hx => by
    obtain ⟨i, hi, e⟩ := List.getElem_of_mem hx
    exact ⟨i, frv[i]'(by omega), by rw [List.getElem?_eq_getElem hi, e], List.getElem?_eq_getElem _⟩
  have lk : ∀ x, x ∈ fv → ∃ c, (closL X.env.cells sc.names []).lookup x = some c := fun x hx => by
    obtain ⟨c, hm⟩ := closL_has (cells := X.env.cells) (acc := []) (.inl (h2 x hx))
    exact lookup_of_mem hm
  refine ⟨hlen, fun i x v e1 e2 => ?_, fun x c e => ?_, fun x y c e1 e2 => ?_, fun x e => ?_⟩
  · obtain ⟨c, o, u, g1, g2, g3, g4⟩ := hc i x v e1 e2
    obtain ⟨c', e⟩ := lk x (List.mem_of_getElem? e1)
    have := (at' x c' e).2
    rw [g1] at this
    cases this
    exact ⟨c, o, u, e, g2, g3, g4⟩
  · obtain ⟨hx, hcv⟩ := at' x c e
    obtain ⟨i, v, e1, e2⟩ := val x hx
    obtain ⟨c', o, u, g1, g2, g3, g4⟩ := hc i x v e1 e2
    rw [g1] at hcv
    cases hcv
    exact ⟨o, _, g2, g3⟩
  · obtain ⟨hx, hcx⟩ := at' x c e1
    obtain ⟨hy, hcy⟩ := at' y c e2
    obtain ⟨i, v, i1, i2⟩ := val x hx
    obtain ⟨j, u, j1, j2⟩ := val y hy
    obtain ⟨c1, _, _, g1, _⟩ := hc i x v i1 i2
    obtain ⟨c2, _, _, g2, _⟩ := hc j y u j1 j2
    rw [g1] at hcx
    rw [g2] at hcy
    cases hcx
    cases hcy
    exact ok.inj x y _ g1 g2
  · exact lk x (h1 _ (PySem.mem_of_lookup e) rfl)
/-! values over the greater text -/
mutual
theorem Dn.moveT {K K' : PySem.W.Frag} {H H' : Hp} (k : ∀ a xs, SqT K H a xs → SqT K' H' a xs) : ∀ {d : PyData} {v : V}, noList d = true → Dn K H v d → Dn K' H' v d
  | .none, v, _, h => by rw [Dn] at h ⊢; exact h
  | .bool _, v, _, h => by rw [Dn] at h ⊢; exact h
  | .int _, v, _, h => by rw [Dn] at h ⊢; exact h
  | .str _, v, _, h => by rw [Dn] at h ⊢; exact h
  | .list _, v, n, h => by rw [noList] at n; cases n
  | .dict _, v, n, h => by rw [noList] at n; cases n
  | .tuple ds, v, n, h => by
    rw [Dn] at h ⊢
    rw [noList] at n
    obtain ⟨a, xs, e, hs, hd⟩ := h
    exact ⟨a, xs, e, k a xs hs, DnAll.moveT k n hd⟩
theorem DnAll.moveT {K K' : PySem.W.Frag} {H H' : Hp} (k : ∀ a xs, SqT K H a xs → SqT K' H' a xs) : ∀ {ds : List PyData} {xs : List V}, noLists ds = true → DnAll K H xs ds → DnAll K' H' xs ds
  | [], xs, _, h => by rw [DnAll] at h ⊢; exact h
  | d :: ds, xs, n, h => by
    rw [DnAll] at h ⊢
    rw [noLists, Bool.and_eq_true] at n
    obtain ⟨x, r, e, h1, h2⟩ := h
    exact ⟨x, r, e, Dn.moveT k n.1 h1, DnAll.moveT k n.2 h2⟩
end
/-- into the greater text -/
theorem sqT_in {K K' : PySem.W.Frag} {H : Hp} {xs : List (Addr × Obj)} (hx : ∀ p ∈ xs, H p.1 = some (FZ p.2)) (k : KLe K K') (a : Addr) (ys : List V) (h : SqT K H a ys) : SqT K' (remX xs H) a ys := by
  have out : ∀ {b : Addr} {u : HO}, H b = some u → (∀ o, u ≠ FZ o) → b ∉ xs.map (·.1) := fun {b u} e n z => by
    obtain ⟨p, hp, rfl⟩ := List.mem_map.mp z
    rw [hx p hp] at e
    cases e
    exact n p.2 rfl
  rcases h with (h | ⟨o, h⟩) | ⟨o, its, n, e, r⟩
  · exact .inl (.inl (by rw [remX_out (out h fun _ z => nomatch z)]; exact h))
  · exact .inl (.inr ⟨o, by rw [remX_out (out h fun _ z => by cases z)]; exact h⟩)
  · exact .inr ⟨o, its, n, k a o e, r⟩
/-- and back from it -/
theorem sqT_out {K K' : PySem.W.Frag} {H H2 : Hp} {xs cs : List (Addr × Obj)} (k : ∀ a o, K'.lookup a = some o → K.lookup a = some o ∨ (a, o) ∈ xs ++ cs) (hn : ∀ p ∈ xs ++ cs, ∀ its n, p.2.data ≠ .seq its n) (hx : ∀ p ∈ xs, H2 p.1 = none) (a : Addr) (ys : List V) (h : SqT K' H2 a ys) : SqT K (backX xs H H2) a ys := by
  have out : ∀ {b : Addr} {u : HO}, H2 b = some u → b ∉ xs.map (·.1) := fun {b u} e z => by
    obtain ⟨p, hp, rfl⟩ := List.mem_map.mp z
    rw [hx p hp] at e
    cases e
  rcases h with (h | ⟨o, h⟩) | ⟨o, its, n, e, r1, r2, r3⟩
  · exact .inl (.inl (by rw [backX_out (out h)]; exact h))
  · exact .inl (.inr ⟨o, by rw [backX_out (out h)]; exact h⟩)
  · rcases k a o e with z | z
    · exact .inr ⟨o, its, n, z, r1, r2, r3⟩
    · exact absurd r2 (hn _ z its n)
end L2

set_option Elab.async false
set_option linter.all false
set_option maxRecDepth 100000
set_option maxHeartbeats 2000000
namespace Ken
open PySem L2
def Tm.sub (t : Tm) (x : Str) (o : Tm) : Tm :=
  match t with
  | .low => .low
  | .ltr w => if w = x then o else .ltr w
  | .nd k a b => .nd k (a.sub x o) (b.sub x o)
theorem Tm.sub_self (x : Str) : ∀ t : Tm, t.sub x (.ltr x) = t
  | .low => rfl
  | .ltr w => by
    show (if w = x then Tm.ltr x else .ltr w) = _
    by_cases h : w = x
    · rw [if_pos h, h]
    · rw [if_neg h]
  | .nd k a b => by
    show Tm.nd k (a.sub x (.ltr x)) (b.sub x (.ltr x)) = _
    rw [a.sub_self, b.sub_self]
theorem Tm.sub_ok {x : Str} {o : Tm} (ho : o.ok) : ∀ {t : Tm}, t.ok → (t.sub x o).ok
  | .low, _ => trivial
  | .ltr w, h => by
    show (if w = x then o else Tm.ltr w).ok
    by_cases e : w = x
    · rw [if_pos e]; exact ho
    · rw [if_neg e]; exact h
  | .nd k a b, h => ⟨Tm.sub_ok ho h.1, Tm.sub_ok ho h.2⟩
theorem Tm.sub_deep {x : Str} {o : Tm} : ∀ {t : Tm}, (t.sub x o).deep ≤ t.deep + o.deep
  | .low => by show 1 ≤ 1 + o.deep; omega
  | .ltr w => by
    show (if w = x then o else Tm.ltr w).deep ≤ 1 + o.deep
    by_cases e : w = x
    · rw [if_pos e]; omega
    · rw [if_neg e]; show 1 ≤ 1 + o.deep; omega
  | .nd k a b => by
    show 1 + max (a.sub x o).deep (b.sub x o).deep ≤ 1 + max a.deep b.deep + o.deep
    have := a.sub_deep (x := x) (o := o)
    have := b.sub_deep (x := x) (o := o)
    omega
/-! what is told of statements, by what stands in the heap; R stays as long as tuples do -/
abbrev RH := Hp → Tm → V → Prop
def sp_of1H (K : PySem.W.Frag) (J : Hp → Prop) (R : RH) : Sp := fun vs H Q _ => ∃ (v : V) (t : Tm), vs = [v] ∧ J H ∧ IsT K H v t ∧ t.kids = [] ∧ t.ok ∧ ∀ (r : V) (H' : Hp), Same H H' → R H' t r → Q r H'
def sp_of2H (J : Hp → Prop) (R : RH) (B : Nat) : Sp := fun vs H Q _ => ∃ (k : Kd) (a b : Tm) (x y : V), vs = [.str k.str, x, y] ∧ J H ∧ R H a x ∧ R H b y ∧ (Tm.nd k a b).parts ≤ B ∧ ∀ (r : V) (H' : Hp), Same H H' → R H' (.nd k a b) r → Q r H'
def sp_foldedH (K : PySem.W.Frag) (J : Hp → Prop) (R : RH) (B : Nat) (fs fp : Addr) : Sp := fun vs H Q _ => ∃ (v : V) (t : Tm), vs = [v, .ref fs, .ref fp] ∧ J H ∧ IsT K H v t ∧ t.ok ∧ t.parts ≤ B ∧ B ≤ 400 ∧ ∀ (r : V) (H' : Hp), Same H H' → R H' t r → Q r H'
def sp_placed (K : PySem.W.Frag) (T : Addr) (ds : List (Pos × Str)) : Sp := fun vs H Q _ => ∃ (v : V) (t : Tm) (x : Str) (ov : V) (o : Tm), vs = [v, .str x, ov] ∧ IsT K H v t ∧ IsT K H ov o ∧ t.ok ∧ Word x ∧ t.parts ≤ 300 ∧ TabOk H T ds ∧
  ∀ (r : V) (H' : Hp), SameT H H' → TabOk H' T ds → IsT K H' r (t.sub x o) → Q r H'
theorem SameT.keepT {K : PySem.W.Frag} {H H' : Hp} (e : SameT H H') : KeepT K H H' := fun a xs h => by
  rcases h with (h | ⟨o, h⟩) | h
  · exact .inl (.inl (e _ _ (fun _ z => nomatch z) h))
  · exact .inl (.inr ⟨o, e _ _ (fun _ z => nomatch z) h⟩)
  · exact .inr h
theorem SameT.seq {K : PySem.W.Frag} {H H' : Hp} {a : Addr} {xs : List V} (e : SameT H H') (h : SqL K H a xs) : SqL K H' a xs := by
  rcases h with (h | ⟨o, h⟩) | h
  · exact .inl (.inl (e _ _ (fun _ z => nomatch z) h))
  · exact .inl (.inr ⟨o, e _ _ (fun _ z => nomatch z) h⟩)
  · exact .inr h
theorem pre_mem_ok {t s : Tm} (h : t.ok) (hs : s ∈ t.pre) : s.ok := Tm.pre_ok h s hs
end Ken

set_option Elab.async false
set_option linter.all false
set_option maxRecDepth 100000
set_option maxHeartbeats 4000000
namespace KLaw
open PySem L2 Ken
local macro_rules | `(tactic| walk_at "rd") => `(tactic| simp only [tIf, rInT, iRev, tCallL, tComp, kNest, kTest, kApp, kPut, tSeq, tAsg, gName, tVar, tC, tOp, rI0, rI, rU, tUn, tRet, tRetN, tIfS, tTest, tB, tNext, tCons, tNil, tCB, tCall, tTup, tLst, tDrop, tAug, ipI, tAnd, tOr, tNot, tAndV, tOrV, tNotV, tBM, tBM0, rAppend, rExtend, rPop, rIxL, rIxT, rIxS, rCat, rEq, rNe, rMulS, tSl, rSlL, rSlS, tPart, tNoPart, tRev, rJoin, tDGet, tDisp, tPairs, tFs, tFv, tFc, tF0, tKD, rIsi, rEqD, tNever, tChain, rIn, rSetL, gSub, iEnum, iStr, tKNotIn, tDIn, tDNotIn, sDPut, gTup, gCons, gNil, iRng1, iRng2, iList, iTup, iZip, iZipT, rRevd, L2.start, capt,
  List.map_cons, List.map_nil, List.length_cons, List.length_nil, List.cons_append, List.nil_append, List.append_nil, List.replicate_succ, List.replicate_zero, Nat.reduceAdd, Nat.reduceSub, Nat.zero_add, Nat.add_zero, Nat.sub_zero, Nat.sub_self, List.getElem?_cons_zero, List.getElem?_cons_succ, List.getElem?_nil, List.set_cons_zero, List.set_cons_succ, Option.some.injEq, V.int.injEq, V.str.injEq, V.ref.injEq, V.bl.injEq, V.ty.injEq, List.cons.injEq, and_true, true_and, exists_eq_left', exists_eq_left, exists_and_left, exists_eq, exists_eq', and_assoc, Option.join_some, Option.join_none, scal_int, scal_str, scal_bl, cxOf_K, cxC_K, blk_K, decide_eq_true_eq])
local macro_rules | `(tactic| walk_at "ri") => `(tactic| simp only [tIf, rInT, iRev, tCallL, tComp, kNest, kTest, kApp, kPut, tFor, tLC, tVar, tC, tOp, rI0, rI, rU, tUn, tTest, tB, tCons, tNil, tCB, tCall, tTup, tLst, ipI, tAnd, tOr, tNot, tAndV, tOrV, tNotV, tBM, tBM0, rAppend, rExtend, rPop, rIxL, rIxT, rIxS, rCat, rEq, rNe, rMulS, tSl, rSlL, rSlS, tPart, tNoPart, tRev, rJoin, tDGet, tDisp, tPairs, tFs, tFv, tFc, tF0, tKD, rIsi, rEqD, tNever, tChain, rIn, rSetL, iEnum, iStr, tKNotIn, tDIn, tDNotIn, iRng1, iRng2, iList, iTup, iZip, iZipT, rRevd, L2.start, capt,
  List.map_cons, List.map_nil, List.length_cons, List.length_nil, List.cons_append, List.nil_append, List.append_nil, List.replicate_succ, List.replicate_zero, Nat.reduceAdd, Nat.reduceSub, Nat.zero_add, Nat.add_zero, Nat.sub_zero, Nat.sub_self, List.getElem?_cons_zero, List.getElem?_cons_succ, List.getElem?_nil, List.set_cons_zero, List.set_cons_succ, Option.some.injEq, V.int.injEq, V.str.injEq, V.ref.injEq, V.bl.injEq, V.ty.injEq, List.cons.injEq, and_true, true_and, exists_eq_left', exists_eq_left, exists_and_left, exists_eq, exists_eq', and_assoc, Option.join_some, Option.join_none, scal_int, scal_str, scal_bl, cxOf_K, cxC_K, blk_K, decide_eq_true_eq])
abbrev s__law_same : Stmt := top 12
theorem sc__law_same : FnScope ["_law_found", "_law_due"] ["_law_found", "_law_due"] (defScope s__law_same) := ⟨rfl, rfl, rfl, by decide +kernel, rfl, by decide +kernel, by decide +kernel⟩
def sp_same61 (K : PySem.W.Frag) (n : Nat) : Sp := fun vs H Q _ => ∃ (v u : V) (i : Itm), vs = [v, u] ∧ DIx K H v i ∧ DIx K H u i ∧ itDeep i < n ∧ ∀ H', Same H H' → Q (.bl true) H'
theorem kit_ti (K : PySem.W.Frag) : PySem.W.kitOne K (.type "tuple") (.type "int") = some false := rfl
theorem kit_tl (K : PySem.W.Frag) : PySem.W.kitOne K (.type "tuple") (.type "list") = some false := rfl
section
variable {P : Program} {w : World} {K : PySem.W.Frag} {mg : Str → Option Value} {base : Heap}
theorem ok__law_same {k n : Nat} {f__law_same : Addr} {fd__law_same : FuncData} (F__law_same : Fun K "_law_same" "_law_same" s__law_same f__law_same fd__law_same) (G__law_same : FnOk P w K mg base CX0 k f__law_same fd__law_same ["_law_found", "_law_due"] (sp_same61 K n)) (m__law_same : mg "_law_same" = some (.ref f__law_same)) (k__law_same : PySem.W.keepIn K (.ref f__law_same) = true) (b__law_same : Binds K fd__law_same ["_law_found", "_law_due"] []) (m_isinstance : mg "isinstance" = none) (m_str : mg "str" = none) (m_int : mg "int" = none) (m_list : mg "list" = none) (m_all : mg "all" = none) (m_tuple : mg "tuple" = none) (m_len : mg "len" = none) (m_bool : mg "bool" = none) (m_zip : mg "zip" = none) : FnOk P w K mg base CX0 (k + 1) f__law_same fd__law_same ["_law_found", "_law_due"] (sp_same61 K (n + 1)) := by
  refine F__law_same.ok sc__law_same (fun vs H Q E h => ?_) (fun cdv A outer s H vs Q E hr h => ?_)
  · obtain ⟨v, t, i, rfl, _⟩ := h
    rfl
  obtain ⟨v, u, i, rfl, h1, h2, hn, q⟩ := h
  refine ⟨_, (pss_cons (ps_if (pt_cmpR (op_isN) (pv 1) pe_non (nomark _))
    (pss_one (ps_ret (pe_cmpR (op_isN) (pv 0) pe_non (nomark _))))
    pss_nil)
  (pss_cons (ps_if (pt_val (pe_callB call_isi (by exact rfl) m_isinstance Ken.boot_isinstance (pa_cons (pv 1) (pa_cons (pe_bltn (v := .ty "str") (by exact rfl) m_str Ken.boot_str (by exact rfl)) pa_nil))))
    (pss_one (ps_ret (pe_and (pe_callB call_isi (by exact rfl) m_isinstance Ken.boot_isinstance (pa_cons (pv 0) (pa_cons (pe_bltn (v := .ty "str") (by exact rfl) m_str Ken.boot_str (by exact rfl)) pa_nil))) (pe_one (pe_cmpR (op_eq) (pv 0) (pv 1) (nomark _))))))
    pss_nil)
  (pss_cons (ps_if (pt_val (pe_callB call_isi (by exact rfl) m_isinstance Ken.boot_isinstance (pa_cons (pv 1) (pa_cons (pe_bltn (v := .ty "int") (by exact rfl) m_int Ken.boot_int (by exact rfl)) pa_nil))))
    (pss_one (ps_ret (pe_and (pe_callB call_isi (by exact rfl) m_isinstance Ken.boot_isinstance (pa_cons (pv 0) (pa_cons (pe_bltn (v := .ty "int") (by exact rfl) m_int Ken.boot_int (by exact rfl)) pa_nil))) (pe_and (pe_not (pe_callB call_isi (by exact rfl) m_isinstance Ken.boot_isinstance (pa_cons (pv 0) (pa_cons (pe_bltn (v := .ty "bool") (by exact rfl) m_bool Ken.boot_bool (by exact rfl)) pa_nil)))) (pe_one (pe_cmpR (op_eq) (pv 0) (pv 1) (nomark _)))))))
    pss_nil)
  (pss_cons (ps_if (pt_val (pe_callB call_isi (by exact rfl) m_isinstance Ken.boot_isinstance (pa_cons (pv 1) (pa_cons (pe_bltn (v := .ty "list") (by exact rfl) m_list Ken.boot_list (by exact rfl)) pa_nil))))
    (pss_one (ps_if (pt_not (pt_val (pe_callB call_isi (by exact rfl) m_isinstance Ken.boot_isinstance (pa_cons (pv 0) (pa_cons (pe_bltn (v := .ty "list") (by exact rfl) m_list Ken.boot_list (by exact rfl)) pa_nil)))))
    (pss_one (ps_ret pe_bl))
    pss_nil))
    (pss_one (ps_if (pt_not (pt_val (pe_callB call_isi (by exact rfl) m_isinstance Ken.boot_isinstance (pa_cons (pv 0) (pa_cons (pe_bltn (v := .ty "tuple") (by exact rfl) m_tuple Ken.boot_tuple (by exact rfl)) pa_nil)))))
    (pss_one (ps_ret pe_bl))
    pss_nil)))
  (pss_one (ps_ret (pe_and (pe_cmpR (op_eq) (pe_callB call_len_seq (by exact rfl) m_len Ken.boot_len (pa_cons (pv 0) pa_nil)) (pe_callB call_len_seq (by exact rfl) m_len Ken.boot_len (pa_cons (pv 1) pa_nil)) (nomark _)) (pe_one (pe_callB (call_allB rfl) (by exact rfl) m_all Ken.boot_all (pa_cons (pe_lc (blk0 (N' := ["_law_here", "_law_there"]) (by decide +kernel) (by decide +kernel) rfl (by decide +kernel)) rfl (pi_zipT rfl m_zip (pa_cons (pv 0) (pa_cons (pv 1) pa_nil))) (fun _ _ _ _ => (pg_tupK (K := K) (n := 2) rfl rfl (pgs_cons (pg_name (i := 0) (show (["_law_here", "_law_there"] : List Str).Nodup from by decide +kernel) rfl (Or.inl rfl)) (pgs_cons (pg_name (i := 1) (show (["_law_here", "_law_there"] : List Str).Nodup from by decide +kernel) rfl (Or.inl rfl)) pgs_nil)) rfl rfl)) (fun _ _ _ _ => (pe_call G__law_same hr (by exact rfl) m__law_same k__law_same b__law_same .nil pass0 (pa_cons (pv 0) (pa_cons (pv 1) pa_nil))))) pa_nil)))))))))), ?_⟩
  walk_at "rd"
  cases i with
  | inl z =>
    have e1 : v = .str z := h1
    have e2 : u = .str z := h2
    subst e1; subst e2
    rw [if_neg (by simp)]
    refine ⟨_, .of (.str z), _, kit_same K "str", ?_⟩
    rw [if_pos rfl]
    refine ⟨_, .of (.str z), _, kit_same K "str", ?_⟩
    rw [if_pos rfl, decide_eq_true rfl]
    exact ⟨scal_str _ _, q _ (Same.refl _)⟩
  | inr t =>
    have h1' : IsT K H v t := h1
    have h2' : IsT K H u t := h2
    obtain ⟨p1, xs1, rfl, s1, d1⟩ := isT_subs h1'
    obtain ⟨p2, xs2, rfl, s2, d2⟩ := isT_subs h2'
    have l1 := Paired.length d1
    have l2 := Paired.length d2
    have l3 := subs_len t
    rw [if_neg (by simp)]
    refine ⟨_, .tupK s2, _, kit_ts K, ?_⟩
    rw [if_neg Bool.false_ne_true]
    refine ⟨_, .tupK s2, _, kit_ti K, ?_⟩
    rw [if_neg Bool.false_ne_true]
    refine ⟨_, .tupK s2, _, kit_tl K, ?_⟩
    rw [if_neg Bool.false_ne_true]
    refine ⟨_, .tupK s1, _, kit_same K "tuple", ?_⟩
    rw [if_neg (by decide)]
    refine ⟨p1, rfl, xs1, .inr s1, p2, rfl, xs2, .inr s2, ?_⟩
    rw [if_pos (by rw [l1, l2])]
    walk_at "ri"
    refine ⟨⟨_, s1⟩, ⟨_, s2⟩, fun acc hacc => ?_⟩
    refine lcW_zipT (xs := xs1) (ys := xs2) (fun i zs H' => Same H H' ∧ H' acc = some (.lst zs) ∧ zs = List.replicate i (V.bl true)) (by rw [l1, l2]) ⟨same_new hacc _, upd_same, rfl⟩ (fun i zs H' hi ⟨e, h, hz⟩ => ⟨h, ?_, e.sqt s1, e.sqt s2⟩) (fun i x y zs H' T hx hy hT ⟨e, h, hz⟩ C' hC' => ?_) (fun zs H' ⟨e, h, hz⟩ => ?_)
    · rw [hz, List.length_replicate]; exact small1M (by omega)
    · obtain ⟨j, hj, dj⟩ := paired_get d1 hx
      obtain ⟨j', hj', dj'⟩ := paired_get d2 hy
      rw [hj] at hj'
      cases hj'
      have hin := subs_deep j (List.mem_of_getElem? hj)
      have hn' : t.deep < n + 1 := hn
      have eT : Same H (upd H' T (.tup [x, y])) := e.trans (same_new hT _)
      walk_at "rd"
      refine ⟨_, .inl (.inl upd_same), rfl, _, _, rfl, _, _, rfl, rfl, Wk.trans (wk_set (i := 0) rfl) (wk_set (i := 1) rfl), x, y, j, rfl, dj.keep eT.keepT, dj'.keep eT.keepT, by omega, fun H5 e5 => hC' _ _ (e5 _ _ ((same_new hT _) _ _ h)) ⟨(eT.trans e5).write hacc, upd_same, ?_⟩⟩
      rw [hz, List.replicate_succ']
    · refine ⟨acc, rfl, List.replicate xs1.length true, ?_, ?_⟩
      · rw [List.map_replicate]; rw [hz] at h; exact SqL.of h
      · rw [show (List.replicate xs1.length true).all id = true from by simp]
        exact q _ e
theorem same61_zero {f : Addr} {fd : FuncData} {ps : List Str} {k : Nat} : FnOk P w K mg base CX0 k f fd ps (sp_same61 K 0) := by
  have no : ∀ vs H Q E, ¬ sp_same61 K 0 vs H Q E := fun vs H Q E h => by
    obtain ⟨_, _, _, _, _, _, hn, _⟩ := h
    exact absurd hn (Nat.not_lt_zero _)
  exact ⟨fun vs H Q E h => absurd h (no vs H Q E), fun A outer s H args us vs Q E _ _ _ _ h => absurd h (no vs H Q E)⟩
theorem all__law_same {f__law_same : Addr} {fd__law_same : FuncData} (F__law_same : Fun K "_law_same" "_law_same" s__law_same f__law_same fd__law_same) (m__law_same : mg "_law_same" = some (.ref f__law_same)) (b__law_same : Binds K fd__law_same ["_law_found", "_law_due"] []) (m_isinstance : mg "isinstance" = none) (m_str : mg "str" = none) (m_int : mg "int" = none) (m_list : mg "list" = none) (m_all : mg "all" = none) (m_tuple : mg "tuple" = none) (m_len : mg "len" = none) (m_bool : mg "bool" = none) (m_zip : mg "zip" = none) :
    ∀ n : Nat, FnOk P w K mg base CX0 (n + 1) f__law_same fd__law_same ["_law_found", "_law_due"] (sp_same61 K n)
  | 0 => same61_zero
  | n + 1 => ok__law_same F__law_same (all__law_same F__law_same m__law_same b__law_same m_isinstance m_str m_int m_list m_all m_tuple m_len m_bool m_zip n) m__law_same F__law_same.kp b__law_same m_isinstance m_str m_int m_list m_all m_tuple m_len m_bool m_zip
end
end KLaw


set_option Elab.async false
set_option linter.all false
set_option maxRecDepth 100000
set_option maxHeartbeats 4000000
namespace KLaw
open PySem L2 Ken
local macro_rules | `(tactic| walk_at "rd") => `(tactic| simp only [tIf, rInT, iRev, tCallL, tComp, kNest, kTest, kApp, kPut, tSeq, tAsg, gName, tVar, tC, tOp, rI0, rI, rU, tUn, tRet, tRetN, tIfS, tTest, tB, tNext, tCons, tNil, tCB, tCall, tTup, tLst, tDrop, tAug, ipI, tAnd, tOr, tNot, tAndV, tOrV, tNotV, tBM, tBM0, rAppend, rExtend, rPop, rIxL, rIxT, rIxS, rCat, rEq, rNe, rMulS, tSl, rSlL, rSlS, tPart, tNoPart, tRev, rJoin, tDGet, tDisp, tPairs, tFs, tFv, tFc, tF0, tKD, rIsi, rEqD, tNever, tChain, rIn, rSetL, gSub, iEnum, iStr, tKNotIn, tDIn, tDNotIn, sDPut, gTup, gCons, gNil, iRng1, iRng2, iList, iTup, iZip, iZipT, rRevd, L2.start, capt,
  List.map_cons, List.map_nil, List.length_cons, List.length_nil, List.cons_append, List.nil_append, List.append_nil, List.replicate_succ, List.replicate_zero, Nat.reduceAdd, Nat.reduceSub, Nat.zero_add, Nat.add_zero, Nat.sub_zero, Nat.sub_self, List.getElem?_cons_zero, List.getElem?_cons_succ, List.getElem?_nil, List.set_cons_zero, List.set_cons_succ, Option.some.injEq, V.int.injEq, V.str.injEq, V.ref.injEq, V.bl.injEq, V.ty.injEq, List.cons.injEq, and_true, true_and, exists_eq_left', exists_eq_left, exists_and_left, exists_eq, exists_eq', and_assoc, Option.join_some, Option.join_none, scal_int, scal_str, scal_bl, cxOf_K, cxC_K, blk_K, decide_eq_true_eq])
local macro_rules | `(tactic| walk_at "ri") => `(tactic| simp only [tIf, rInT, iRev, tCallL, tComp, kNest, kTest, kApp, kPut, tFor, tLC, tVar, tC, tOp, rI0, rI, rU, tUn, tTest, tB, tCons, tNil, tCB, tCall, tTup, tLst, ipI, tAnd, tOr, tNot, tAndV, tOrV, tNotV, tBM, tBM0, rAppend, rExtend, rPop, rIxL, rIxT, rIxS, rCat, rEq, rNe, rMulS, tSl, rSlL, rSlS, tPart, tNoPart, tRev, rJoin, tDGet, tDisp, tPairs, tFs, tFv, tFc, tF0, tKD, rIsi, rEqD, tNever, tChain, rIn, rSetL, iEnum, iStr, tKNotIn, tDIn, tDNotIn, iRng1, iRng2, iList, iTup, iZip, iZipT, rRevd, L2.start, capt,
  List.map_cons, List.map_nil, List.length_cons, List.length_nil, List.cons_append, List.nil_append, List.append_nil, List.replicate_succ, List.replicate_zero, Nat.reduceAdd, Nat.reduceSub, Nat.zero_add, Nat.add_zero, Nat.sub_zero, Nat.sub_self, List.getElem?_cons_zero, List.getElem?_cons_succ, List.getElem?_nil, List.set_cons_zero, List.set_cons_succ, Option.some.injEq, V.int.injEq, V.str.injEq, V.ref.injEq, V.bl.injEq, V.ty.injEq, List.cons.injEq, and_true, true_and, exists_eq_left', exists_eq_left, exists_and_left, exists_eq, exists_eq', and_assoc, Option.join_some, Option.join_none, scal_int, scal_str, scal_bl, cxOf_K, cxC_K, blk_K, decide_eq_true_eq])
abbrev s__law_fits : Stmt := top 13
theorem sc__law_fits : FnScope ["_law_found", "_law_statement_here", "_law_word", "_law_other", "_law_todo", "_law_here", "_law_there"] ["_law_found", "_law_statement_here", "_law_word", "_law_other"] (defScope s__law_fits) := ⟨rfl, rfl, rfl, by decide +kernel, rfl, by decide +kernel, by decide +kernel⟩
/-- what was told, and the statement beside it -/
def prD (x : Str) (o s : Tm) : PyData := .tuple [(s.sub x o).data, s.data]
theorem prD_noList (x : Str) (o s : Tm) : L2.noList (prD x o s) = true := by
  show (L2.noList (s.sub x o).data && (L2.noList s.data && true)) = true
  rw [Tm.noList, Tm.noList]; rfl
theorem prD_lay {x : Str} {o s : Tm} (ho : o.ok) (hs : s.ok) : (prD x o s).canLay0 = true := by
  show ((s.sub x o).data.canLay0 && (s.data.canLay0 && true)) = true
  rw [Tm.lay _ (Tm.sub_ok ho hs), Tm.lay _ hs]; rfl
theorem prD_iff {K : PySem.W.Frag} {H : Hp} {u : V} {x : Str} {o s : Tm} : Dn K H u (prD x o s) ↔ ∃ T hv tv, u = .ref T ∧ SqT K H T [hv, tv] ∧ IsT K H hv (s.sub x o) ∧ IsT K H tv s := by
  unfold prD
  rw [Dn]
  constructor
  · rintro ⟨a, xs, rfl, hs, hd⟩
    rw [DnAll] at hd
    obtain ⟨y, r, rfl, h1, h2⟩ := hd
    rw [DnAll] at h2
    obtain ⟨z, r, rfl, h3, h4⟩ := h2
    rw [DnAll] at h4
    subst h4
    exact ⟨a, y, z, rfl, hs, h1, h3⟩
  · rintro ⟨a, y, z, rfl, hs, h1, h3⟩
    refine ⟨a, _, rfl, hs, ?_⟩
    rw [DnAll]
    refine ⟨_, _, rfl, h1, ?_⟩
    rw [DnAll]
    exact ⟨_, _, rfl, h3, by rw [DnAll]⟩
theorem prs_dn {K : PySem.W.Frag} {H : Hp} {x : Str} {o : Tm} : ∀ {us : List V} {ss : List Tm}, Paired (fun u s => Dn K H u (prD x o s)) us ss → DnAll K H us (ss.map (prD x o))
  | _, _, .nil => by rw [List.map_nil, DnAll]
  | _, _, .cons h t => by
    rw [List.map_cons, DnAll]
    exact ⟨_, _, rfl, h, prs_dn t⟩
theorem paired_reverse {α β : Type} {F : α → β → Prop} : ∀ {l : List α} {m : List β}, Paired F l m → Paired F l.reverse m.reverse
  | _, _, .nil => .nil
  | _, _, .cons h t => by
    rw [List.reverse_cons, List.reverse_cons]
    exact paired_app (paired_reverse t) (.cons h .nil)
def sumT (ss : List Tm) : Nat := (ss.map Tm.parts).sum
theorem len_sumT : ∀ ss : List Tm, ss.length ≤ sumT ss
  | [] => Nat.le_refl _
  | s :: ss => by
    have := len_sumT ss
    have := s.parts_pos
    show ss.length + 1 ≤ s.parts + sumT ss
    omega
def sp_fits61 (K : PySem.W.Frag) : Sp := fun vs H Q _ => ∃ (fv sv ov : V) (t o : Tm) (x : Str), vs = [fv, sv, .str x, ov] ∧ IsT K H fv (t.sub x o) ∧ IsT K H sv t ∧ IsT K H ov o ∧ t.ok ∧ o.ok ∧ Word x ∧ t.parts ≤ 300 ∧ o.deep < 8 ∧ ∀ H', Same H H' → Q (.bl true) H'
section
variable {P : Program} {w : World} {K : PySem.W.Frag} {mg : Str → Option Value} {base : Heap}
theorem ok__law_fits {k : Nat} {f__law_fits : Addr} {fd__law_fits : FuncData} (F__law_fits : Fun K "_law_fits" "_law_fits" s__law_fits f__law_fits fd__law_fits) {f__law_same : Addr} {fd__law_same : FuncData} (G__law_same : FnOk P w K mg base CX0 k f__law_same fd__law_same ["_law_found", "_law_due"] (sp_same61 K 8)) (m__law_same : mg "_law_same" = some (.ref f__law_same)) (k__law_same : PySem.W.keepIn K (.ref f__law_same) = true) (b__law_same : Binds K fd__law_same ["_law_found", "_law_due"] []) (m_len : mg "len" = none) (m_isinstance : mg "isinstance" = none) (m_tuple : mg "tuple" = none) : FnOk P w K mg base CX0 (k + 1) f__law_fits fd__law_fits ["_law_found", "_law_statement_here", "_law_word", "_law_other"] (sp_fits61 K) := by
  refine F__law_fits.ok sc__law_fits (fun vs H Q E h => ?_) (fun cdv A outer s H vs Q E hr h => ?_)
  · obtain ⟨_, _, _, _, _, _, rfl, _⟩ := h
    rfl
  obtain ⟨fv, sv, ov, t, o, x, rfl, hF, hS, hO, htk, hok, hx, hp, hdp, q⟩ := h
  refine ⟨_, (pss_cons (ps_set (i := 4) sc__law_fits.nd rfl (Or.inl rfl) (pe_lst (pa_cons (pe_tup (pa_cons (pv 0) (pa_cons (pv 1) pa_nil))) pa_nil)))
  (pss_cons (ps_while PassesOwn.never (pt_cmpR (op_neD (hu_150 hr)) (pv 4) (pe_lst pa_nil) (nomark _))
    (pss_cons (ps_asg (pe_bm0 PySem.F.plainAttrs_list PySem.F.slot_list_pop PySem.F.type_list_pop mt_pop (pv 4)) (pg_tup rfl (pgs_cons (pg_name (i := 5) sc__law_fits.nd rfl (Or.inl rfl)) (pgs_cons (pg_name (i := 6) sc__law_fits.nd rfl (Or.inl rfl)) pgs_nil))))
  (pss_one (ps_if (pt_cmpR (op_eqD (hu_150 hr)) (pv 6) (pe_tup (pa_cons pe_str (pa_cons (pv 2) pa_nil))) (nomark _))
    (pss_one (ps_if (pt_not (pt_val (pe_call G__law_same hr (by exact rfl) m__law_same k__law_same b__law_same .nil pass0 (pa_cons (pv 5) (pa_cons (pv 3) pa_nil)))))
    (pss_one (ps_ret pe_bl))
    pss_nil))
    (pss_one (ps_if (pt_cmpR (op_lt) (pe_callB call_len_seq (by exact rfl) m_len Ken.boot_len (pa_cons (pv 6) pa_nil)) pe_int (nomark _))
    (pss_one (ps_if (pt_not (pt_val (pe_call G__law_same hr (by exact rfl) m__law_same k__law_same b__law_same .nil pass0 (pa_cons (pv 5) (pa_cons (pv 6) pa_nil)))))
    (pss_one (ps_ret pe_bl))
    pss_nil))
    (pss_one (ps_if ((pw_or (pt_not (pt_val (pe_callB call_isi (by exact rfl) m_isinstance Ken.boot_isinstance (pa_cons (pv 5) (pa_cons (pe_bltn (v := .ty "tuple") (by exact rfl) m_tuple Ken.boot_tuple (by exact rfl)) pa_nil))))) (pw_or (pt_cmpR (op_ne) (pe_callB call_len_seq (by exact rfl) m_len Ken.boot_len (pa_cons (pv 5) pa_nil)) pe_int (nomark _)) (pw_or1 (pt_not (pt_val (pe_call G__law_same hr (by exact rfl) m__law_same k__law_same b__law_same .nil pass0 (pa_cons (pe_ix ix_tup (pv 5) pe_int (fun _ _ => rfl)) (pa_cons (pe_ix ix_tup (pv 6) pe_int (fun _ _ => rfl)) pa_nil))))))))).pt
    (pss_one (ps_ret pe_bl))
    (pss_cons (ps_expr (pe_bm PySem.F.plainAttrs_list PySem.F.slot_list_append PySem.F.type_list_append mt_append (pv 4) (pa_cons (pe_tup (pa_cons (pe_ix ix_tup (pv 5) pe_int (fun _ _ => rfl)) (pa_cons (pe_ix ix_tup (pv 6) pe_int (fun _ _ => rfl)) pa_nil))) pa_nil)))
  (pss_one (ps_expr (pe_bm PySem.F.plainAttrs_list PySem.F.slot_list_append PySem.F.type_list_append mt_append (pv 4) (pa_cons (pe_tup (pa_cons (pe_ix ix_tup (pv 5) pe_int (fun _ _ => rfl)) (pa_cons (pe_ix ix_tup (pv 6) pe_int (fun _ _ => rfl)) pa_nil))) pa_nil)))))))))))))
  (pss_one (ps_ret pe_bl)))), ?_⟩
  walk_at "rd"
  refine ⟨by decide, fun p0 hp0 => ⟨by decide, fun lw hlw => ?_⟩⟩
  have es := same_new hp0 (HO.tup [fv, sv])
  have e0 : Same H (upd (upd H p0 (.tup [fv, sv])) lw (.lst [.ref p0])) := es.trans (same_new hlw _)
  have hlwH : H lw = none := es.free hlw
  refine ⟨fun m σ' H' => ∃ st ss x5 x6, m = sumT ss ∧ σ' = [some fv, some sv, some (.str x), some ov, some (.ref lw), x5, x6] ∧ Same H H' ∧ H' lw = some (.lst st.reverse) ∧ Paired (fun u s => Dn K H' u (prD x o s)) st ss ∧ (∀ s ∈ ss, s.ok) ∧ sumT ss ≤ 300,
    ⟨_, [.ref p0], [t], none, none, rfl, rfl, e0, upd_same, .cons (prD_iff.mpr ⟨p0, fv, sv, rfl, (same_new hlw _).sqt (.inl (.inl upd_same)), hF.keep e0.keepT, hS.keep e0.keepT⟩) .nil, ?_, ?_⟩, ?_⟩
  · intro i hi
    rcases List.mem_singleton.mp hi with rfl
    exact htk
  · show t.parts + 0 ≤ 300
    omega
  rintro m σ1 H1 ⟨st, ss, x5, x6, rfl, rfl, e1, h2, hd, hks, hn⟩
  walk_at "rd"
  refine ⟨by decide, fun pn hpn => ⟨.list (ss.map (prD x o)).reverse, ?_, .list [], ?_, ?_, rfl, Nat.le_trans (Nat.min_le_right _ _) (by decide), ?_⟩⟩
  · rw [Dn]
    refine ⟨lw, st.reverse, rfl, SqL.of (by rw [upd_ne (ne_of_none h2 hpn)]; exact h2), ?_⟩
    rw [← List.map_reverse]
    exact prs_dn (paired_reverse (Paired.mapP hd fun u s z => Dn.keepT (keepT_new hpn) (prD_noList x o s) z))
  · rw [Dn]
    exact ⟨pn, [], rfl, SqL.of upd_same, by rw [DnAll]⟩
  · refine canLay_list fun d hd' => ?_
    rw [List.mem_reverse, List.mem_map] at hd'
    obtain ⟨i, hi, rfl⟩ := hd'
    exact prD_lay hok (hks i hi)
  rw [if_pos trivial, eqv_nil]
  have h2n : upd H1 pn (.lst []) lw = some (.lst st.reverse) := by rw [upd_ne (ne_of_none h2 hpn)]; exact h2
  have k0 : KeepT K H1 (upd H1 pn (.lst [])) := keepT_new hpn
  have e1n : Same H (upd H1 pn (.lst [])) := e1.trans (same_new hpn _)
  cases hd with
  | nil =>
    rw [if_neg (by simp)]
    exact q _ e1n
  | @cons u s' st ss hu hst =>
    have hrev : (u :: st).reverse = st.reverse ++ [u] := List.reverse_cons
    rw [if_pos (by simp)]
    rw [hrev] at h2n
    refine ⟨_, fun σ' H' z => z, .inl ⟨rfl, _, SqL.of h2n⟩, _, h2n, u, by simp, ?_⟩
    rw [List.dropLast_concat]
    have k1 : KeepT K H1 (upd (upd H1 pn (.lst [])) lw (.lst st.reverse)) := k0.trans (keepT_lst h2n)
    have e2 : Same H (upd (upd H1 pn (.lst [])) lw (.lst st.reverse)) := e1n.write hlwH
    have l2 : upd (upd H1 pn (.lst [])) lw (.lst st.reverse) lw = some (.lst st.reverse) := upd_same
    have hst2 : Paired (fun u s => Dn K (upd (upd H1 pn (.lst [])) lw (.lst st.reverse)) u (prD x o s)) st ss := Paired.mapP hst fun u s z => Dn.keepT k1 (prD_noList x o s) z
    obtain ⟨T, hv, tv, rfl, hs, hh, ht⟩ := prD_iff.mp (Dn.keepT k1 (prD_noList x o s') hu)
    generalize upd (upd H1 pn (.lst [])) lw (.lst st.reverse) = H2 at e2 l2 hst2 hs hh ht
    have hsum : sumT (s' :: ss) = s'.parts + sumT ss := rfl
    have hks' : ∀ s ∈ ss, s.ok := fun j hj => hks j (List.mem_cons_of_mem _ hj)
    have hk' : s'.ok := hks s' List.mem_cons_self
    have f1 : sumT ss < sumT (s' :: ss) := by have := s'.parts_pos; omega
    have f2 : sumT ss ≤ 300 := by omega
    have fp : ∀ H5 : Hp, Same H2 H5 → Paired (fun u s => Dn K H5 u (prD x o s)) st ss := fun H5 e5 => Paired.mapP hst2 fun u s z => Dn.keepT e5.keepT (prD_noList x o s) z
    refine ⟨T, rfl, _, hs, rfl, _, _, rfl, _, _, rfl, rfl, by decide, fun p hp5 => ?_⟩
    have s5 : Same H2 (upd H2 p (.tup [.str "letter", .str x])) := same_new hp5 _
    have hl : IsT K (upd H2 p (.tup [.str "letter", .str x])) (.ref p) (.ltr x) := isT_ltr.mpr ⟨p, rfl, .inl (.inl upd_same)⟩
    generalize upd H2 p (.tup [.str "letter", .str x]) = H3 at s5 hl ⊢
    refine ⟨s'.data, ht.keep s5.keepT, (Tm.ltr x).data, hl, s'.lay hk', (Tm.ltr x).lay hx, by rw [Tm.depth, Tm.depth]; show min _ 1 ≤ 150; omega, ?_⟩
    rw [if_neg Bool.false_ne_true, Tm.eqv]
    by_cases es' : s' = .ltr x
    · rw [if_pos (by simpa using es')]
      subst es'
      have hh' : IsT K H2 hv o := by
        have z : IsT K H2 hv (if x = x then o else .ltr x) := hh
        rwa [if_pos rfl] at z
      refine ⟨hv, ov, .inr o, rfl, hh'.keep s5.keepT, hO.keep (e2.trans s5).keepT, hdp, fun H5 e5 => ⟨true, rfl, ?_⟩⟩
      rw [if_neg (by decide)]
      have e5' := s5.trans e5
      exact ⟨sumT ss, f1, st, ss, rfl, _, _, rfl, e2.trans e5', e5' _ _ l2, fp _ e5', hks', f2⟩
    · rw [if_neg (by simpa using es')]
      have leaf : s'.kids = [] → sp_same61 K 8 [hv, tv] H3 (fun x_4 H1' => ∃ c, x_4 = V.bl c ∧ if (!c) = true then Q (V.bl false) H1' else ∃ m', m' < sumT (s' :: ss) ∧ ∃ st' ss', m' = sumT ss' ∧ ∃ x5 x6, [some fv, some sv, some (V.str x), some ov, some (V.ref lw), some hv, some tv] = [some fv, some sv, some (V.str x), some ov, some (V.ref lw), x5, x6] ∧ Same H H1' ∧ H1' lw = some (.lst st'.reverse) ∧ Paired (fun u s => Dn K H1' u (prD x o s)) st' ss' ∧ (∀ s ∈ ss', s.ok) ∧ sumT ss' ≤ 300) E0 := fun hk0 => by
        have hsub : s'.sub x o = s' := by
          cases s' with
          | low => rfl
          | ltr y =>
            show (if y = x then o else Tm.ltr y) = _
            rw [if_neg (fun z => es' (by rw [z]))]
          | nd kd a b => cases hk0
        have hd1 : s'.deep < 8 := by
          cases s' with
          | low => show 1 < 8; decide
          | ltr y => show 1 < 8; decide
          | nd kd a b => cases hk0
        rw [hsub] at hh
        refine ⟨hv, tv, .inr s', rfl, hh.keep s5.keepT, ht.keep s5.keepT, hd1, fun H5 e5 => ⟨true, rfl, ?_⟩⟩
        rw [if_neg (by decide)]
        have e5' := s5.trans e5
        exact ⟨sumT ss, f1, st, ss, rfl, _, _, rfl, e2.trans e5', e5' _ _ l2, fp _ e5', hks', f2⟩
      cases s' with
      | low =>
        obtain ⟨a, rfl, hsa⟩ := isT_low.mp (ht.keep s5.keepT)
        refine ⟨a, rfl, _, .inr hsa, ?_⟩
        rw [if_pos (by decide)]
        exact leaf rfl
      | ltr y =>
        obtain ⟨a, rfl, hsa⟩ := isT_ltr.mp (ht.keep s5.keepT)
        refine ⟨a, rfl, _, .inr hsa, ?_⟩
        rw [if_pos (by simp)]
        exact leaf rfl
      | nd kd a b =>
        obtain ⟨pt, ta, tb, rfl, hst', h1, h2⟩ := isT_nd.mp (ht.keep s5.keepT)
        have hh'' : IsT K H3 hv (.nd kd (a.sub x o) (b.sub x o)) := hh.keep s5.keepT
        obtain ⟨ph, ha, hb, rfl, hsh, g1, g2⟩ := isT_nd.mp hh''
        refine ⟨pt, rfl, _, .inr hst', ?_⟩
        rw [if_neg (by simp)]
        refine ⟨_, .tupK hsh, _, kit_same K "tuple", ?_⟩
        rw [if_neg (by decide)]
        refine ⟨ph, rfl, _, .inr hsh, ?_⟩
        rw [if_neg (by simp)]
        refine ⟨ph, rfl, _, hsh, _, rfl, pt, rfl, _, hst', _, rfl, _, _, .inl kd.str, rfl, rfl, rfl, (show 0 < 8 by decide), fun H5 e5 => ⟨true, rfl, ?_⟩⟩
        rw [if_neg (by decide)]
        have e35 := s5.trans e5
        have lw5 := e35 _ _ l2
        have hlen : st.length ≤ 300 := by have := Paired.length hst2; have := len_sumT ss; omega
        refine ⟨.inl ⟨rfl, _, SqL.of lw5⟩, ph, rfl, _, e5.sqt hsh, _, rfl, pt, rfl, _, e5.sqt hst', _, rfl, by decide, fun q1 hq1 => ?_⟩
        have lw6 : upd H5 q1 (.tup [ha, ta]) lw = some (.lst st.reverse) := by rw [upd_ne (ne_of_none lw5 hq1)]; exact lw5
        have s6 : Same H5 (upd H5 q1 (.tup [ha, ta])) := same_new hq1 _
        have pr1 : Dn K (upd H5 q1 (.tup [ha, ta])) (.ref q1) (prD x o a) := prD_iff.mpr ⟨q1, ha, ta, rfl, .inl (.inl upd_same), g1.keep (e5.trans s6).keepT, h1.keep (e5.trans s6).keepT⟩
        have e6 : Same H (upd H5 q1 (.tup [ha, ta])) := (e2.trans e35).trans s6
        have hst6 : Paired (fun u s => Dn K (upd H5 q1 (.tup [ha, ta])) u (prD x o s)) st ss := fp _ (e35.trans s6)
        have t6 := e5.trans s6
        generalize upd H5 q1 (.tup [ha, ta]) = H6 at lw6 s6 pr1 e6 hst6 t6
        have k7 : KeepT K H6 (upd H6 lw (.lst (st.reverse ++ [.ref q1]))) := keepT_lst lw6
        have e7 : Same H (upd H6 lw (.lst (st.reverse ++ [.ref q1]))) := e6.write hlwH
        have lw7 : upd H6 lw (.lst (st.reverse ++ [.ref q1])) lw = some (.lst (st.reverse ++ [.ref q1])) := upd_same
        refine ⟨_, lw6, small1M (by rw [List.length_reverse]; omega), .inl ⟨rfl, _, SqL.of lw7⟩, ph, rfl, _, k7 _ _ (t6.sqt hsh), _, rfl, pt, rfl, _, k7 _ _ (t6.sqt hst'), _, rfl, by decide, fun q2 hq2 => ?_⟩
        have k37 : KeepT K H3 (upd H6 lw (.lst (st.reverse ++ [.ref q1]))) := KeepT.trans t6.keepT k7
        generalize upd H6 lw (.lst (st.reverse ++ [.ref q1])) = H7 at k7 e7 lw7 hq2 k37
        have lw8 : upd H7 q2 (.tup [hb, tb]) lw = some (.lst (st.reverse ++ [.ref q1])) := by rw [upd_ne (ne_of_none lw7 hq2)]; exact lw7
        have s8 : Same H7 (upd H7 q2 (.tup [hb, tb])) := same_new hq2 _
        have pr2 : Dn K (upd H7 q2 (.tup [hb, tb])) (.ref q2) (prD x o b) := prD_iff.mpr ⟨q2, hb, tb, rfl, .inl (.inl upd_same), (g2.keep k37).keep s8.keepT, (h2.keep k37).keep s8.keepT⟩
        have k9 : KeepT K (upd H7 q2 (.tup [hb, tb])) (upd (upd H7 q2 (.tup [hb, tb])) lw (.lst (st.reverse ++ [.ref q1] ++ [.ref q2]))) := keepT_lst lw8
        have k69 : KeepT K H6 (upd (upd H7 q2 (.tup [hb, tb])) lw (.lst (st.reverse ++ [.ref q1] ++ [.ref q2]))) := KeepT.trans k7 (KeepT.trans s8.keepT k9)
        refine ⟨_, lw8, small1M (by rw [List.length_append, List.length_reverse, List.length_singleton]; omega), sumT (b :: a :: ss), ?_, .ref q2 :: .ref q1 :: st, b :: a :: ss, rfl, _, _, rfl, (e7.trans s8).write hlwH, ?_, ?_, ?_, ?_⟩
        · show b.parts + (a.parts + sumT ss) < (1 + a.parts + b.parts) + sumT ss
          omega
        · rw [upd_same]; simp
        · exact .cons (Dn.keepT k9 (prD_noList x o b) pr2) (.cons (Dn.keepT k69 (prD_noList x o a) pr1) (Paired.mapP hst6 fun u s z => Dn.keepT k69 (prD_noList x o s) z))
        · intro j hj
          rcases List.mem_cons.mp hj with rfl | hj
          · exact hk'.2
          rcases List.mem_cons.mp hj with rfl | hj
          · exact hk'.1
          · exact hks' j hj
        · have hn' : (1 + a.parts + b.parts) + sumT ss ≤ 300 := hn
          show b.parts + (a.parts + sumT ss) ≤ 300
          omega
end
end KLaw


set_option Elab.async false
set_option linter.all false
set_option maxRecDepth 100000
set_option maxHeartbeats 4000000
namespace KLaw
open PySem L2 Ken
local macro_rules | `(tactic| walk_at "rd") => `(tactic| simp only [tIf, rInT, iRev, tCallL, tComp, kNest, kTest, kApp, kPut, tSeq, tAsg, gName, tVar, tC, tOp, rI0, rI, rU, tUn, tRet, tRetN, tIfS, tTest, tB, tNext, tCons, tNil, tCB, tCall, tTup, tLst, tDrop, tAug, ipI, tAnd, tOr, tNot, tAndV, tOrV, tNotV, tBM, tBM0, rAppend, rExtend, rPop, rIxL, rIxT, rIxS, rCat, rEq, rNe, rMulS, tSl, rSlL, rSlS, tPart, tNoPart, tRev, rJoin, tDGet, tDisp, tPairs, tFs, tFv, tFc, tF0, tKD, rIsi, rEqD, tNever, tChain, rIn, rSetL, gSub, iEnum, iStr, tKNotIn, tDIn, tDNotIn, sDPut, gTup, gCons, gNil, iRng1, iRng2, iList, iTup, iZip, rRevd, L2.start, capt,
  List.map_cons, List.map_nil, List.length_cons, List.length_nil, List.cons_append, List.nil_append, List.append_nil, List.replicate_succ, List.replicate_zero, Nat.reduceAdd, Nat.reduceSub, Nat.zero_add, Nat.add_zero, Nat.sub_zero, Nat.sub_self, List.getElem?_cons_zero, List.getElem?_cons_succ, List.getElem?_nil, List.set_cons_zero, List.set_cons_succ, Option.some.injEq, V.int.injEq, V.str.injEq, V.ref.injEq, V.bl.injEq, V.ty.injEq, List.cons.injEq, and_true, true_and, exists_eq_left', exists_eq_left, exists_and_left, exists_eq, exists_eq', and_assoc, Option.join_some, Option.join_none, scal_int, scal_str, scal_bl, cxOf_K, cxC_K, blk_K, decide_eq_true_eq])
local macro_rules | `(tactic| walk_at "ri") => `(tactic| simp only [tIf, rInT, iRev, tCallL, tComp, kNest, kTest, kApp, kPut, tFor, tLC, tVar, tC, tOp, rI0, rI, rU, tUn, tTest, tB, tCons, tNil, tCB, tCall, tTup, tLst, ipI, tAnd, tOr, tNot, tAndV, tOrV, tNotV, tBM, tBM0, rAppend, rExtend, rPop, rIxL, rIxT, rIxS, rCat, rEq, rNe, rMulS, tSl, rSlL, rSlS, tPart, tNoPart, tRev, rJoin, tDGet, tDisp, tPairs, tFs, tFv, tFc, tF0, tKD, rIsi, rEqD, tNever, tChain, rIn, rSetL, iEnum, iStr, tKNotIn, tDIn, tDNotIn, iRng1, iRng2, iList, iTup, iZip, rRevd, L2.start, capt,
  List.map_cons, List.map_nil, List.length_cons, List.length_nil, List.cons_append, List.nil_append, List.append_nil, List.replicate_succ, List.replicate_zero, Nat.reduceAdd, Nat.reduceSub, Nat.zero_add, Nat.add_zero, Nat.sub_zero, Nat.sub_self, List.getElem?_cons_zero, List.getElem?_cons_succ, List.getElem?_nil, List.set_cons_zero, List.set_cons_succ, Option.some.injEq, V.int.injEq, V.str.injEq, V.ref.injEq, V.bl.injEq, V.ty.injEq, List.cons.injEq, and_true, true_and, exists_eq_left', exists_eq_left, exists_and_left, exists_eq, exists_eq', and_assoc, Option.join_some, Option.join_none, scal_int, scal_str, scal_bl, cxOf_K, cxC_K, blk_K, decide_eq_true_eq])
abbrev s_placed : Stmt := top 6
theorem sc_placed : FnScope ["statement", "word", "other", "of_simple", "of_pair"] ["statement", "word", "other"] (defScope s_placed) := ⟨rfl, rfl, rfl, by decide +kernel, rfl, by decide +kernel, by decide +kernel⟩
abbrev s_placed_of_simple : Stmt := inDef s_placed 0
theorem sc_placed_of_simple : FnScopeC ["piece", "other", "word"] ["piece"] ["other", "word"] (defScope s_placed_of_simple) := ⟨rfl, rfl, rfl, by decide +kernel, rfl, by decide +kernel, by decide +kernel, by decide +kernel⟩
abbrev q_placed_of_simple : Str := ("placed" : Str) ++ Str.ofString ".<locals>." ++ "of_simple"
theorem cl_placed_of_simple : ∀ y ∈ (defScope s_placed_of_simple).names, y.2 = NameKind.free → (defScope s_placed).names.lookup y.1 = some NameKind.cell := by decide +kernel
abbrev s_placed_of_pair : Stmt := inDef s_placed 1
theorem sc_placed_of_pair : FnScopeC ["kind", "first", "second"] ["kind", "first", "second"] [] (defScope s_placed_of_pair) := ⟨rfl, rfl, rfl, by decide +kernel, rfl, by decide +kernel, by decide +kernel, by decide +kernel⟩
abbrev q_placed_of_pair : Str := ("placed" : Str) ++ Str.ofString ".<locals>." ++ "of_pair"
theorem cl_placed_of_pair : ∀ y ∈ (defScope s_placed_of_pair).names, y.2 = NameKind.free → (defScope s_placed).names.lookup y.1 = some NameKind.cell := by decide +kernel
def ds_placed : List (Pos × Str) := [(posOf s_placed_of_simple, q_placed_of_simple), (posOf s_placed_of_pair, q_placed_of_pair)]
section
variable {P : Program} {w : World} {K : PySem.W.Frag} {mg : Str → Option Value} {base : Heap}
theorem ok_placed_of_simple {k : Nat} {cl : List (Str × Addr)} {f : Addr} {fd : FuncData} (F : FunC K "of_simple" q_placed_of_simple s_placed_of_simple cl f fd) {ov : V} {x : Str} {o : Tm} (C : Caught K (defScope s_placed_of_simple) cl ["other", "word"] [ov, .str x]) (hx : Word x) :
    FnOk P w K mg base CX0 (k + 1) f fd ["piece"] (sp_of1H K (fun H => IsT K H ov o) fun H t v => IsT K H v (t.sub x o)) := by
  refine F.ok sc_placed_of_simple C (fun vs H Q E h => ?_) (fun cdv A outer s H vs Q E hr h => ?_)
  · obtain ⟨v, t, rfl, _⟩ := h
    rfl
  obtain ⟨v, t, rfl, hj, hT, hk, hok, q⟩ := h
  refine ⟨_, (pss_one (ps_ret (pe_ifExp (pt_cmpR (op_eqD (hu_150 hr)) (pv 0) (pe_tup (pa_cons pe_str (pa_cons (pv 2) pa_nil))) (nomark _)) (pv 1) (pv 0)))), ?_⟩
  walk_at "rd"
  refine ⟨by decide, fun p hp => ?_⟩
  have s1 : Same H (upd H p (.tup [.str "letter", .str x])) := same_new hp _
  have hl : IsT K (upd H p (.tup [.str "letter", .str x])) (.ref p) (.ltr x) := isT_ltr.mpr ⟨p, rfl, .inl (.inl upd_same)⟩
  refine ⟨t.data, hT.keep s1.keepT, (Tm.ltr x).data, hl, t.lay hok, (Tm.ltr x).lay hx, by rw [Tm.depth, Tm.depth]; show min _ 1 ≤ 150; omega, ?_⟩
  cases t with
  | low =>
    rw [if_neg Bool.false_ne_true, Tm.eqv, if_neg (by simp)]
    exact q _ _ s1 (hT.keep s1.keepT)
  | ltr y =>
    by_cases e : y = x
    · subst e
      rw [if_neg Bool.false_ne_true, Tm.eqv, if_pos (by simp)]
      refine q _ _ s1 ?_
      show IsT K _ ov (if y = y then o else .ltr y)
      rw [if_pos rfl]
      exact hj.keep s1.keepT
    · rw [if_neg Bool.false_ne_true, Tm.eqv, if_neg (by simpa using e)]
      refine q _ _ s1 ?_
      show IsT K _ v (if y = x then o else .ltr y)
      rw [if_neg e]
      exact hT.keep s1.keepT
  | nd kd a b => cases hk
theorem ok_placed_of_pair {k B : Nat} {cl : List (Str × Addr)} {f : Addr} {fd : FuncData} (F : FunC K "of_pair" q_placed_of_pair s_placed_of_pair cl f fd) {J : Hp → Prop} {x : Str} {o : Tm} (C : Caught K (defScope s_placed_of_pair) cl [] []) :
    FnOk P w K mg base CX0 (k + 1) f fd ["kind", "first", "second"] (sp_of2H J (fun H t v => IsT K H v (t.sub x o)) B) := by
  refine F.ok sc_placed_of_pair C (fun vs H Q E h => ?_) (fun cdv A outer s H vs Q E hr h => ?_)
  · obtain ⟨_, _, _, _, _, rfl, _⟩ := h
    rfl
  obtain ⟨kd, a, b, va, vb, rfl, hj, ha, hb, hB, q⟩ := h
  refine ⟨_, (pss_one (ps_ret (pe_tup (pa_cons (pv 0) (pa_cons (pv 1) (pa_cons (pv 2) pa_nil)))))), ?_⟩
  walk_at "rd"
  refine ⟨by decide, fun p hp => ?_⟩
  have s1 := same_new hp (HO.tup [.str kd.str, va, vb])
  exact q _ _ s1 (isT_nd.mpr ⟨p, va, vb, rfl, .inl (.inl upd_same), ha.keep s1.keepT, hb.keep s1.keepT⟩)
end
end KLaw


set_option Elab.async false
set_option linter.all false
set_option maxRecDepth 100000
set_option maxHeartbeats 4000000
namespace KLaw
open PySem L2 Ken
local macro_rules | `(tactic| walk_at "rd") => `(tactic| simp only [tIf, rInT, iRev, tCallL, tComp, kNest, kTest, kApp, kPut, tSeq, tAsg, gName, tVar, tC, tOp, rI0, rI, rU, tUn, tRet, tRetN, tIfS, tTest, tB, tNext, tCons, tNil, tCB, tCall, tTup, tLst, tDrop, tAug, ipI, tAnd, tOr, tNot, tAndV, tOrV, tNotV, tBM, tBM0, rAppend, rExtend, rPop, rIxL, rIxT, rIxS, rCat, rEq, rNe, rMulS, tSl, rSlL, rSlS, tPart, tNoPart, tRev, rJoin, tDGet, tDisp, tPairs, tFs, tFv, tFc, tF0, tKD, rIsi, rEqD, tNever, tChain, rIn, rSetL, gSub, iEnum, iStr, tKNotIn, tDIn, tDNotIn, sDPut, gTup, gCons, gNil, iRng1, iRng2, iList, iTup, iZip, rRevd, L2.start, capt,
  List.map_cons, List.map_nil, List.length_cons, List.length_nil, List.cons_append, List.nil_append, List.append_nil, List.replicate_succ, List.replicate_zero, Nat.reduceAdd, Nat.reduceSub, Nat.zero_add, Nat.add_zero, Nat.sub_zero, Nat.sub_self, List.getElem?_cons_zero, List.getElem?_cons_succ, List.getElem?_nil, List.set_cons_zero, List.set_cons_succ, Option.some.injEq, V.int.injEq, V.str.injEq, V.ref.injEq, V.bl.injEq, V.ty.injEq, List.cons.injEq, and_true, true_and, exists_eq_left', exists_eq_left, exists_and_left, exists_eq, exists_eq', and_assoc, Option.join_some, Option.join_none, scal_int, scal_str, scal_bl, cxOf_K, cxC_K, blk_K, decide_eq_true_eq])
local macro_rules | `(tactic| walk_at "ri") => `(tactic| simp only [tIf, rInT, iRev, tCallL, tComp, kNest, kTest, kApp, kPut, tFor, tLC, tVar, tC, tOp, rI0, rI, rU, tUn, tTest, tB, tCons, tNil, tCB, tCall, tTup, tLst, ipI, tAnd, tOr, tNot, tAndV, tOrV, tNotV, tBM, tBM0, rAppend, rExtend, rPop, rIxL, rIxT, rIxS, rCat, rEq, rNe, rMulS, tSl, rSlL, rSlS, tPart, tNoPart, tRev, rJoin, tDGet, tDisp, tPairs, tFs, tFv, tFc, tF0, tKD, rIsi, rEqD, tNever, tChain, rIn, rSetL, iEnum, iStr, tKNotIn, tDIn, tDNotIn, iRng1, iRng2, iList, iTup, iZip, rRevd, L2.start, capt,
  List.map_cons, List.map_nil, List.length_cons, List.length_nil, List.cons_append, List.nil_append, List.append_nil, List.replicate_succ, List.replicate_zero, Nat.reduceAdd, Nat.reduceSub, Nat.zero_add, Nat.add_zero, Nat.sub_zero, Nat.sub_self, List.getElem?_cons_zero, List.getElem?_cons_succ, List.getElem?_nil, List.set_cons_zero, List.set_cons_succ, Option.some.injEq, V.int.injEq, V.str.injEq, V.ref.injEq, V.bl.injEq, V.ty.injEq, List.cons.injEq, and_true, true_and, exists_eq_left', exists_eq_left, exists_and_left, exists_eq, exists_eq', and_assoc, Option.join_some, Option.join_none, scal_int, scal_str, scal_bl, cxOf_K, cxC_K, blk_K, decide_eq_true_eq])
section
variable {P : Program} {w : World} {K : PySem.W.Frag} {mg : Str → Option Value} {base : Heap}
theorem ok_placed {j : Nat} {T : Addr} {f_placed : Addr} {fd_placed : FuncData} (F_placed : FunT K "placed" "placed" s_placed f_placed fd_placed T) (hB : ∀ h, K.In h → h.BuiltinsAt mg T) (hT : mainGlobals ≠ T)
    {f_folded : Addr} {fd_folded : FuncData} (m_folded : mg "folded" = some (.ref f_folded)) (k_folded : PySem.W.keepIn K (.ref f_folded) = true) (b_folded : Binds K fd_folded ["statement", "of_simple", "of_pair"] [])
    (GF : ∀ (K' : PySem.W.Frag) (base : Heap) (J : Hp → Prop) (R : RH) (B : Nat) (f1 f2 : Addr) (fd1 fd2 : FuncData), KLe K K' → (∀ H H', KeepT K' H H' → J H → J H') → (∀ H H' t v, KeepT K' H H' → R H t v → R H' t v) →
      FnOk P w K' mg base CX0 (j + 1) f1 fd1 ["piece"] (sp_of1H K' J R) → PySem.W.keepIn K' (.ref f1) = true → Binds K' fd1 ["piece"] [] →
      FnOk P w K' mg base CX0 (j + 1) f2 fd2 ["kind", "first", "second"] (sp_of2H J R B) → PySem.W.keepIn K' (.ref f2) = true → Binds K' fd2 ["kind", "first", "second"] [] →
      FnOk P w K' mg base CX0 (j + 2) f_folded fd_folded ["statement", "of_simple", "of_pair"] (sp_foldedH K' J R B f1 f2)) :
    FnOk P w K mg base CX0 (j + 3) f_placed fd_placed ["statement", "word", "other"] (sp_placed K T ds_placed) := by
  refine F_placed.ok sc_placed (fun vs H Q E h => ?_) (fun c A outer s H vs Q E hC hr h => ?_)
  · obtain ⟨v, t, x, ov, o, rfl, _⟩ := h
    rfl
  obtain ⟨v, t, x, ov, o, rfl, hT1, hO, hok, hx, hp, tab, q⟩ := h
  have hix : ∀ i ∈ ([1, 2] : List Nat), ∃ x, (["statement", "word", "other", "of_simple", "of_pair"] : List Str)[i]? = some x ∧ (defScope s_placed).names.lookup x = some .cell ∧ (fun _ : Str => true) x = true := by
    intro i hi
    simp only [List.mem_cons, List.not_mem_nil, or_false] at hi
    rcases hi with rfl | rfl
    · exact ⟨"word", rfl, rfl, rfl⟩
    · exact ⟨"other", rfl, rfl, rfl⟩
  refine ⟨_, (pss_cons (ps_defS (st := s_placed_of_simple) (i := 3) (qual := q_placed_of_simple) (ds := ds_placed) rfl sc_placed.nd rfl (Or.inl rfl) (closureFor_eq (fun y hy hf => cell_has (cl_placed_of_simple y hy hf))) rfl hC hB hT rfl (by simp [ds_placed]) (by decide +kernel) rfl rfl rfl)
  (pss_cons (ps_defS (st := s_placed_of_pair) (i := 4) (qual := q_placed_of_pair) (ds := ds_placed) rfl sc_placed.nd rfl (Or.inl rfl) (closureFor_eq (fun y hy hf => cell_has (cl_placed_of_pair y hy hf))) rfl hC hB hT rfl (by simp [ds_placed]) (by decide +kernel) rfl rfl rfl)
  (pss_one (ps_ret (pe_callG (ix := [1, 2]) hr (by exact rfl) m_folded k_folded b_folded hix (pa_cons (pv 0) (pa_cons (pv 3) (pa_cons (pv 4) pa_nil)))))))), ?_⟩
  generalize hX : (cxOf CX0 P w K mg base ["statement", "word", "other", "of_simple", "of_pair"] "placed" (defScope s_placed) f_placed (.ref c) A outer s H E).nox = X
  have eP : X.prog = P := by rw [← hX]; rfl
  have ew : X.w = w := by rw [← hX]; rfl
  have eK : X.K = K := by rw [← hX]; rfl
  have em : X.mg = mg := by rw [← hX]; rfl
  have eN : X.N = (["statement", "word", "other", "of_simple", "of_pair"] : List Str) := by rw [← hX]; rfl
  have ec : (PyProof.Rows.envOfC "placed" (defScope s_placed) s.heap.objs.size f_placed (.ref c)).cells = X.env.cells := by rw [← hX]; rfl
  refine seq_then (fun σ' H' => ∃ f1, σ' = [some v, some (.str x), some ov, some (.ref f1), none] ∧ SameT H H' ∧ TabOk H' T ds_placed ∧ FnFz H' f1 "of_simple" q_placed_of_simple (defArgs s_placed_of_simple) (defBody s_placed_of_simple) (defScope s_placed_of_simple) (closL X.env.cells (defScope s_placed_of_simple).names [])) ?_ ?_
  rotate_left
  · intro C hC'
    exact ⟨tab, fun f H' n sm tb fn => hC' _ _ ⟨f, rfl, sm, tb, ec ▸ fn⟩⟩
  rintro σ1 H1 ⟨f1, rfl, s1, tb1, fn1⟩
  refine seq_then (fun σ' H' => ∃ f2, σ' = [some v, some (.str x), some ov, some (.ref f1), some (.ref f2)] ∧ SameT H1 H' ∧ TabOk H' T ds_placed ∧ FnFz H' f2 "of_pair" q_placed_of_pair (defArgs s_placed_of_pair) (defBody s_placed_of_pair) (defScope s_placed_of_pair) (closL X.env.cells (defScope s_placed_of_pair).names [])) ?_ ?_
  rotate_left
  · intro C hC'
    exact ⟨tb1, fun f H' n sm tb fn => hC' _ _ ⟨f, rfl, sm, tb, ec ▸ fn⟩⟩
  rintro σ2 H2 ⟨f2, rfl, s2, tb2, fn2⟩
  have fn1 := fn1.keep s2
  have s3 := s1.trans s2
  obtain ⟨o1, c1, p1, a1, a2, a3, a4, a5⟩ := fn1.objs
  obtain ⟨o2, c2, p2, b1, b2, b3, b4, b5⟩ := fn2.objs
  show tCallG X _ _ _ _ [1, 2] _ _ _ _
  unfold tCallG
  walk_at "rd"
  refine ⟨fun i hi => ?_, [(f1, o1), (c1, p1), (f2, o2), (c2, p2)], ?_, fun K' cs ok kle kback hlk hcs => ?_⟩
  · simp only [List.mem_cons, List.not_mem_nil, or_false] at hi
    rcases hi with rfl | rfl
    · exact ⟨_, rfl⟩
    · exact ⟨_, rfl⟩
  · intro p hp
    simp only [List.mem_cons, List.not_mem_nil, or_false] at hp
    rcases hp with rfl | rfl | rfl | rfl
    · exact a1
    · exact a2
    · exact b1
    · exact b2
  have hfz : ∀ p ∈ [(f1, o1), (c1, p1), (f2, o2), (c2, p2)], H2 p.1 = some (FZ p.2) := by
    intro p hp
    simp only [List.mem_cons, List.not_mem_nil, or_false] at hp
    rcases hp with rfl | rfl | rfl | rfl
    · exact a1
    · exact a2
    · exact b1
    · exact b2
  generalize hxs : [(f1, o1), (c1, p1), (f2, o2), (c2, p2)] = xs at hlk hfz kback ⊢
  have mem1 : (f1, o1) ∈ xs ∧ (c1, p1) ∈ xs ∧ (f2, o2) ∈ xs ∧ (c2, p2) ∈ xs := by rw [← hxs]; simp
  have lk : ∀ {p : Addr × Obj}, p ∈ xs → K'.lookup p.1 = some p.2 := fun hp => hlk _ (List.mem_append_left _ hp)
  obtain ⟨fd1, G1⟩ := a5 K' (lk mem1.1) (lk mem1.2.1)
  obtain ⟨fd2, G2⟩ := b5 K' (lk mem1.2.2.1) (lk mem1.2.2.2)
  -- the cells
  rw [eK] at kle kback
  have cw : CellIn X K' "word" (.str x) ∧ CellIn X K' "other" ov ∧ ∀ p ∈ cs, ∀ its n, p.2.data ≠ .seq its n := by
    cases hcs with
    | cons h1 r1 =>
      cases r1 with
      | cons h2 r2 =>
        cases r2
        obtain ⟨x1, v1, u1, e1, e2, e3, e4, e5⟩ := h1
        obtain ⟨x2, v2, u2, g1, g2, g3, g4, g5⟩ := h2
        rw [eN] at e1 g1
        cases e1; cases e2; cases g1; cases g2
        refine ⟨⟨_, _, u1, e3, hlk _ (List.mem_append_right _ (by simp)), e4, e5⟩, ⟨_, _, u2, g3, hlk _ (List.mem_append_right _ (by simp)), g4, g5⟩, fun p hp its n z => ?_⟩
        simp only [List.mem_cons, List.not_mem_nil, or_false] at hp
        rcases hp with rfl | rfl
        · rw [e4] at z; cases z
        · rw [g4] at z; cases z
  have C1 : Caught K' (defScope s_placed_of_simple) (closL X.env.cells (defScope s_placed_of_simple).names []) ["other", "word"] [ov, .str x] :=
    caught_of ok rfl (by decide +kernel) (by decide +kernel) fun i y u e1 e2 => by
      match i, e1, e2 with
      | 0, e1, e2 => cases e1; cases e2; exact cw.2.1
      | 1, e1, e2 => cases e1; cases e2; exact cw.1
  have C2 : Caught K' (defScope s_placed_of_pair) (closL X.env.cells (defScope s_placed_of_pair).names []) [] [] :=
    caught_of ok rfl (by decide +kernel) (by decide +kernel) fun i y u e1 e2 => by simp at e1
  have inn := sqT_in hfz kle
  refine ⟨sp_foldedH K' (fun H => IsT K' H ov o) (fun H t v => IsT K' H v (t.sub x o)) 300 f1 f2, fun base' => ?_, ?_⟩
  · rw [eP, ew, em]
    exact GF K' base' _ _ 300 f1 f2 fd1 fd2 kle (fun H H' k h => h.keep k) (fun H H' t v k h => h.keep k) (ok_placed_of_simple G1 C1 hx) G1.kp (G1.binds fun _ _ _ _ us hl => match us, hl with | [_], _ => rfl)
      (ok_placed_of_pair G2 C2) G2.kp (G2.binds fun _ _ _ _ us hl => match us, hl with | [_, _, _], _ => rfl)
  · refine ⟨v, t, rfl, Dn.moveT inn o.noList (hO.keep (SameT.keepT s3)), Dn.moveT inn t.noList (hT1.keep (SameT.keepT s3)), hok, hp, by decide, fun r H3 e3 hr3 n3 => ?_⟩
    have sb := same_back e3
    refine q _ _ (s3.trans sb.toT) (tb2.keep sb) (Dn.moveT (sqT_out kback (fun p hp => ?_) n3) (Tm.noList _) hr3)
    rcases List.mem_append.mp hp with hp | hp
    · rw [← hxs] at hp
      simp only [List.mem_cons, List.not_mem_nil, or_false] at hp
      rcases hp with rfl | rfl | rfl | rfl
      · exact a3
      · exact a4
      · exact b3
      · exact b4
    · exact cw.2.2 p hp
end
end KLaw


set_option Elab.async false
set_option linter.all false
set_option maxRecDepth 100000
set_option maxHeartbeats 4000000
namespace KLaw
open PySem L2 Ken
local macro_rules | `(tactic| walk_at "rd") => `(tactic| simp only [iRev, tCallL, tComp, kNest, kTest, kApp, kPut, tSeq, tAsg, gName, tVar, tC, tOp, rI0, rI, rU, tUn, tRet, tRetN, tIfS, tTest, tB, tNext, tCons, tNil, tCB, tCall, tTup, tLst, tDrop, tAug, ipI, tAnd, tOr, tNot, tAndV, tOrV, tNotV, tBM, tBM0, rAppend, rExtend, rPop, rIxL, rIxT, rIxS, rCat, rEq, rNe, rMulS, tSl, rSlL, rSlS, tPart, tNoPart, tRev, rJoin, tDGet, tDisp, tPairs, tFs, tFv, tFc, tF0, tKD, rIsi, rEqD, tNever, tChain, rIn, rSetL, gSub, iEnum, iStr, tKNotIn, tDIn, tDNotIn, sDPut, gTup, gCons, gNil, iRng1, iRng2, iList, iTup, iZip, rRevd, L2.start, capt,
  List.map_cons, List.map_nil, List.length_cons, List.length_nil, List.cons_append, List.nil_append, List.append_nil, List.replicate_succ, List.replicate_zero, Nat.reduceAdd, Nat.reduceSub, Nat.zero_add, Nat.add_zero, Nat.sub_zero, Nat.sub_self, List.getElem?_cons_zero, List.getElem?_cons_succ, List.getElem?_nil, List.set_cons_zero, List.set_cons_succ, Option.some.injEq, V.int.injEq, V.str.injEq, V.ref.injEq, V.bl.injEq, V.ty.injEq, List.cons.injEq, and_true, true_and, exists_eq_left', exists_eq_left, exists_and_left, exists_eq, exists_eq', and_assoc, Option.join_some, Option.join_none, scal_int, scal_str, scal_bl, cxOf_K, blk_K, decide_eq_true_eq])
local macro_rules | `(tactic| walk_at "ri") => `(tactic| simp only [iRev, tCallL, tComp, kNest, kTest, kApp, kPut, tFor, tLC, tVar, tC, tOp, rI0, rI, rU, tUn, tTest, tB, tCons, tNil, tCB, tCall, tTup, tLst, ipI, tAnd, tOr, tNot, tAndV, tOrV, tNotV, tBM, tBM0, rAppend, rExtend, rPop, rIxL, rIxT, rIxS, rCat, rEq, rNe, rMulS, tSl, rSlL, rSlS, tPart, tNoPart, tRev, rJoin, tDGet, tDisp, tPairs, tFs, tFv, tFc, tF0, tKD, rIsi, rEqD, tNever, tChain, rIn, rSetL, iEnum, iStr, tKNotIn, tDIn, tDNotIn, iRng1, iRng2, iList, iTup, iZip, rRevd, L2.start, capt,
  List.map_cons, List.map_nil, List.length_cons, List.length_nil, List.cons_append, List.nil_append, List.append_nil, List.replicate_succ, List.replicate_zero, Nat.reduceAdd, Nat.reduceSub, Nat.zero_add, Nat.add_zero, Nat.sub_zero, Nat.sub_self, List.getElem?_cons_zero, List.getElem?_cons_succ, List.getElem?_nil, List.set_cons_zero, List.set_cons_succ, Option.some.injEq, V.int.injEq, V.str.injEq, V.ref.injEq, V.bl.injEq, V.ty.injEq, List.cons.injEq, and_true, true_and, exists_eq_left', exists_eq_left, exists_and_left, exists_eq, exists_eq', and_assoc, Option.join_some, Option.join_none, scal_int, scal_str, scal_bl, cxOf_K, blk_K, decide_eq_true_eq])
def Ltrs (z : Str) (n : Nat) : Prop := z.cps.toList.length = n ∧ ∀ c ∈ z.cps.toList, 97 ≤ c ∧ c ≤ 122
theorem small_ok : ∀ c ∈ ("abcdefghijklmnopqrstuvwxyz" : Str).cps.toList, 97 ≤ c ∧ c ≤ 122 := by decide +kernel
theorem small_len : ("abcdefghijklmnopqrstuvwxyz" : Str).cps.toList.length = 26 := by decide +kernel
theorem slice_to (x : Str) (a : Nat) (ha : a ≤ x.length) : (Txt.slice x none (some (a : Int))).cps.toList = x.cps.toList.take a := by
  have := slice_cps x 0 a (Nat.zero_le _) ha
  have e : Txt.slice x none (some (a : Int)) = Txt.slice x (some ((0 : Nat) : Int)) (some (a : Int)) := by
    unfold Txt.slice Builtin.Str.strSliceIndices
    have h0 : max (0 : Int) (min 0 (x.length : Int)) = 0 := by omega
    simp [h0]
  rw [e, this]
  simp
theorem slice_from (x : Str) (a : Nat) (ha : a ≤ x.length) : (Txt.slice x (some (a : Int)) none).cps.toList = x.cps.toList.drop a := by
  have := slice_cps x a x.length ha (Nat.le_refl _)
  have e : Txt.slice x (some (a : Int)) none = Txt.slice x (some (a : Int)) (some (x.length : Int)) := by
    unfold Txt.slice Builtin.Str.strSliceIndices
    have h1 : max (0 : Int) (min (if (x.length : Int) < 0 then (x.length : Int) + x.length else x.length) x.length) = x.length := by split <;> omega
    simp [h1]
  rw [e, this]
  rw [List.take_of_length_le]
  rw [List.length_drop, ← len_cps]; omega
theorem word_put {z : Str} {n a d : Nat} (h : Ltrs z n) (hn : n ≤ 8) (ha : a < n) (h1 : 97 ≤ d) (h2 : d ≤ 122) : Word (Txt.slice z none (some (a : Int)) ++ (⟨#[d]⟩ : Str) ++ Txt.slice z (some ((a : Int) + 1)) none) := by
  have hl : z.length = n := by rw [len_cps]; exact h.1
  have e2 : ((a : Int) + 1) = ((a + 1 : Nat) : Int) := by omega
  unfold Word
  rw [cps_append, cps_append, e2, slice_to z a (by omega), slice_from z (a + 1) (by omega)]
  have hz := h.1
  refine ⟨?_, ?_, fun c hc => ?_⟩
  · simp only [List.length_append, List.length_take, List.length_drop, List.length_cons, List.length_nil]; omega
  · simp only [List.length_append, List.length_take, List.length_drop, List.length_cons, List.length_nil]; omega
  · simp only [List.mem_append, List.mem_cons, List.not_mem_nil, or_false] at hc
    rcases hc with (hc | rfl) | hc
    · exact h.2 c (List.mem_of_mem_take hc)
    · exact ⟨h1, h2⟩
    · exact h.2 c (List.mem_of_mem_drop hc)
theorem ltrs_join {ds : List Nat} (h : ∀ d ∈ ds, 97 ≤ d ∧ d ≤ 122) : Ltrs (Txt.join "" (ds.map fun d => (⟨#[d]⟩ : Str))) ds.length := by
  have e : (Txt.join "" (ds.map fun d => (⟨#[d]⟩ : Str))).cps.toList = ds := by
    rw [show ("" : Str) = Str.empty from rfl, join_cps, List.map_map]
    clear h
    induction ds with
    | nil => rfl
    | cons d ds ih => rw [List.map_cons, List.flatten_cons, ih]; rfl
  unfold Ltrs
  rw [e]
  exact ⟨rfl, h⟩
theorem sum_ones (ds : List Nat) : ((ds.map fun d => (⟨#[d]⟩ : Str)).map (·.length)).sum = ds.length := by
  rw [List.map_map]
  induction ds with
  | nil => rfl
  | cons d ds ih => rw [List.map_cons, List.sum_cons, ih, List.length_cons]; show 1 + _ = _; omega
def sp_words21 : Sp := fun vs H Q _ => ∃ c : Int, vs = [.int c] ∧ 0 ≤ c ∧ ∀ (r : Addr) (H' : Hp) (ws : List Str), Same H H' → H r = none → H' r = some (.lst (ws.map V.str)) → Words ws → Q (.ref r) H'
section
variable {P : Program} {w : World} {K : PySem.W.Frag} {mg : Str → Option Value} {base : Heap}
theorem ok__law_words {k : Nat} {f__law_words : Addr} {fd__law_words : FuncData} (F__law_words : Fun K "_law_words" "_law_words" s__law_words f__law_words fd__law_words) {f__law_mix : Addr} {fd__law_mix : FuncData} (G__law_mix : FnOk P w K mg base CX0 k f__law_mix fd__law_mix ["_law_cell_here", "_law_k"] (sp_mix)) (m__law_mix : mg "_law_mix" = some (.ref f__law_mix)) (k__law_mix : PySem.W.keepIn K (.ref f__law_mix) = true) (b__law_mix : Binds K fd__law_mix ["_law_cell_here", "_law_k"] []) (m_range : mg "range" = none) : FnOk P w K mg base CX0 (k + 1) f__law_words fd__law_words ["_law_cell_here"] sp_words21 := by
  refine F__law_words.ok sc__law_words (fun vs H Q E h => ?_) (fun cdv A outer s H vs Q E hr h => ?_)
  · obtain ⟨c, rfl, _⟩ := h
    rfl
  obtain ⟨c, rfl, hc0, q⟩ := h
  refine ⟨_, (pss_cons (ps_set (i := 1) sc__law_words.nd rfl (Or.inr rfl) pe_str)
  (pss_cons (ps_set (i := 2) sc__law_words.nd rfl (Or.inl rfl) (pe_op op_add pe_int (pe_op op_mod (pv 0) pe_int)))
  (pss_cons (ps_set (i := 3) sc__law_words.nd rfl (Or.inl rfl) (pe_op op_mod (pe_op op_fdiv (pv 0) pe_int) (pv 2)))
  (pss_cons (ps_set (i := 4) sc__law_words.nd rfl (Or.inl rfl) (pe_op op_mulS pe_str (pv 2)))
  (pss_cons (ps_if (pt_cmpR (op_eq) (pe_op op_mod (pe_op op_fdiv (pv 0) pe_int) pe_int) pe_int (nomark _))
    (pss_cons (ps_setLC (i := 5) sc__law_words.nd rfl (Or.inl rfl) (blkC (N' := ["_law_k", "_law_small", "_law_cell_here"]) (nt := 1) (ci := [1, 0]) ["_law_cell_here", "_law_small", "_law_size", "_law_at", "_law_stem", "_law_signs", "_law_first", "_law_found", "_law_k", "_law_sign"] (defScope s__law_words) rfl rfl (by decide +kernel) rfl (by decide +kernel) (by decide +kernel) rfl (by decide +kernel)) rfl (pi_range1 rfl m_range (pa_cons (pv 2) pa_nil)) (fun _ _ _ _ => (pg_name (i := 0) (show (["_law_k", "_law_small", "_law_cell_here"] : List Str).Nodup from by decide +kernel) rfl (Or.inl rfl))) (fun _ _ _ _ => (pe_ix ix_str (pv 1) (pe_op op_mod (pe_call G__law_mix hr (by exact rfl) m__law_mix k__law_mix b__law_mix .nil pass0 (pa_cons (pv 2) (pa_cons (pe_op op_add pe_int (pv 0)) pa_nil))) pe_int) (fun _ _ => rfl))) rfl)
  (pss_one (ps_set (i := 4) sc__law_words.nd rfl (Or.inl rfl) (pe_bm PySem.F.plainAttrs_str PySem.F.slot_str_join PySem.F.type_str_join mt_join pe_str (pa_cons (pv 5) pa_nil)))))
    pss_nil)
  (pss_cons (ps_set (i := 6) sc__law_words.nd rfl (Or.inl rfl) (pe_op op_mod (pe_op op_fdiv (pv 0) pe_int) pe_int))
  (pss_cons (ps_set (i := 7) sc__law_words.nd rfl (Or.inl rfl) (pe_lst pa_nil))
  (pss_cons (ps_for PassesOwn.never rfl (pi_range1 rfl m_range (pa_cons (pe_op op_add pe_int (pe_op op_mod (pe_op op_fdiv (pv 0) pe_int) pe_int)) pa_nil)) (pg_name (i := 8) sc__law_words.nd rfl (Or.inl rfl))
    (pss_cons (ps_set (i := 9) sc__law_words.nd rfl (Or.inl rfl) (pe_ix ix_str (pv 1) (pe_op op_mod (pe_op op_add (pv 6) (pe_op op_mul pe_int (pv 8))) pe_int) (fun _ _ => rfl)))
  (pss_one (ps_expr (pe_bm PySem.F.plainAttrs_list PySem.F.slot_list_append PySem.F.type_list_append mt_append (pv 7) (pa_cons (pe_op op_add_str (pe_op op_add_str (pe_slice sl_str (pv 4) po_none (po_some (pv 3))) (pv 9)) (pe_slice sl_str (pv 4) (po_some (pe_op op_add (pv 3) pe_int)) po_none)) pa_nil))))))
  (pss_one (ps_ret (pv 7))))))))))), ?_⟩
  have s0 := Int.emod_nonneg c (show (8 : Int) ≠ 0 by decide)
  have s1 := Int.emod_lt_of_pos c (show (0 : Int) < 8 by decide)
  have a0 := Int.emod_nonneg (c / 8) (show 1 + c % 8 ≠ 0 by omega)
  have a1 := Int.emod_lt_of_pos (c / 8) (show 0 < 1 + c % 8 by omega)
  refine seq_then (fun σ' H' => σ' = [some (.int c), some (.str "abcdefghijklmnopqrstuvwxyz"), none, none, none, none, none, none, none, none] ∧ H' = H) ?_ ?_
  rotate_left
  · intro C hC
    walk_at "rd"
    exact hC _ _ ⟨rfl, rfl⟩
  rintro σ1 H1 ⟨rfl, rfl⟩
  refine seq_then (fun σ' H' => σ' = [some (.int c), some (.str "abcdefghijklmnopqrstuvwxyz"), some (.int (1 + c % 8)), none, none, none, none, none, none, none] ∧ H' = H1) ?_ ?_
  rotate_left
  · intro C hC
    walk_at "rd"
    exact ⟨by decide, hC _ _ ⟨rfl, rfl⟩⟩
  rintro σ2 H2 ⟨rfl, rfl⟩
  refine seq_then (fun σ' H' => σ' = [some (.int c), some (.str "abcdefghijklmnopqrstuvwxyz"), some (.int (1 + c % 8)), some (.int (c / 8 % (1 + c % 8))), none, none, none, none, none, none] ∧ H' = H2) ?_ ?_
  rotate_left
  · intro C hC
    walk_at "rd"
    exact ⟨⟨by decide, by decide⟩, by omega, hC _ _ ⟨rfl, rfl⟩⟩
  generalize ea : c / 8 % (1 + c % 8) = at' at a0 a1
  generalize es : 1 + c % 8 = size at a1
  obtain ⟨an, rfl⟩ := Int.eq_ofNat_of_zero_le a0
  have z1 : 1 ≤ size := by omega
  have z8 : size ≤ 8 := by omega
  rintro σ3 H3 ⟨rfl, rfl⟩
  refine seq_then (fun σ' H' => σ' = [some (.int c), some (.str "abcdefghijklmnopqrstuvwxyz"), some (.int size), some (.int (an : Int)), some (.str (Txt.mul "k" size)), none, none, none, none, none] ∧ H' = H3) ?_ ?_
  rotate_left
  · intro C hC
    walk_at "rd"
    exact ⟨by decide, by omega, by omega, hC _ _ ⟨rfl, rfl⟩⟩
  rintro σ4 H4 ⟨rfl, rfl⟩
  have hk : Ltrs (Txt.mul "k" size) size.toNat := by
    unfold Ltrs
    rw [show ("k" : Str) = ⟨#[107]⟩ from rfl, PyProof.Rows.mul_one_list]
    exact ⟨List.length_replicate, fun d hd => by rw [List.mem_replicate] at hd; omega⟩
  refine seq_then (fun σ' H' => ∃ z x5, σ' = [some (.int c), some (.str "abcdefghijklmnopqrstuvwxyz"), some (.int size), some (.int (an : Int)), some (.str z), x5, none, none, none, none] ∧ Same H4 H' ∧ Ltrs z size.toNat) ?_ ?_
  rotate_left
  · intro C hC
    walk_at "rd"
    refine ⟨⟨by decide, by decide⟩, by decide, ite2 (fun _ => ?_) (fun _ => hC _ _ ⟨_, _, rfl, Same.refl _, hk⟩)⟩
    unfold tLC
    walk_at "rd"
    refine ⟨by omega, by omega, fun acc hacc => ?_⟩
    refine lcW_range (n := size.toNat) (lo := 0) (fun i ys H5 => H5 = upd H4 acc (.lst ys) ∧ ∃ ds : List Nat, ys = (ds.map fun d => (⟨#[d]⟩ : Str)).map V.str ∧ ds.length = i ∧ ∀ x ∈ ds, 97 ≤ x ∧ x ≤ 122) ⟨rfl, [], rfl, rfl, by simp⟩ (fun i ys H5 hi ⟨e, ds, e2, e3, _⟩ => ?_) (fun i ys H5 hi ⟨e, ds, e2, e3, e4⟩ C' hC' => ?_) (fun ys H5 ⟨e, ds, e2, e3, e4⟩ => ?_)
    · subst e; subst e2
      refine ⟨upd_same, ?_⟩
      rw [List.length_map, List.length_map, e3]; exact small1000 (by omega)
    · subst e; subst e2
      walk_at "rd"
      have m0 := Int.emod_nonneg (mix c (60 + (0 + (i : Int)))) (show (26 : Int) ≠ 0 by decide)
      have m1 := Int.emod_lt_of_pos (mix c (60 + (0 + (i : Int)))) (show (0 : Int) < 26 by decide)
      obtain ⟨d, hd, ed⟩ := at_list (xs := ("abcdefghijklmnopqrstuvwxyz" : Str).cps.toList) (i := mix c (60 + (0 + (i : Int))) % 26) m0 (by rw [small_len]; exact m1)
      refine ⟨wk_head, c, _, rfl, by omega, by omega, _, rfl, by decide, by decide, d, ed, ?_⟩
      refine hC' _ _ upd_same ⟨by rw [upd_upd], ds ++ [d], by rw [List.map_append, List.map_append]; rfl, by rw [List.length_append, e3]; rfl, fun x hx => ?_⟩
      rcases List.mem_append.mp hx with z | z
      · exact e4 x z
      · have z' : x = d := by simpa using z
        rw [z']; exact small_ok d hd
    · subst e; subst e2
      walk_at "rd"
      have hsum := sum_ones ds
      refine ⟨rfl, _, SqL.of upd_same, ?_, hC _ _ ⟨_, _, rfl, same_new hacc _, ?_⟩⟩
      · rw [hsum, List.length_map, show Str.length "" = 0 from rfl, e3]; omega
      · have := ltrs_join e4
        rw [e3] at this
        exact this
  rintro σ5 H5 ⟨z, x5, rfl, e5, hz⟩
  refine seq_then (fun σ' H' => ∃ f : Int, 0 ≤ f ∧ σ' = [some (.int c), some (.str "abcdefghijklmnopqrstuvwxyz"), some (.int size), some (.int (an : Int)), some (.str z), x5, some (.int f), none, none, none] ∧ H' = H5) ?_ ?_
  rotate_left
  · intro C hC
    walk_at "rd"
    exact ⟨⟨by decide, by decide⟩, by decide, hC _ _ ⟨_, Int.emod_nonneg _ (by decide), rfl, rfl⟩⟩
  rintro σ6 H6 ⟨f, hf, rfl, rfl⟩
  refine seq_then (fun σ' H' => ∃ l, σ' = [some (.int c), some (.str "abcdefghijklmnopqrstuvwxyz"), some (.int size), some (.int (an : Int)), some (.str z), x5, some (.int f), some (.ref l), none, none] ∧ Same H4 H' ∧ H4 l = none ∧ H' l = some (.lst [])) ?_ ?_
  rotate_left
  · intro C hC
    walk_at "rd"
    exact ⟨by decide, fun l hl => hC _ _ ⟨l, rfl, e5.trans (same_new hl _), e5.free hl, upd_same⟩⟩
  rintro σ7 H7 ⟨l, rfl, e7, f7, h7⟩
  refine seq_then (fun σ' H' => ∃ x8 x9 ws, σ' = [some (.int c), some (.str "abcdefghijklmnopqrstuvwxyz"), some (.int size), some (.int (an : Int)), some (.str z), x5, some (.int f), some (.ref l), x8, x9] ∧ Same H4 H' ∧ H' l = some (.lst (ws.map V.str)) ∧ Words ws) ?_ ?_
  rotate_left
  · intro C hC
    walk_at "ri"
    have b0 := Int.emod_nonneg (c / 4096) (show (3 : Int) ≠ 0 by decide)
    have b1 := Int.emod_lt_of_pos (c / 4096) (show (0 : Int) < 3 by decide)
    refine ⟨⟨by decide, by decide⟩, by decide, by omega, by omega, ?_⟩
    refine for_range (D := { nx := C, rt := Q }) (n := (2 + c / 4096 % 3).toNat) (lo := 0) (fun i σ' H' => ∃ x8 x9 ws, σ' = [some (.int c), some (.str "abcdefghijklmnopqrstuvwxyz"), some (.int size), some (.int (an : Int)), some (.str z), x5, some (.int f), some (.ref l), x8, x9] ∧ Same H4 H' ∧ H' l = some (.lst (ws.map V.str)) ∧ ws.length = i ∧ ∀ w ∈ ws, Word w) ⟨none, none, [], rfl, e7, h7, rfl, by simp⟩ (fun i σ' H' hi hp => ?_) (fun σ' H' hp => ?_)
    · obtain ⟨x8, x9, ws, rfl, e, h, hl, hw⟩ := hp
      walk_at "rd"
      have m0 := Int.emod_nonneg (f + 7 * (0 + (i : Int))) (show (26 : Int) ≠ 0 by decide)
      have m1 := Int.emod_lt_of_pos (f + 7 * (0 + (i : Int))) (show (0 : Int) < 26 by decide)
      obtain ⟨d, hd, ed⟩ := at_list (xs := ("abcdefghijklmnopqrstuvwxyz" : Str).cps.toList) (i := (f + 7 * (0 + (i : Int))) % 26) m0 (by rw [small_len]; exact m1)
      have zl : z.length ≤ 8 := by rw [len_cps, hz.1]; omega
      have sl := fun lo hi => Nat.le_trans (Txt.slice_le z lo hi) zl
      have l1 := sl none (some (an : Int))
      have l2 := sl (some ((an : Int) + 1)) none
      have l3 : (⟨#[d]⟩ : Str).length = 1 := rfl
      have l4 : (Txt.slice z none (some (an : Int)) ++ (⟨#[d]⟩ : Str)).length ≤ 9 := by rw [strLen_append]; omega
      refine ⟨mul_left (by decide) (by decide), by decide, by decide, d, ed, .inl ⟨rfl, _, SqL.of h⟩, Nat.le_of_lt (small1000 (by omega)), Nat.le_of_lt (small1000 (by omega)), Nat.le_of_lt (small1000 (by omega)), Nat.le_of_lt (small1000 (by omega)), _, h, small1000 (by rw [List.length_map]; omega), e.write f7, ws ++ [Txt.slice z none (some (an : Int)) ++ (⟨#[d]⟩ : Str) ++ Txt.slice z (some ((an : Int) + 1)) none], by rw [upd_same, List.map_append]; rfl, by rw [List.length_append, hl]; rfl, fun x hx => ?_⟩
      rcases List.mem_append.mp hx with y | y
      · exact hw x y
      · have y' := List.mem_singleton.mp y
        rw [y']
        have ds := small_ok d hd
        exact word_put hz (by omega) (by omega) ds.1 ds.2
    · obtain ⟨x8, x9, ws, rfl, e, h, hl, hw⟩ := hp
      exact hC _ _ ⟨x8, x9, ws, rfl, e, h, by omega, by omega, hw⟩
  rintro σ8 H8 ⟨x8, x9, ws, rfl, e8, h8, hw⟩
  walk_at "rd"
  exact q _ _ _ e8 f7 h8 hw
end
end KLaw


set_option Elab.async false
set_option linter.all false
set_option maxRecDepth 100000
set_option maxHeartbeats 4000000
namespace KLaw
open PySem L2 Ken
local macro_rules | `(tactic| walk_at "rd") => `(tactic| simp only [iRev, tCallL, tComp, kNest, kTest, kApp, kPut, tSeq, tAsg, gName, tVar, tC, tOp, rI0, rI, rU, tUn, tRet, tRetN, tIfS, tTest, tB, tNext, tCons, tNil, tCB, tCall, tTup, tLst, tDrop, tAug, ipI, tAnd, tOr, tNot, tAndV, tOrV, tNotV, tBM, tBM0, rAppend, rExtend, rPop, rIxL, rIxT, rIxS, rCat, rEq, rNe, rMulS, tSl, rSlL, rSlS, tPart, tNoPart, tRev, rJoin, tDGet, tDisp, tPairs, tFs, tFv, tFc, tF0, tKD, rIsi, rEqD, tNever, tChain, rIn, rSetL, gSub, iEnum, iStr, tKNotIn, tDIn, tDNotIn, sDPut, gTup, gCons, gNil, iRng1, iRng2, iList, iTup, iZip, rRevd, L2.start, capt,
  List.map_cons, List.map_nil, List.length_cons, List.length_nil, List.cons_append, List.nil_append, List.append_nil, List.replicate_succ, List.replicate_zero, Nat.reduceAdd, Nat.reduceSub, Nat.zero_add, Nat.add_zero, Nat.sub_zero, Nat.sub_self, List.getElem?_cons_zero, List.getElem?_cons_succ, List.getElem?_nil, List.set_cons_zero, List.set_cons_succ, Option.some.injEq, V.int.injEq, V.str.injEq, V.ref.injEq, V.bl.injEq, V.ty.injEq, List.cons.injEq, and_true, true_and, exists_eq_left', exists_eq_left, exists_and_left, exists_eq, exists_eq', and_assoc, Option.join_some, Option.join_none, scal_int, scal_str, scal_bl, cxOf_K, blk_K, decide_eq_true_eq])
local macro_rules | `(tactic| walk_at "ri") => `(tactic| simp only [iRev, tCallL, tComp, kNest, kTest, kApp, kPut, tFor, tLC, tVar, tC, tOp, rI0, rI, rU, tUn, tTest, tB, tCons, tNil, tCB, tCall, tTup, tLst, ipI, tAnd, tOr, tNot, tAndV, tOrV, tNotV, tBM, tBM0, rAppend, rExtend, rPop, rIxL, rIxT, rIxS, rCat, rEq, rNe, rMulS, tSl, rSlL, rSlS, tPart, tNoPart, tRev, rJoin, tDGet, tDisp, tPairs, tFs, tFv, tFc, tF0, tKD, rIsi, rEqD, tNever, tChain, rIn, rSetL, iEnum, iStr, tKNotIn, tDIn, tDNotIn, iRng1, iRng2, iList, iTup, iZip, rRevd, L2.start, capt,
  List.map_cons, List.map_nil, List.length_cons, List.length_nil, List.cons_append, List.nil_append, List.append_nil, List.replicate_succ, List.replicate_zero, Nat.reduceAdd, Nat.reduceSub, Nat.zero_add, Nat.add_zero, Nat.sub_zero, Nat.sub_self, List.getElem?_cons_zero, List.getElem?_cons_succ, List.getElem?_nil, List.set_cons_zero, List.set_cons_succ, Option.some.injEq, V.int.injEq, V.str.injEq, V.ref.injEq, V.bl.injEq, V.ty.injEq, List.cons.injEq, and_true, true_and, exists_eq_left', exists_eq_left, exists_and_left, exists_eq, exists_eq', and_assoc, Option.join_some, Option.join_none, scal_int, scal_str, scal_bl, cxOf_K, blk_K, decide_eq_true_eq])
abbrev s__law_statement : Stmt := top 11
theorem sc__law_statement : FnScope ["_law_cell_here", "_law_many", "_law_words_here", "_law_form", "_law_first", "_law_one"] ["_law_cell_here", "_law_many", "_law_words_here"] (defScope s__law_statement) := ⟨rfl, rfl, rfl, by decide +kernel, rfl, by decide +kernel, by decide +kernel⟩
def sp_stm21 (K : PySem.W.Frag) (n : Nat) : Sp := fun vs H Q _ => ∃ (c many : Int) (wa : Addr) (ws : List Str), vs = [.int c, .int many, .ref wa] ∧ 0 ≤ c ∧ 1 ≤ many ∧ many ≤ 61 ∧ (many.toNat + 1) / 2 ≤ n ∧ SqL K H wa (ws.map V.str) ∧ Words ws ∧
  ∀ (r : V) (H' : Hp) (t : Tm), Same H H' → Made K H' ws many.toNat ((many.toNat + 1) / 2) r t → Q r H'
theorem at_form5 {c : Int} (h0 : 0 ≤ c) (h1 : c < 5) : (∃ kd : Kd, atI [V.str "both", V.str "one", V.str "then", V.str "then", V.str "not"] c = some (.str kd.str)) ∨ atI [V.str "both", V.str "one", V.str "then", V.str "then", V.str "not"] c = some (.str "not") := by
  have : c = 0 ∨ c = 1 ∨ c = 2 ∨ c = 3 ∨ c = 4 := by omega
  rcases this with rfl | rfl | rfl | rfl | rfl
  · exact .inl ⟨.both, rfl⟩
  · exact .inl ⟨.one, rfl⟩
  · exact .inl ⟨.thn, rfl⟩
  · exact .inl ⟨.thn, rfl⟩
  · exact .inr rfl
section
variable {P : Program} {w : World} {K : PySem.W.Frag} {mg : Str → Option Value} {base : Heap}
theorem ok__law_statement {k n : Nat} {f__law_statement : Addr} {fd__law_statement : FuncData} (F__law_statement : Fun K "_law_statement" "_law_statement" s__law_statement f__law_statement fd__law_statement) (G__law_statement : FnOk P w K mg base CX0 k f__law_statement fd__law_statement ["_law_cell_here", "_law_many", "_law_words_here"] (sp_stm21 K n)) (m__law_statement : mg "_law_statement" = some (.ref f__law_statement)) (k__law_statement : PySem.W.keepIn K (.ref f__law_statement) = true) (b__law_statement : Binds K fd__law_statement ["_law_cell_here", "_law_many", "_law_words_here"] []) {f__law_mix : Addr} {fd__law_mix : FuncData} (G__law_mix : FnOk P w K mg base CX0 k f__law_mix fd__law_mix ["_law_cell_here", "_law_k"] (sp_mix)) (m__law_mix : mg "_law_mix" = some (.ref f__law_mix)) (k__law_mix : PySem.W.keepIn K (.ref f__law_mix) = true) (b__law_mix : Binds K fd__law_mix ["_law_cell_here", "_law_k"] []) (m_len : mg "len" = none) : FnOk P w K mg base CX0 (k + 1) f__law_statement fd__law_statement ["_law_cell_here", "_law_many", "_law_words_here"] (sp_stm21 K (n + 1)) := by
  refine F__law_statement.ok sc__law_statement (fun vs H Q E h => ?_) (fun cdv A outer s H vs Q E hr h => ?_)
  · obtain ⟨c, many, wa, ws, rfl, _⟩ := h
    rfl
  obtain ⟨c, many, wa, ws, rfl, hc0, h0, h1, hn, hS, hw, q⟩ := h
  refine ⟨_, (pss_cons (ps_if (pt_cmpR (op_lt) (pv 1) pe_int (nomark _))
    (pss_cons (ps_if (pt_cmpR (op_eq) (pe_op op_mod (pv 0) pe_int) pe_int (nomark _))
    (pss_one (ps_ret (pe_tup (pa_cons pe_str pa_nil))))
    pss_nil)
  (pss_one (ps_ret (pe_tup (pa_cons pe_str (pa_cons (pe_ix ix_list (pv 2) (pe_op op_mod (pe_op op_fdiv (pv 0) pe_int) (pe_callB call_len_seq (by exact rfl) m_len Ken.boot_len (pa_cons (pv 2) pa_nil))) (fun _ _ => rfl)) pa_nil))))))
    pss_nil)
  (pss_cons (ps_set (i := 3) sc__law_statement.nd rfl (Or.inl rfl) (pe_ix ix_list (pe_lst (pa_cons pe_str (pa_cons pe_str (pa_cons pe_str (pa_cons pe_str (pa_cons pe_str pa_nil)))))) (pe_op op_mod (pv 0) pe_int) (fun _ _ => rfl)))
  (pss_cons (ps_if (pt_cmpR (op_eq) (pv 3) pe_str (nomark _))
    (pss_one (ps_ret (pe_tup (pa_cons pe_str (pa_cons (pe_call G__law_statement hr (by exact rfl) m__law_statement k__law_statement b__law_statement .nil pass0 (pa_cons (pe_call G__law_mix hr (by exact rfl) m__law_mix k__law_mix b__law_mix .nil pass0 (pa_cons (pv 0) (pa_cons pe_int pa_nil))) (pa_cons (pe_op op_sub (pv 1) pe_int) (pa_cons (pv 2) pa_nil)))) (pa_cons (pe_tup (pa_cons pe_str pa_nil)) pa_nil))))))
    pss_nil)
  (pss_cons (ps_set (i := 4) sc__law_statement.nd rfl (Or.inl rfl) (pe_op op_add pe_int (pe_op op_mul (pe_op op_mod (pe_op op_fdiv (pv 0) pe_int) (pe_op op_fdiv (pe_op op_sub (pv 1) pe_int) pe_int)) pe_int)))
  (pss_cons (ps_set (i := 5) sc__law_statement.nd rfl (Or.inl rfl) (pe_call G__law_statement hr (by exact rfl) m__law_statement k__law_statement b__law_statement .nil pass0 (pa_cons (pe_call G__law_mix hr (by exact rfl) m__law_mix k__law_mix b__law_mix .nil pass0 (pa_cons (pv 0) (pa_cons pe_int pa_nil))) (pa_cons (pv 4) (pa_cons (pv 2) pa_nil)))))
  (pss_one (ps_ret (pe_tup (pa_cons (pv 3) (pa_cons (pv 5) (pa_cons (pe_call G__law_statement hr (by exact rfl) m__law_statement k__law_statement b__law_statement .nil pass0 (pa_cons (pe_call G__law_mix hr (by exact rfl) m__law_mix k__law_mix b__law_mix .nil pass0 (pa_cons (pv 0) (pa_cons pe_int pa_nil))) (pa_cons (pe_op op_sub (pe_op op_sub (pv 1) pe_int) (pv 4)) (pa_cons (pv 2) pa_nil)))) pa_nil))))))))))), ?_⟩
  have h2 := hw.1
  have hl : ((ws.map V.str).length : Int) = ws.length := by rw [List.length_map]
  walk_at "rd"
  refine ite2 (fun hm => ?_) (fun hm => ?_)
  · refine ⟨by decide, ite2 (fun _ => ?_) (fun _ => ?_)⟩
    · exact ⟨by decide, fun p hp => q _ _ _ (same_new hp _) ((made_low ws hp).mono (fun _ _ z => z) (by omega) (by omega))⟩
    · refine ⟨⟨by decide, by decide⟩, _, .inl hS, by rw [hl]; omega, _, hS, ?_⟩
      rw [hl]
      obtain ⟨v, hv, e⟩ := at_list (xs := ws.map V.str) (i := c / 6 % (ws.length : Int)) (Int.emod_nonneg _ (by omega)) (by rw [hl]; exact Int.emod_lt_of_pos _ (by omega))
      obtain ⟨x, hx, rfl⟩ := List.mem_map.mp hv
      exact ⟨_, e, by decide, fun p hp => q _ _ _ (same_new hp _) ((made_ltr hx hp).mono (fun _ _ z => z) (by omega) (by omega))⟩
  · refine ⟨by decide, fun p hp => ⟨by decide, _, SqL.of upd_same, ?_⟩⟩
    have c0 := Int.emod_nonneg c (show (5 : Int) ≠ 0 by decide)
    have c1 := Int.emod_lt_of_pos c (show (0 : Int) < 5 by decide)
    have S1 : Same H (upd H p (.lst [V.str "both", V.str "one", V.str "then", V.str "then", V.str "not"])) := same_new hp _
    generalize upd H p (.lst [V.str "both", V.str "one", V.str "then", V.str "then", V.str "not"]) = H1 at S1 ⊢
    rcases at_form5 c0 c1 with ⟨kd, ek⟩ | ek
    · refine ⟨_, ek, rfl, ?_⟩
      rw [if_neg (by cases kd <;> decide)]
      have d0 := Int.emod_nonneg (c / 5) (show (many - 1) / 2 ≠ 0 by omega)
      have d1 := Int.emod_lt_of_pos (c / 5) (show 0 < (many - 1) / 2 by omega)
      refine ⟨⟨by decide, by decide⟩, ⟨by decide, by decide⟩, by omega, mul_right (by decide) (by decide), _, _, rfl, by decide, by decide, ?_⟩
      generalize c / 5 % ((many - 1) / 2) = j at d0 d1 ⊢
      refine ⟨_, _, wa, ws, rfl, mix_nn _ _, by omega, by omega, by omega, S1.seq hS, hw, fun x H2 a e2 m2 => ?_⟩
      refine ⟨_, _, rfl, by decide, by decide, ?_⟩
      refine ⟨_, _, wa, ws, rfl, mix_nn _ _, by omega, by omega, by omega, (S1.trans e2).seq hS, hw, fun y H3 b e3 m3 => ?_⟩
      refine ⟨by decide, fun p3 hp3 => q _ _ _ (((S1.trans e2).trans e3).trans (same_new hp3 _)) ((made_nd (k := kd) (m2.mono e3.keepT (Nat.le_refl _) (Nat.le_refl _)) m3 hp3).mono (fun _ _ z => z) (by omega) (by omega))⟩
    · refine ⟨_, ek, rfl, ?_⟩
      rw [if_pos rfl]
      refine ⟨_, _, rfl, by decide, by decide, ?_⟩
      refine ⟨_, _, wa, ws, rfl, mix_nn _ _, by omega, by omega, by omega, S1.seq hS, hw, fun x H2 a e2 m2 => ?_⟩
      refine ⟨by decide, fun p2 hp2 => ⟨by decide, fun p3 hp3 => ?_⟩⟩
      exact q _ _ _ (((S1.trans e2).trans (same_new hp2 _)).trans (same_new hp3 _)) ((made_nd (k := .thn) (m2.mono (keepT_new hp2) (Nat.le_refl _) (Nat.le_refl _)) (made_low ws hp2) hp3).mono (fun _ _ z => z) (by omega) (by omega))
end
end KLaw


set_option Elab.async false
set_option linter.all false
set_option maxRecDepth 100000
set_option maxHeartbeats 4000000
namespace KLaw
open PySem L2 Ken
local macro_rules | `(tactic| walk_at "rd") => `(tactic| simp only [iRev, tCallL, tComp, kNest, kTest, kApp, kPut, tSeq, tAsg, gName, tVar, tC, tOp, rI0, rI, rU, tUn, tRet, tRetN, tIfS, tTest, tB, tNext, tCons, tNil, tCB, tCall, tTup, tLst, tDrop, tAug, ipI, tAnd, tOr, tNot, tAndV, tOrV, tNotV, tBM, tBM0, rAppend, rExtend, rPop, rIxL, rIxT, rIxS, rCat, rEq, rNe, rMulS, tSl, rSlL, rSlS, tPart, tNoPart, tRev, rJoin, tDGet, tDisp, tPairs, tFs, tFv, tFc, tF0, tKD, rIsi, rEqD, tNever, tChain, rIn, rSetL, gSub, iEnum, iStr, tKNotIn, tDIn, tDNotIn, sDPut, gTup, gCons, gNil, iRng1, iRng2, iList, iTup, iZip, rRevd, L2.start, capt,
  List.map_cons, List.map_nil, List.length_cons, List.length_nil, List.cons_append, List.nil_append, List.append_nil, List.replicate_succ, List.replicate_zero, Nat.reduceAdd, Nat.reduceSub, Nat.zero_add, Nat.add_zero, Nat.sub_zero, Nat.sub_self, List.getElem?_cons_zero, List.getElem?_cons_succ, List.getElem?_nil, List.set_cons_zero, List.set_cons_succ, Option.some.injEq, V.int.injEq, V.str.injEq, V.ref.injEq, V.bl.injEq, V.ty.injEq, List.cons.injEq, and_true, true_and, exists_eq_left', exists_eq_left, exists_and_left, exists_eq, exists_eq', and_assoc, Option.join_some, Option.join_none, scal_int, scal_str, scal_bl, cxOf_K, blk_K, decide_eq_true_eq])
local macro_rules | `(tactic| walk_at "ri") => `(tactic| simp only [iRev, tCallL, tComp, kNest, kTest, kApp, kPut, tFor, tLC, tVar, tC, tOp, rI0, rI, rU, tUn, tTest, tB, tCons, tNil, tCB, tCall, tTup, tLst, ipI, tAnd, tOr, tNot, tAndV, tOrV, tNotV, tBM, tBM0, rAppend, rExtend, rPop, rIxL, rIxT, rIxS, rCat, rEq, rNe, rMulS, tSl, rSlL, rSlS, tPart, tNoPart, tRev, rJoin, tDGet, tDisp, tPairs, tFs, tFv, tFc, tF0, tKD, rIsi, rEqD, tNever, tChain, rIn, rSetL, iEnum, iStr, tKNotIn, tDIn, tDNotIn, iRng1, iRng2, iList, iTup, iZip, rRevd, L2.start, capt,
  List.map_cons, List.map_nil, List.length_cons, List.length_nil, List.cons_append, List.nil_append, List.append_nil, List.replicate_succ, List.replicate_zero, Nat.reduceAdd, Nat.reduceSub, Nat.zero_add, Nat.add_zero, Nat.sub_zero, Nat.sub_self, List.getElem?_cons_zero, List.getElem?_cons_succ, List.getElem?_nil, List.set_cons_zero, List.set_cons_succ, Option.some.injEq, V.int.injEq, V.str.injEq, V.ref.injEq, V.bl.injEq, V.ty.injEq, List.cons.injEq, and_true, true_and, exists_eq_left', exists_eq_left, exists_and_left, exists_eq, exists_eq', and_assoc, Option.join_some, Option.join_none, scal_int, scal_str, scal_bl, cxOf_K, blk_K, decide_eq_true_eq])
section
variable {P : Program} {w : World} {K : PySem.W.Frag} {mg : Str → Option Value} {base : Heap}
theorem stm21_zero {f : Addr} {fd : FuncData} {ps : List Str} {k : Nat} : FnOk P w K mg base CX0 k f fd ps (sp_stm21 K 0) := by
  have no : ∀ vs H Q E, ¬ sp_stm21 K 0 vs H Q E := fun vs H Q E h => by
    obtain ⟨c, many, wa, ws, _, _, h1, _, hn, _⟩ := h
    omega
  exact ⟨fun vs H Q E h => absurd h (no vs H Q E), fun A outer s H args us vs Q E _ _ _ _ h => absurd h (no vs H Q E)⟩
theorem all__law_statement {f__law_statement : Addr} {fd__law_statement : FuncData} (F__law_statement : Fun K "_law_statement" "_law_statement" s__law_statement f__law_statement fd__law_statement) (m__law_statement : mg "_law_statement" = some (.ref f__law_statement)) (b__law_statement : Binds K fd__law_statement ["_law_cell_here", "_law_many", "_law_words_here"] [])
    {f__law_mix : Addr} {fd__law_mix : FuncData} (G__law_mix : ∀ k, FnOk P w K mg base CX0 (k + 1) f__law_mix fd__law_mix ["_law_cell_here", "_law_k"] sp_mix) (m__law_mix : mg "_law_mix" = some (.ref f__law_mix)) (k__law_mix : PySem.W.keepIn K (.ref f__law_mix) = true) (b__law_mix : Binds K fd__law_mix ["_law_cell_here", "_law_k"] []) (m_len : mg "len" = none) :
    ∀ n : Nat, FnOk P w K mg base CX0 (n + 1) f__law_statement fd__law_statement ["_law_cell_here", "_law_many", "_law_words_here"] (sp_stm21 K n)
  | 0 => stm21_zero
  | n + 1 => ok__law_statement F__law_statement (all__law_statement F__law_statement m__law_statement b__law_statement G__law_mix m__law_mix k__law_mix b__law_mix m_len n) m__law_statement F__law_statement.kp b__law_statement (G__law_mix n) m__law_mix k__law_mix b__law_mix m_len
end
end KLaw


set_option Elab.async false
set_option linter.all false
set_option maxRecDepth 100000
set_option maxHeartbeats 4000000
namespace KLaw
open PySem L2 Ken
local macro_rules | `(tactic| walk_at "rd") => `(tactic| simp only [tIf, rInT, iRev, tCallL, tComp, kNest, kTest, kApp, kPut, tSeq, tAsg, gName, tVar, tC, tOp, rI0, rI, rU, tUn, tRet, tRetN, tIfS, tTest, tB, tNext, tCons, tNil, tCB, tCall, tTup, tLst, tDrop, tAug, ipI, tAnd, tOr, tNot, tAndV, tOrV, tNotV, tBM, tBM0, rAppend, rExtend, rPop, rIxL, rIxT, rIxS, rCat, rEq, rNe, rMulS, tSl, rSlL, rSlS, tPart, tNoPart, tRev, rJoin, tDGet, tDisp, tPairs, tFs, tFv, tFc, tF0, tKD, rIsi, rEqD, tNever, tChain, rIn, rSetL, gSub, iEnum, iStr, tKNotIn, tDIn, tDNotIn, sDPut, gTup, gCons, gNil, iRng1, iRng2, iList, iTup, iZip, iZipT, rRevd, L2.start, capt,
  List.map_cons, List.map_nil, List.length_cons, List.length_nil, List.cons_append, List.nil_append, List.append_nil, List.replicate_succ, List.replicate_zero, Nat.reduceAdd, Nat.reduceSub, Nat.zero_add, Nat.add_zero, Nat.sub_zero, Nat.sub_self, List.getElem?_cons_zero, List.getElem?_cons_succ, List.getElem?_nil, List.set_cons_zero, List.set_cons_succ, Option.some.injEq, V.int.injEq, V.str.injEq, V.ref.injEq, V.bl.injEq, V.ty.injEq, List.cons.injEq, and_true, true_and, exists_eq_left', exists_eq_left, exists_and_left, exists_eq, exists_eq', and_assoc, Option.join_some, Option.join_none, scal_int, scal_str, scal_bl, cxOf_K, cxC_K, blk_K, decide_eq_true_eq])
local macro_rules | `(tactic| walk_at "ri") => `(tactic| simp only [tIf, rInT, iRev, tCallL, tComp, kNest, kTest, kApp, kPut, tFor, tLC, tVar, tC, tOp, rI0, rI, rU, tUn, tTest, tB, tCons, tNil, tCB, tCall, tTup, tLst, ipI, tAnd, tOr, tNot, tAndV, tOrV, tNotV, tBM, tBM0, rAppend, rExtend, rPop, rIxL, rIxT, rIxS, rCat, rEq, rNe, rMulS, tSl, rSlL, rSlS, tPart, tNoPart, tRev, rJoin, tDGet, tDisp, tPairs, tFs, tFv, tFc, tF0, tKD, rIsi, rEqD, tNever, tChain, rIn, rSetL, iEnum, iStr, tKNotIn, tDIn, tDNotIn, iRng1, iRng2, iList, iTup, iZip, iZipT, rRevd, L2.start, capt,
  List.map_cons, List.map_nil, List.length_cons, List.length_nil, List.cons_append, List.nil_append, List.append_nil, List.replicate_succ, List.replicate_zero, Nat.reduceAdd, Nat.reduceSub, Nat.zero_add, Nat.add_zero, Nat.sub_zero, Nat.sub_self, List.getElem?_cons_zero, List.getElem?_cons_succ, List.getElem?_nil, List.set_cons_zero, List.set_cons_succ, Option.some.injEq, V.int.injEq, V.str.injEq, V.ref.injEq, V.bl.injEq, V.ty.injEq, List.cons.injEq, and_true, true_and, exists_eq_left', exists_eq_left, exists_and_left, exists_eq, exists_eq', and_assoc, Option.join_some, Option.join_none, scal_int, scal_str, scal_bl, cxOf_K, cxC_K, blk_K, decide_eq_true_eq])
abbrev s_law : Stmt := top 14
theorem sc_law : FnScope ["_law_script", "_law_words_here", "_law_statement_here", "_law_word", "_law_others", "_law_k", "_law_cell_here", "_law_told", "_law_other", "_law_found"] ["_law_script"] (defScope s_law) := ⟨rfl, rfl, rfl, by decide +kernel, rfl, by decide +kernel, by decide +kernel⟩
def sp_law61 (T : Addr) (K : PySem.W.Frag) : Sp := fun vs H Q _ => ∃ (a : Addr) (ns : List Int), vs = [.ref a] ∧ SqL K H a (ns.map V.int) ∧ ns.length ≤ 63 ∧ TabOk H T ds_placed ∧ ∀ H', Q (.bl true) H'
theorem SameT.write {H0 H : Hp} {l : Addr} {o : HO} (e : SameT H0 H) (h : H0 l = none) : SameT H0 (upd H l o) := fun b u n q => by
  rw [upd_ne (ne_of_none q h)]; exact e b u n q
theorem TabOk.write {H : Hp} {P : Addr} {ds : List (Pos × Str)} {l : Addr} {xs : List V} {o : HO} (h : TabOk H P ds) (hl : H l = some (.lst xs)) : TabOk (upd H l o) P ds := by
  obtain ⟨ps, h1, h2, h3⟩ := h
  refine ⟨ps, by rw [upd_ne (ne_of h1 hl (fun z => nomatch z))]; exact h1, h2, fun d hd cv e => ?_⟩
  obtain ⟨c, ob, vs, t, g1, g2, g3, g4⟩ := h3 d hd cv e
  exact ⟨c, ob, vs, t, g1, by rw [upd_ne (ne_of g2 hl (fun z => nomatch z))]; exact g2, g3, g4⟩
section
variable {P : Program} {w : World} {K : PySem.W.Frag} {mg : Str → Option Value} {base : Heap}
theorem ok_law {k : Nat} {T : Addr} {f_law : Addr} {fd_law : FuncData} (F_law : Fun K "law" "law" s_law f_law fd_law) {f__law_words : Addr} {fd__law_words : FuncData} (G__law_words : FnOk P w K mg base CX0 k f__law_words fd__law_words ["_law_cell_here"] (sp_words21)) (m__law_words : mg "_law_words" = some (.ref f__law_words)) (k__law_words : PySem.W.keepIn K (.ref f__law_words) = true) (b__law_words : Binds K fd__law_words ["_law_cell_here"] []) {f__law_statement : Addr} {fd__law_statement : FuncData} (G__law_statement : FnOk P w K mg base CX0 k f__law_statement fd__law_statement ["_law_cell_here", "_law_many", "_law_words_here"] (sp_stm21 K 32)) (m__law_statement : mg "_law_statement" = some (.ref f__law_statement)) (k__law_statement : PySem.W.keepIn K (.ref f__law_statement) = true) (b__law_statement : Binds K fd__law_statement ["_law_cell_here", "_law_many", "_law_words_here"] []) {f__law_cell : Addr} {fd__law_cell : FuncData} (G__law_cell : FnOk P w K mg base CX0 k f__law_cell fd__law_cell ["_law_script", "_law_k"] (sp_cell K)) (m__law_cell : mg "_law_cell" = some (.ref f__law_cell)) (k__law_cell : PySem.W.keepIn K (.ref f__law_cell) = true) (b__law_cell : Binds K fd__law_cell ["_law_script", "_law_k"] []) {f__law_mix : Addr} {fd__law_mix : FuncData} (G__law_mix : FnOk P w K mg base CX0 k f__law_mix fd__law_mix ["_law_cell_here", "_law_k"] (sp_mix)) (m__law_mix : mg "_law_mix" = some (.ref f__law_mix)) (k__law_mix : PySem.W.keepIn K (.ref f__law_mix) = true) (b__law_mix : Binds K fd__law_mix ["_law_cell_here", "_law_k"] []) {f_placed : Addr} {fd_placed : FuncData} (G_placed : FnOk P w K mg base CX0 k f_placed fd_placed ["statement", "word", "other"] (sp_placed K T ds_placed)) (m_placed : mg "placed" = some (.ref f_placed)) (k_placed : PySem.W.keepIn K (.ref f_placed) = true) (b_placed : Binds K fd_placed ["statement", "word", "other"] []) {f__law_fits : Addr} {fd__law_fits : FuncData} (G__law_fits : FnOk P w K mg base CX0 k f__law_fits fd__law_fits ["_law_found", "_law_statement_here", "_law_word", "_law_other"] (sp_fits61 K)) (m__law_fits : mg "_law_fits" = some (.ref f__law_fits)) (k__law_fits : PySem.W.keepIn K (.ref f__law_fits) = true) (b__law_fits : Binds K fd__law_fits ["_law_found", "_law_statement_here", "_law_word", "_law_other"] []) (m_range : mg "range" = none) (m_zip : mg "zip" = none) (m_min : mg "min" = none) (m_len : mg "len" = none) : FnOk P w K mg base CX0 (k + 1) f_law fd_law ["_law_script"] (sp_law61 T K) := by
  refine F_law.ok sc_law (fun vs H Q E h => ?_) (fun cdv A outer s H vs Q E hr h => ?_)
  · obtain ⟨a, ns, rfl, _⟩ := h
    rfl
  obtain ⟨a, ns, rfl, hS, hl, tb0, q⟩ := h
  refine ⟨_, (pss_cons (ps_set (i := 1) sc_law.nd rfl (Or.inl rfl) (pe_call G__law_words hr (by exact rfl) m__law_words k__law_words b__law_words .nil pass0 (pa_cons (pe_call G__law_cell hr (by exact rfl) m__law_cell k__law_cell b__law_cell .nil pass0 (pa_cons (pv 0) (pa_cons pe_int pa_nil))) pa_nil)))
  (pss_cons (ps_set (i := 2) sc_law.nd rfl (Or.inl rfl) (pe_call G__law_statement hr (by exact rfl) m__law_statement k__law_statement b__law_statement .nil pass0 (pa_cons (pe_call G__law_cell hr (by exact rfl) m__law_cell k__law_cell b__law_cell .nil pass0 (pa_cons (pv 0) (pa_cons pe_int pa_nil))) (pa_cons (pe_op op_add pe_int (pe_op op_mul pe_int (pe_op op_mod (pe_call G__law_cell hr (by exact rfl) m__law_cell k__law_cell b__law_cell .nil pass0 (pa_cons (pv 0) (pa_cons pe_int pa_nil))) pe_int))) (pa_cons (pv 1) pa_nil)))))
  (pss_cons (ps_set (i := 3) sc_law.nd rfl (Or.inl rfl) (pe_ix ix_list (pe_op op_cat (pv 1) (pe_lst (pa_cons pe_str pa_nil))) (pe_op op_mod (pe_op op_fdiv (pe_call G__law_cell hr (by exact rfl) m__law_cell k__law_cell b__law_cell .nil pass0 (pa_cons (pv 0) (pa_cons pe_int pa_nil))) pe_int) (pe_op op_add (pe_callB call_len_seq (by exact rfl) m_len Ken.boot_len (pa_cons (pv 1) pa_nil)) pe_int)) (fun _ _ => rfl)))
  (pss_cons (ps_set (i := 4) sc_law.nd rfl (Or.inl rfl) (pe_lst (pa_cons (pe_tup (pa_cons pe_str (pa_cons (pv 3) pa_nil))) pa_nil)))
  (pss_cons (ps_for PassesOwn.never rfl (pi_range2 rfl m_range (pa_cons pe_int (pa_cons (pe_callB (call_min2 rfl) (by exact rfl) m_min Ken.boot_min (pa_cons pe_int (pa_cons (pe_callB call_len_seq (by exact rfl) m_len Ken.boot_len (pa_cons (pv 0) pa_nil)) pa_nil))) pa_nil))) (pg_name (i := 5) sc_law.nd rfl (Or.inl rfl))
    (pss_cons (ps_set (i := 6) sc_law.nd rfl (Or.inl rfl) (pe_call G__law_mix hr (by exact rfl) m__law_mix k__law_mix b__law_mix .nil pass0 (pa_cons (pe_call G__law_cell hr (by exact rfl) m__law_cell k__law_cell b__law_cell .nil pass0 (pa_cons (pv 0) (pa_cons (pv 5) pa_nil))) (pa_cons (pv 5) pa_nil))))
  (pss_one (ps_expr (pe_bm PySem.F.plainAttrs_list PySem.F.slot_list_append PySem.F.type_list_append mt_append (pv 4) (pa_cons (pe_call G__law_statement hr (by exact rfl) m__law_statement k__law_statement b__law_statement .nil pass0 (pa_cons (pe_call G__law_mix hr (by exact rfl) m__law_mix k__law_mix b__law_mix .nil pass0 (pa_cons (pv 6) (pa_cons pe_int pa_nil))) (pa_cons (pe_op op_add pe_int (pe_op op_mul pe_int (pe_op op_mod (pv 6) pe_int))) (pa_cons (pv 1) pa_nil)))) pa_nil))))))
  (pss_cons (ps_set (i := 7) sc_law.nd rfl (Or.inl rfl) (pe_lst pa_nil))
  (pss_cons (ps_for PassesOwn.never rfl (pi_list (pv 4)) (pg_name (i := 8) sc_law.nd rfl (Or.inl rfl))
    (pss_cons (ps_set (i := 9) sc_law.nd rfl (Or.inl rfl) (pe_call G_placed hr (by exact rfl) m_placed k_placed b_placed .nil pass0 (pa_cons (pv 2) (pa_cons (pv 3) (pa_cons (pv 8) pa_nil)))))
  (pss_cons (ps_if (pt_not (pt_val (pe_call G__law_fits hr (by exact rfl) m__law_fits k__law_fits b__law_fits .nil pass0 (pa_cons (pv 9) (pa_cons (pv 2) (pa_cons (pv 3) (pa_cons (pv 8) pa_nil)))))))
    (pss_one (ps_ret pe_bl))
    pss_nil)
  (pss_one (ps_expr (pe_bm PySem.F.plainAttrs_list PySem.F.slot_list_append PySem.F.type_list_append mt_append (pv 7) (pa_cons (pv 9) pa_nil)))))))
  (pss_cons (ps_for PassesOwn.never rfl (pi_zip rfl m_zip (pa_cons (pv 4) (pa_cons (pv 7) pa_nil))) (pg_tup rfl (pgs_cons (pg_name (i := 8) sc_law.nd rfl (Or.inl rfl)) (pgs_cons (pg_name (i := 9) sc_law.nd rfl (Or.inl rfl)) pgs_nil)))
    (pss_one (ps_if (pt_cmpR (op_neD (hu_150 hr)) (pe_call G_placed hr (by exact rfl) m_placed k_placed b_placed .nil pass0 (pa_cons (pv 2) (pa_cons (pv 3) (pa_cons (pv 8) pa_nil)))) (pv 9) (nomark _))
    (pss_one (ps_ret pe_bl))
    pss_nil)))
  (pss_one (ps_ret (pe_cmpR (op_eqD (hu_150 hr)) (pe_ix ix_list (pv 7) pe_int (fun _ _ => rfl)) (pv 2) (nomark _)))))))))))), ?_⟩
  refine seq_then (fun σ' H' => ∃ wa ws, σ' = [some (.ref a), some (.ref wa), none, none, none, none, none, none, none, none] ∧ Same H H' ∧ H' wa = some (.lst (ws.map V.str)) ∧ Words ws) ?_ ?_
  rotate_left
  · intro C hC
    walk_at "rd"
    exact ⟨a, ns, _, rfl, hS, hl, by decide, by decide, _, rfl, cell_nn _ _, fun r H' ws e fr h hw => hC _ _ ⟨r, ws, rfl, e, h, hw⟩⟩
  rintro σ1 H1 ⟨wa, ws, rfl, e1, h1, hw⟩
  have b0 := Int.emod_nonneg (cellOf ns 2) (show (31 : Int) ≠ 0 by decide)
  have b1 := Int.emod_lt_of_pos (cellOf ns 2) (show (0 : Int) < 31 by decide)
  refine seq_then (fun σ' H' => ∃ g t, σ' = [some (.ref a), some (.ref wa), some g, none, none, none, none, none, none, none] ∧ Same H1 H' ∧ IsT K H' g t ∧ t.ok ∧ t.parts ≤ 61 ∧ t.deep ≤ 31) ?_ ?_
  rotate_left
  · intro C hC
    walk_at "rd"
    refine ⟨a, ns, _, rfl, e1.seq hS, hl, by decide, by decide, a, ns, _, rfl, e1.seq hS, hl, by decide, by decide, _, rfl, by decide, mul_left (by decide) (by decide), _, _, wa, ws, rfl, cell_nn _ _, by omega, by omega, by omega, SqL.of h1, hw, fun r H' t e m => hC _ _ ⟨r, t, rfl, e, m.1, m.2.1.ok hw.2.2, ?_, ?_⟩⟩
    · have := m.2.2.1
      omega
    · have := m.2.2.2
      omega
  rintro σ2 H2 ⟨g, t, rfl, e2, hg, gok, gp, gd⟩
  have E2 := e1.trans e2
  refine seq_then (fun σ' H' => ∃ x : Str, σ' = [some (.ref a), some (.ref wa), some g, some (.str x), none, none, none, none, none, none] ∧ Same H2 H' ∧ Word x) ?_ ?_
  rotate_left
  · intro C hC
    walk_at "rd"
    have w6 := hw.2.1
    have w2 := hw.1
    refine ⟨by decide, fun p hp => ⟨_, (same_new hp _) _ _ (e2 _ _ h1), _, upd_same, ?_, fun p1 hp1 => ?_⟩⟩
    · rw [List.length_map]; exact Nat.le_of_lt (small1M (by show ws.length + 1 ≤ 1000000; omega))
    have S5 := (same_new hp (HO.lst [V.str "q"])).trans (same_new hp1 (HO.lst (ws.map V.str ++ [V.str "q"])))
    have el : ws.map V.str ++ [V.str "q"] = (ws ++ [("q" : Str)]).map V.str := by rw [List.map_append]; rfl
    have h5 := upd_same (H := upd H2 p (HO.lst [V.str "q"])) (a := p1) (o := HO.lst (ws.map V.str ++ [V.str "q"]))
    generalize upd (upd H2 p (HO.lst [V.str "q"])) p1 (HO.lst (ws.map V.str ++ [V.str "q"])) = H5 at S5 h5
    rw [el] at h5
    obtain ⟨v, hv, ev⟩ := at_list (xs := (ws ++ [("q" : Str)]).map V.str) (i := cellOf ns 0 / 7 % (((ws.map V.str).length : Int) + 1)) (Int.emod_nonneg _ (by omega)) (by
      have := Int.emod_lt_of_pos (cellOf ns 0 / 7) (show (0 : Int) < ((ws.map V.str).length : Int) + 1 by omega)
      have l1 : (ws.map V.str).length = ws.length := List.length_map _
      have l2 : ((ws ++ [("q" : Str)]).map V.str).length = ws.length + 1 := by rw [List.length_map, List.length_append]; rfl
      rw [l2]
      omega)
    obtain ⟨x, hxm, rfl⟩ := List.mem_map.mp hv
    have hxw : Word x := by
      rcases List.mem_append.mp hxm with z | z
      · exact hw.2.2 x z
      · rw [List.mem_singleton.mp z]; exact word_of (by decide +kernel)
    exact ⟨a, ns, 0, rfl, (E2.trans S5).seq hS, hl, by decide, by decide, _, rfl, ⟨by decide, by decide⟩, _, .inl (SqL.of ((e2.trans S5) _ _ h1)), by omega, _, SqL.of h5, _, ev, hC _ _ ⟨x, rfl, S5, hxw⟩⟩
  rintro σ3 H3 ⟨x, rfl, e3, hx⟩
  have E3 := E2.trans e3
  refine seq_then (fun σ' H' => ∃ lo p, σ' = [some (.ref a), some (.ref wa), some g, some (.str x), some (.ref lo), none, none, none, none, none] ∧ Same H3 H' ∧ H3 lo = none ∧ H' lo = some (.lst [.ref p]) ∧ IsT K H' (.ref p) (.ltr x)) ?_ ?_
  rotate_left
  · intro C hC
    walk_at "rd"
    refine ⟨by decide, fun p hp => ⟨by decide, fun lo hlo => hC _ _ ⟨lo, p, rfl, (same_new hp _).trans (same_new hlo _), (same_new hp _).free hlo, upd_same, isT_ltr.mpr ⟨p, rfl, (same_new hlo _).sqt (.inl (.inl upd_same))⟩⟩⟩⟩
  rintro σ4 H4 ⟨lo, p, rfl, e4, flo, h4, hp4⟩
  refine seq_then (fun σ' H' => ∃ x5 x6 us ts, σ' = [some (.ref a), some (.ref wa), some g, some (.str x), some (.ref lo), x5, x6, none, none, none] ∧ Same H3 H' ∧ H' lo = some (.lst us) ∧ Paired (IsT K H') us (.ltr x :: ts) ∧ ts.length ≤ 6 ∧ ∀ t ∈ ts, t.ok ∧ t.deep ≤ 2) ?_ ?_
  rotate_left
  · intro C hC
    walk_at "ri"
    refine ⟨_, .inl ((E3.trans e4).seq hS), by decide, by decide, ?_⟩
    rw [List.length_map]
    have hm : ∃ m : Int, (if (ns.length : Int) < 9 then (ns.length : Int) else 9) = m ∧ 0 ≤ m ∧ m ≤ 9 := ⟨_, rfl, by split <;> omega, by split <;> omega⟩
    obtain ⟨m, em, m0, m1⟩ := hm
    rw [em]
    refine ⟨by omega, by omega, ?_⟩
    refine for_range (D := { nx := C, rt := Q }) (n := (m - 3).toNat) (lo := 3) (fun i σ' H' => ∃ x5 x6 us ts, σ' = [some (.ref a), some (.ref wa), some g, some (.str x), some (.ref lo), x5, x6, none, none, none] ∧ Same H3 H' ∧ H' lo = some (.lst us) ∧ Paired (IsT K H') us (.ltr x :: ts) ∧ ts.length = i ∧ ∀ t ∈ ts, t.ok ∧ t.deep ≤ 2) ⟨none, none, [.ref p], [], rfl, e4, h4, .cons hp4 .nil, rfl, fun _ z => nomatch z⟩ (fun i σ' H' hi hp => ?_) (fun σ' H' hp => ?_)
    rotate_left
    · obtain ⟨x5, x6, us, ts, rfl, e, h, hP, hl', ht⟩ := hp
      exact hC _ _ ⟨x5, x6, us, ts, rfl, e, h, hP, by omega, ht⟩
    obtain ⟨x5, x6, us, ts, rfl, e, h, hP, hl', ht⟩ := hp
    have lu := Paired.length hP
    rw [List.length_cons] at lu
    show tSeq _ _ _ _ _
    refine seq_then (fun σ' H2 => ∃ c : Int, 0 ≤ c ∧ σ' = [some (.ref a), some (.ref wa), some g, some (.str x), some (.ref lo), some (.int (3 + (i : Int))), some (.int c), none, none, none] ∧ H2 = H') ?_ ?_
    rotate_left
    · intro C hC
      walk_at "rd"
      exact ⟨a, ns, _, rfl, (E3.trans e).seq hS, hl, by omega, by omega, _, _, rfl, by omega, by omega, hC _ _ ⟨_, mix_nn _ _, rfl, rfl⟩⟩
    rintro σ5 H5 ⟨c, hc, rfl, rfl⟩
    have c0 := Int.emod_nonneg c (show (2 : Int) ≠ 0 by decide)
    have c1 := Int.emod_lt_of_pos c (show (0 : Int) < 2 by decide)
    walk_at "rd"
    refine ⟨.inl ⟨rfl, _, SqL.of h⟩, _, _, rfl, by decide, by decide, by decide, mul_left (by decide) (by decide), _, _, wa, ws, rfl, mix_nn _ _, by omega, by omega, by omega, SqL.of (((e2.trans e3).trans e) _ _ h1), hw, fun u H6 t6 e6 m6 => ⟨_, e6 _ _ h, small1000 (by omega), ?_⟩⟩
    have y2 := m6.2.2.2
    refine ⟨(e.trans e6).write flo, _, upd_same, ts ++ [t6], ?_, by rw [List.length_append, hl']; rfl, fun t' ht' => ?_⟩
    · exact paired_keepT (keepT_lst (e6 _ _ h)) (paired_app (paired_keepT e6.keepT hP) (.cons m6.1 .nil))
    · rcases List.mem_append.mp ht' with z | z
      · exact ht t' z
      · rw [List.mem_singleton.mp z]; exact ⟨m6.2.1.ok hw.2.2, by omega⟩
  rintro σ5 H5 ⟨x5, x6, us, ts, rfl, e5, h5, hP, hn, ht⟩
  have E5 := E3.trans e5
  have tb5 := tb0.keep E5
  have lu := Paired.length hP
  have hall : ∀ o ∈ Tm.ltr x :: ts, o.ok ∧ o.deep ≤ 2 := fun o ho => by
    rcases List.mem_cons.mp ho with rfl | ho
    · exact ⟨hx, by show 1 ≤ 2; decide⟩
    · exact ht o ho
  have hg5 : IsT K H5 g t := hg.keep (e3.trans e5).keepT
  refine seq_then (fun σ' H' => ∃ lt, σ' = [some (.ref a), some (.ref wa), some g, some (.str x), some (.ref lo), x5, x6, some (.ref lt), none, none] ∧ Same H5 H' ∧ H5 lt = none ∧ H' lt = some (.lst [])) ?_ ?_
  rotate_left
  · intro C hC
    walk_at "rd"
    exact ⟨by decide, fun lt hlt => hC _ _ ⟨lt, rfl, same_new hlt _, hlt, upd_same⟩⟩
  rintro σ6 H6 ⟨lt, rfl, e6, flt, h6⟩
  have lo7 : (Tm.ltr x :: ts).length ≤ 7 := by rw [List.length_cons]; omega
  generalize hO : Tm.ltr x :: ts = os at hP lu hall lo7
  refine seq_then (fun σ' H' => ∃ x8 x9 rs, σ' = [some (.ref a), some (.ref wa), some g, some (.str x), some (.ref lo), x5, x6, some (.ref lt), x8, x9] ∧ SameT H5 H' ∧ TabOk H' T ds_placed ∧ H' lt = some (.lst rs) ∧ Paired (fun r o => IsT K H' r (t.sub x o)) rs os) ?_ ?_
  rotate_left
  · intro C hC
    walk_at "ri"
    refine ⟨⟨_, SqL.of (e6 _ _ h5)⟩, ?_⟩
    refine for_list (D := { nx := C, rt := Q }) (xs := us) (fun i σ' H' => ∃ x8 x9 rs, σ' = [some (.ref a), some (.ref wa), some g, some (.str x), some (.ref lo), x5, x6, some (.ref lt), x8, x9] ∧ SameT H5 H' ∧ TabOk H' T ds_placed ∧ H' lt = some (.lst rs) ∧ Paired (fun r o => IsT K H' r (t.sub x o)) rs (os.take i))
      ⟨none, none, [], rfl, e6.toT, tb5.keep e6, h6, .nil⟩ (fun i σ' H' hi ⟨x8, x9, rs, _, e, _⟩ => SqL.of (e _ _ (fun _ z => nomatch z) h5)) (fun i u σ' H' hu hI => ?_) (fun σ' H' hI => ?_)
    · obtain ⟨x8, x9, rs, rfl, e, tb, h, hr'⟩ := hI
      obtain ⟨o, ho, hoT⟩ := paired_get hP hu
      obtain ⟨ok1, dp1⟩ := hall o (List.mem_of_getElem? ho)
      have hi : i < us.length := (List.getElem?_eq_some_iff.mp hu).1
      have lr := Paired.length hr'
      rw [List.length_take] at lr
      walk_at "rd"
      refine ⟨g, t, x, u, o, rfl, hg5.keep (SameT.keepT e), hoT.keep (SameT.keepT e), gok, hx, by omega, tb, fun r H7 e7 tb7 hr7 => ?_⟩
      have k7 : KeepT K H5 H7 := SameT.keepT (SameT.trans e e7)
      refine ⟨r, g, u, t, o, x, rfl, hr7, hg5.keep k7, hoT.keep k7, gok, ok1, hx, by omega, by omega, fun H8 e8 => ⟨true, rfl, ?_⟩⟩
      rw [if_neg (by decide)]
      have h8 := e8 lt (.lst rs) (e7 lt (.lst rs) (fun _ z => nomatch z) h)
      refine ⟨.inl ⟨rfl, _, SqL.of h8⟩, _, h8, small1000 (by omega), SameT.write (SameT.trans (SameT.trans e e7) e8.toT) flt, TabOk.write (tb7.keep e8) h8, _, upd_same, ?_⟩
      rw [List.take_succ, ho]
      have kk : KeepT K H' (upd H8 lt (.lst (rs ++ [r]))) := KeepT.trans (SameT.keepT (SameT.trans e7 e8.toT)) (keepT_lst h8)
      exact paired_app (Paired.mapP hr' fun r' o' z => z.keep kk) (.cons ((hr7.keep e8.keepT).keep (keepT_lst h8)) .nil)
    · obtain ⟨x8, x9, rs, rfl, e, tb, h, hr'⟩ := hI
      rw [lu, List.take_length] at hr'
      exact hC _ _ ⟨x8, x9, rs, rfl, e, tb, h, hr'⟩
  rintro σ7 H7 ⟨x8, x9, rs, rfl, e7, tb7, h7, hr7⟩
  have lr := Paired.length hr7
  have h7o : H7 lo = some (.lst us) := e7 _ _ (fun _ z => nomatch z) h5
  have k57 : KeepT K H5 H7 := SameT.keepT e7
  have dsub : ∀ o ∈ os, (t.sub x o).deep ≤ 150 := fun o ho => by have := Tm.sub_deep (t := t) (x := x) (o := o); have := (hall o ho).2; omega
  refine seq_then (fun σ' H' => ∃ x8 x9, σ' = [some (.ref a), some (.ref wa), some g, some (.str x), some (.ref lo), x5, x6, some (.ref lt), x8, x9] ∧ SameT H7 H') ?_ ?_
  rotate_left
  · intro C hC
    walk_at "ri"
    refine ⟨⟨_, SqL.of h7o⟩, ⟨_, SqL.of h7⟩, ?_⟩
    refine for_zip (D := { nx := C, rt := Q }) (xs := us) (ys := rs) (fun i σ' H' => ∃ x8 x9, σ' = [some (.ref a), some (.ref wa), some g, some (.str x), some (.ref lo), x5, x6, some (.ref lt), x8, x9] ∧ SameT H7 H' ∧ TabOk H' T ds_placed) (by rw [lu, lr]) ⟨x8, x9, rfl, SameT.refl _, tb7⟩ (fun i σ' H' hi ⟨x8, x9, _, e, _⟩ => ⟨SqL.of (e _ _ (fun _ z => nomatch z) h7o), SqL.of (e _ _ (fun _ z => nomatch z) h7)⟩) (fun i u r σ' H' T0 hu hr0 hT0 hI => ?_) (fun σ' H' ⟨x8, x9, z, e, _⟩ => hC _ _ ⟨x8, x9, z, e⟩)
    obtain ⟨x8, x9, rfl, e, tb⟩ := hI
    obtain ⟨o, ho, hoT⟩ := paired_get hP hu
    obtain ⟨o', ho', hrT⟩ := paired_get hr7 hr0
    rw [ho] at ho'
    cases ho'
    obtain ⟨ok1, dp1⟩ := hall o (List.mem_of_getElem? ho)
    have sT := same_new hT0 (HO.tup [u, r])
    walk_at "rd"
    have k8 : KeepT K H7 (upd H' T0 (.tup [u, r])) := KeepT.trans (SameT.keepT e) sT.keepT
    refine ⟨_, .inl (.inl upd_same), rfl, _, _, rfl, _, _, rfl, rfl, g, t, x, u, o, rfl, hg5.keep (KeepT.trans k57 k8), hoT.keep (KeepT.trans k57 k8), gok, hx, by omega, tb.keep sT, fun r2 H8 e8 tb8 hr8 => ?_⟩
    refine ⟨_, hr8, _, (hrT.keep k8).keep (SameT.keepT e8), Tm.lay _ (Tm.sub_ok ok1 gok), Tm.lay _ (Tm.sub_ok ok1 gok), by rw [Tm.depth]; have := dsub o (List.mem_of_getElem? ho); omega, ?_⟩
    rw [if_pos trivial, Tm.eqv, if_neg (by simp)]
    exact ⟨SameT.trans (SameT.trans e sT.toT) e8, tb8⟩
  rintro σ8 H8 ⟨x8, x9, rfl, e8⟩
  subst hO
  cases hr7 with
  | cons hr0 hrt =>
    walk_at "rd"
    refine ⟨_, SqL.of (e8 _ _ (fun _ z => nomatch z) h7), _, (show atI (_ :: _) ((0 : Nat) : Int) = some _ from atI_nat rfl), _, hr0.keep (SameT.keepT e8), _, (hg5.keep k57).keep (SameT.keepT e8), Tm.lay _ (Tm.sub_ok (x := x) (o := .ltr x) (t := t) hx gok), Tm.lay _ gok, by rw [Tm.depth, Tm.depth]; omega, ?_⟩
    rw [if_neg Bool.false_ne_true, Tm.eqv, Tm.sub_self, decide_eq_true rfl]
    exact q _
end
end KLaw


set_option Elab.async false
set_option linter.all false
set_option maxRecDepth 100000
set_option maxHeartbeats 4000000
namespace KLaw
open PySem L2 Ken
local macro_rules | `(tactic| walk_at "rd") => `(tactic| simp only [iRev, tCallL, tComp, kNest, kTest, kApp, kPut, tSeq, tAsg, gName, tVar, tC, tOp, rI0, rI, rU, tUn, tRet, tRetN, tIfS, tTest, tB, tNext, tCons, tNil, tCB, tCall, tTup, tLst, tDrop, tAug, ipI, tAnd, tOr, tNot, tAndV, tOrV, tNotV, tBM, tBM0, rAppend, rExtend, rPop, rIxL, rIxT, rIxS, rCat, rEq, rNe, rMulS, tSl, rSlL, rSlS, tPart, tNoPart, tRev, rJoin, tDGet, tDisp, tPairs, tFs, tFv, tFc, tF0, tKD, rIsi, rEqD, tNever, tChain, rIn, rSetL, gSub, iEnum, iStr, tKNotIn, tDIn, tDNotIn, sDPut, gTup, gCons, gNil, iRng1, iRng2, iList, iTup, iZip, rRevd, L2.start, capt,
  List.map_cons, List.map_nil, List.length_cons, List.length_nil, List.cons_append, List.nil_append, List.append_nil, List.replicate_succ, List.replicate_zero, Nat.reduceAdd, Nat.reduceSub, Nat.zero_add, Nat.add_zero, Nat.sub_zero, Nat.sub_self, List.getElem?_cons_zero, List.getElem?_cons_succ, List.getElem?_nil, List.set_cons_zero, List.set_cons_succ, Option.some.injEq, V.int.injEq, V.str.injEq, V.ref.injEq, V.bl.injEq, V.ty.injEq, List.cons.injEq, and_true, true_and, exists_eq_left', exists_eq_left, exists_and_left, exists_eq, exists_eq', and_assoc, Option.join_some, Option.join_none, scal_int, scal_str, scal_bl, cxOf_K, blk_K, decide_eq_true_eq])
local macro_rules | `(tactic| walk_at "ri") => `(tactic| simp only [iRev, tCallL, tComp, kNest, kTest, kApp, kPut, tFor, tLC, tVar, tC, tOp, rI0, rI, rU, tUn, tTest, tB, tCons, tNil, tCB, tCall, tTup, tLst, ipI, tAnd, tOr, tNot, tAndV, tOrV, tNotV, tBM, tBM0, rAppend, rExtend, rPop, rIxL, rIxT, rIxS, rCat, rEq, rNe, rMulS, tSl, rSlL, rSlS, tPart, tNoPart, tRev, rJoin, tDGet, tDisp, tPairs, tFs, tFv, tFc, tF0, tKD, rIsi, rEqD, tNever, tChain, rIn, rSetL, iEnum, iStr, tKNotIn, tDIn, tDNotIn, iRng1, iRng2, iList, iTup, iZip, rRevd, L2.start, capt,
  List.map_cons, List.map_nil, List.length_cons, List.length_nil, List.cons_append, List.nil_append, List.append_nil, List.replicate_succ, List.replicate_zero, Nat.reduceAdd, Nat.reduceSub, Nat.zero_add, Nat.add_zero, Nat.sub_zero, Nat.sub_self, List.getElem?_cons_zero, List.getElem?_cons_succ, List.getElem?_nil, List.set_cons_zero, List.set_cons_succ, Option.some.injEq, V.int.injEq, V.str.injEq, V.ref.injEq, V.bl.injEq, V.ty.injEq, List.cons.injEq, and_true, true_and, exists_eq_left', exists_eq_left, exists_and_left, exists_eq, exists_eq', and_assoc, Option.join_some, Option.join_none, scal_int, scal_str, scal_bl, cxOf_K, blk_K, decide_eq_true_eq])
abbrev s_folded : Stmt := top 4
theorem sc_folded : FnScope ["statement", "of_simple", "of_pair", "told", "piece", "first", "second"] ["statement", "of_simple", "of_pair"] (defScope s_folded) := ⟨rfl, rfl, rfl, by decide +kernel, rfl, by decide +kernel, by decide +kernel⟩
theorem paired_snoc_inv {α β : Type} {F : α → β → Prop} : ∀ {l : List α} {m : List β} {y : β}, Paired F l (m ++ [y]) → ∃ l' x, l = l' ++ [x] ∧ Paired F l' m ∧ F x y
  | _, [], _, h => by
    cases h with
    | cons hx t => cases t; exact ⟨[], _, rfl, .nil, hx⟩
  | _, z :: m, _, h => by
    cases h with
    | cons hx t =>
      obtain ⟨l', x, rfl, h1, h2⟩ := paired_snoc_inv t
      exact ⟨_ :: l', x, rfl, .cons hx h1, h2⟩
section
variable {P : Program} {w : World} {K : PySem.W.Frag} {mg : Str → Option Value} {base : Heap}
theorem ok_foldedH {k : Nat} {J : Hp → Prop} (hJ : ∀ H H', KeepT K H H' → J H → J H') {R : RH} (hR : ∀ H H' t v, KeepT K H H' → R H t v → R H' t v) {B : Nat} {ps_of_simple ps_of_pair : List Str} {f_folded : Addr} {fd_folded : FuncData} (F_folded : Fun K "folded" "folded" s_folded f_folded fd_folded) {f_pieces : Addr} {fd_pieces : FuncData} (G_pieces : FnOk P w K mg base CX0 k f_pieces fd_pieces ["statement"] (sp_pieces K)) (m_pieces : mg "pieces" = some (.ref f_pieces)) (k_pieces : PySem.W.keepIn K (.ref f_pieces) = true) (b_pieces : Binds K fd_pieces ["statement"] []) {aPAIRED : Addr} (m_PAIRED : mg "PAIRED" = some (.ref aPAIRED)) (t_PAIRED : ∀ H, SqT K H aPAIRED [.str "both", .str "one", .str "then"]) (m_reversed : mg "reversed" = none)
    {f_of_simple : Addr} {fd_of_simple : FuncData} (G_of_simple : FnOk P w K mg base CX0 k f_of_simple fd_of_simple ps_of_simple (sp_of1H K J R)) (k_of_simple : PySem.W.keepIn K (.ref f_of_simple) = true) (b_of_simple : Binds K fd_of_simple ps_of_simple [])
    {f_of_pair : Addr} {fd_of_pair : FuncData} (G_of_pair : FnOk P w K mg base CX0 k f_of_pair fd_of_pair ps_of_pair (sp_of2H J R B)) (k_of_pair : PySem.W.keepIn K (.ref f_of_pair) = true) (b_of_pair : Binds K fd_of_pair ps_of_pair []) : FnOk P w K mg base CX0 (k + 1) f_folded fd_folded ["statement", "of_simple", "of_pair"] (sp_foldedH K J R B f_of_simple f_of_pair) := by
  refine F_folded.ok sc_folded (fun vs H Q E h => ?_) (fun cdv A outer s H vs Q E hr h => ?_)
  · obtain ⟨v, t, rfl, _⟩ := h
    rfl
  obtain ⟨v, t, rfl, j0, hT, htk, hp, hB, q⟩ := h
  have hpm : ∀ {H4 H5 : Hp} {us : List V} {fs : List Tm}, KeepT K H4 H5 → Paired (fun u s => R H4 s u) us fs → Paired (fun u s => R H5 s u) us fs := fun k z => Paired.mapP z fun _ _ y => hR _ _ _ _ k y
  refine ⟨_, (pss_cons (ps_set (i := 3) sc_folded.nd rfl (Or.inl rfl) (pe_lst pa_nil))
  (pss_cons (ps_for PassesOwn.never rfl (pi_rev rfl m_reversed (pa_cons (pe_call G_pieces hr (by exact rfl) m_pieces k_pieces b_pieces .nil pass0 (pa_cons (pv 0) pa_nil)) pa_nil)) (pg_name (i := 4) sc_folded.nd rfl (Or.inl rfl))
    (pss_one (ps_if (pt_cmpR (op_in_seq) (pe_ix ix_tup (pv 4) pe_int (fun _ _ => rfl)) (pe_glob (v := .ref aPAIRED) (by exact rfl) m_PAIRED (by exact rfl)) (by with_unfolding_all rfl))
    (pss_cons (ps_set (i := 5) sc_folded.nd rfl (Or.inl rfl) (pe_bm0 PySem.F.plainAttrs_list PySem.F.slot_list_pop PySem.F.type_list_pop mt_pop (pv 3)))
  (pss_cons (ps_set (i := 6) sc_folded.nd rfl (Or.inl rfl) (pe_bm0 PySem.F.plainAttrs_list PySem.F.slot_list_pop PySem.F.type_list_pop mt_pop (pv 3)))
  (pss_one (ps_expr (pe_bm PySem.F.plainAttrs_list PySem.F.slot_list_append PySem.F.type_list_append mt_append (pv 3) (pa_cons (pe_callL (i := 2) G_of_pair hr rfl (Or.inl rfl) k_of_pair b_of_pair .nil pass0 (pa_cons (pe_ix ix_tup (pv 4) pe_int (fun _ _ => rfl)) (pa_cons (pv 5) (pa_cons (pv 6) pa_nil)))) pa_nil))))))
    (pss_one (ps_expr (pe_bm PySem.F.plainAttrs_list PySem.F.slot_list_append PySem.F.type_list_append mt_append (pv 3) (pa_cons (pe_callL (i := 1) G_of_simple hr rfl (Or.inl rfl) k_of_simple b_of_simple .nil pass0 (pa_cons (pv 4) pa_nil)) pa_nil)))))))
  (pss_one (ps_ret (pe_ix ix_list (pv 3) pe_int (fun _ _ => rfl)))))), ?_⟩
  refine seq_then (fun σ' H' => ∃ l, σ' = [some v, some (.ref f_of_simple), some (.ref f_of_pair), some (.ref l), none, none, none] ∧ Same H H' ∧ H l = none ∧ H' l = some (.lst [])) ?_ ?_
  rotate_left
  · intro C hC
    walk_at "rd"
    exact ⟨by decide, fun l hl => hC _ _ ⟨l, rfl, same_new hl _, hl, upd_same⟩⟩
  rintro σ1 H1 ⟨l, rfl, e1, f1, h1⟩
  refine seq_then (fun σ' H' => ∃ x4 x5 x6 u, σ' = [some v, some (.ref f_of_simple), some (.ref f_of_pair), some (.ref l), x4, x5, x6] ∧ Same H H' ∧ H' l = some (.lst [u]) ∧ R H' t u) ?_ ?_
  rotate_left
  · intro C hC
    walk_at "ri"
    refine ⟨v, t, rfl, hT.keep e1.keepT, by omega, fun r H2 us e2 f2 h2 hu => ⟨r, rfl, us, SqL.of h2, ?_⟩⟩
    have lu := Paired.length hu
    have l2 := e2 l _ h1
    have nrl : r ≠ l := fun z => by rw [z] at f2; rw [f2] at h1; cases h1
    refine for_rev (D := { nx := C, rt := Q }) (xs := us) (fun i σ' H' => ∃ x4 x5 x6 ts fs, σ' = [some v, some (.ref f_of_simple), some (.ref f_of_pair), some (.ref l), x4, x5, x6] ∧ Same H H' ∧ KeepT K H2 H' ∧ H' r = some (.lst us) ∧ H' l = some (.lst ts) ∧ Paired (fun u s => R H' s u) ts fs.reverse ∧ fs.flatMap Tm.pre = t.pre.drop (us.length - i) ∧ ts.length ≤ i)
      ⟨none, none, none, [], [], rfl, e1.trans e2, fun _ _ z => z, h2, l2, .nil, ?_, Nat.le_refl _⟩ (fun i σ' H' _ ⟨x4, x5, x6, ts, fs, _, _, _, h, _⟩ => SqL.of h) (fun i x σ' H' hi hx hI => ?_) (fun σ' H' hI => ?_)
    · rw [Nat.sub_zero, lu, List.drop_length]; rfl
    · obtain ⟨x4, x5, x6, ts, fs, rfl, e, kk, hr', hl', hp', hf, hn⟩ := hI
      obtain ⟨s', hs', hxT⟩ := paired_get hu hx
      have hj : us.length - 1 - i < t.pre.length := by rw [← lu]; omega
      obtain ⟨s2, rest, g1, g2, g3⟩ := pre_drop t _ hj
      rw [hs'] at g1
      cases g1
      have hxT' := hxT.keep kk
      have jH' : J H' := hJ _ _ (KeepT.trans (e1.trans e2).keepT kk) j0
      have ej : us.length - i = us.length - 1 - i + 1 := by omega
      have dr : t.pre.drop (us.length - i) = s'.kids.flatMap Tm.pre ++ rest := by
        have := congrArg List.tail g2
        rw [List.tail_drop, ← ej, s'.pre_eq, List.cons_append, List.tail_cons] at this
        exact this
      rw [dr] at hf
      have eu : us.length - (i + 1) = us.length - 1 - i := by omega
      have lp : t.pre.length ≤ 400 := by rw [Tm.pre_len]; omega
      have fin : ∀ (ts' : List V) (fs' : List Tm) (H4 : Hp) (u : V), Same H H4 → KeepT K H2 H4 → H4 r = some (.lst us) → H4 l = some (.lst ts') → Paired (fun u s => R H4 s u) ts' fs'.reverse → ts'.length ≤ i → fs'.flatMap Tm.pre = rest → R H4 s' u →
          Same H (upd H4 l (HO.lst (ts' ++ [u]))) ∧ KeepT K H2 (upd H4 l (HO.lst (ts' ++ [u]))) ∧ upd H4 l (HO.lst (ts' ++ [u])) r = some (HO.lst us) ∧
            ∃ x, upd H4 l (HO.lst (ts' ++ [u])) l = some (HO.lst x) ∧ ∃ x_1, Paired (fun u' s => R (upd H4 l (HO.lst (ts' ++ [u]))) s u') x x_1.reverse ∧ List.flatMap Tm.pre x_1 = List.drop (us.length - (i + 1)) t.pre ∧ x.length ≤ i + 1 := fun ts' fs' H4 u a1 a2 a3 a4 a5 a6 a7 a8 => by
        refine ⟨a1.write f1, a2.trans (keepT_lst a4), by rw [upd_ne nrl]; exact a3, _, upd_same, s' :: fs', ?_, ?_, ?_⟩
        · rw [List.reverse_cons]; exact paired_app (hpm (keepT_lst a4) a5) (.cons (hR _ _ _ _ (keepT_lst a4) a8) .nil)
        · rw [List.flatMap_cons, a7, eu, g2]
        · rw [List.length_append, List.length_singleton]; omega
      walk_at "rd"
      cases s' with
      | low =>
        obtain ⟨a, rfl, hs⟩ := isT_low.mp hxT'
        refine ⟨a, rfl, _, hs, _, rfl, _, .inr (t_PAIRED H'), rfl, rfl, ?_⟩
        rw [if_neg (by decide)]
        refine ⟨.inl ⟨rfl, _, SqL.of hl'⟩, _, .low, rfl, jH', hxT', rfl, trivial, fun u H3 e3 ru => ?_⟩
        exact ⟨_, e3 _ _ hl', small1M (by omega), fin ts fs H3 u (e.trans e3) (kk.trans e3.keepT) (e3 _ _ hr') (e3 _ _ hl') (hpm e3.keepT hp') hn hf ru⟩
      | ltr w =>
        obtain ⟨a, rfl, hs⟩ := isT_ltr.mp hxT'
        refine ⟨a, rfl, _, hs, _, rfl, _, .inr (t_PAIRED H'), rfl, rfl, ?_⟩
        rw [if_neg (by decide)]
        refine ⟨.inl ⟨rfl, _, SqL.of hl'⟩, _, .ltr w, rfl, jH', hxT', rfl, pre_mem_ok htk (List.mem_of_getElem? hs'), fun u H3 e3 ru => ?_⟩
        exact ⟨_, e3 _ _ hl', small1M (by omega), fin ts fs H3 u (e.trans e3) (kk.trans e3.keepT) (e3 _ _ hr') (e3 _ _ hl') (hpm e3.keepT hp') hn hf ru⟩
      | nd kd a b =>
        obtain ⟨p, vx, vy, rfl, hs, hx1, hy1⟩ := isT_nd.mp hxT'
        refine ⟨p, rfl, _, hs, _, rfl, _, .inr (t_PAIRED H'), rfl, rfl, ?_⟩
        rw [if_pos (by cases kd <;> decide)]
        rw [show Tm.kids (.nd kd a b) = [a, b] from rfl, List.flatMap_cons, List.flatMap_cons, List.flatMap_nil, List.append_nil, List.append_assoc] at hf
        obtain ⟨fs1, rfl, hf1⟩ := forest_head hf
        obtain ⟨fs2, rfl, hf2⟩ := forest_head hf1
        rw [List.reverse_cons, List.reverse_cons] at hp'
        obtain ⟨ts1, u1, rfl, hp1, r1⟩ := paired_snoc_inv hp'
        obtain ⟨ts2, u2, rfl, hp2, r2⟩ := paired_snoc_inv hp1
        rw [List.length_append, List.length_append, List.length_singleton, List.length_singleton] at hn
        refine ⟨.inl ⟨rfl, _, SqL.of hl'⟩, _, hl', u1, by simp, ?_⟩
        rw [List.dropLast_concat]
        refine ⟨.inl ⟨rfl, _, SqL.of upd_same⟩, _, upd_same, u2, by simp, ?_⟩
        rw [List.dropLast_concat, upd_upd]
        have k1 : KeepT K H' (upd H' l (.lst ts2)) := keepT_lst hl'
        have hr1 : upd H' l (.lst ts2) r = some (.lst us) := by rw [upd_ne nrl]; exact hr'
        refine ⟨.inl ⟨rfl, _, SqL.of upd_same⟩, p, rfl, _, k1 _ _ hs, _, rfl, kd, a, b, u1, u2, rfl, hJ _ _ k1 jH', hR _ _ _ _ k1 r1, hR _ _ _ _ k1 r2, by omega, fun u H3 e3 ru => ?_⟩
        exact ⟨_, e3 _ _ upd_same, small1M (by omega), fin ts2 fs2 H3 u ((e.write f1).trans e3) ((kk.trans k1).trans e3.keepT) (e3 _ _ hr1) (e3 _ _ upd_same) (hpm (k1.trans e3.keepT) hp2) (by omega) hf2 ru⟩
    · obtain ⟨x4, x5, x6, ts, fs, rfl, e, kk, hr', hl', hp', hf, hn⟩ := hI
      rw [Nat.sub_self, List.drop_zero, ← List.append_nil t.pre] at hf
      obtain ⟨fs', rfl, hf'⟩ := forest_head hf
      rw [forest_nil hf'] at hp'
      cases hp' with
      | cons hu' hnil =>
        cases hnil
        exact hC _ _ ⟨x4, x5, x6, _, rfl, e, hl', hu'⟩
  rintro σ2 H2 ⟨x4, x5, x6, u, rfl, e2, h2, ru⟩
  walk_at "rd"
  exact ⟨_, SqL.of h2, u, rfl, q _ _ e2 ru⟩
end
end KLaw


set_option Elab.async false
set_option linter.all false
set_option maxRecDepth 100000
set_option maxHeartbeats 2000000
/-! what the head takes from the text of a def that makes functions -/
namespace L2
open PySem PySem.Spec PyProof.Rows
structure CodeFs (vs : Array Value) (T : Addr) : Prop where
  a : vs[11]? = some (.ref T)
  b : vs.getD 11 .none = .ref T
  c : ∃ file tf, vs.getD 18 .none = .str file tf
  d : ∃ flags tg, vs.getD 7 .none = .int flags tg
  e : ∃ inF, vs.getD 9 .none = .bool inF
  f : ∃ text tt, vs.getD 10 .none = .int text tt
theorem codeHd_of {K : PySem.W.Frag} {c T : Addr} {od : Option Addr} {vs : Array Value} {sl : Array (Option Value)} (l : K.lookup c = some ⟨.type "code", od, .fields vs, sl⟩) (x : CodeFs vs T) (n : c ≠ T) (h : Heap) (k : K.In h) : PySem.W.CodeHd h c T := by
  obtain ⟨file, tf, h1⟩ := x.c
  obtain ⟨flags, tg, h2⟩ := x.d
  obtain ⟨inF, h3⟩ := x.e
  obtain ⟨text, tt, h4⟩ := x.f
  exact ⟨_, vs, file, tf, flags, tg, inF, text, tt, k _ _ l, rfl, rfl, x.a, x.b, h1, h2, h3, h4, n⟩
theorem funT_mk {K : PySem.W.Frag} {x qual : Str} {st : Stmt} {f : Addr} {oc : Value} {od an : Option Addr} {osl : Array (Option Value)} {kV doc pm ct : Value} {c T : Addr} (l : K.lookup f = some ⟨oc, od, .func (PySem.W.fnOf x qual (defArgs st) (defBody st) (defScope st) .none kV doc pm an (.ref c) ct), osl⟩)
    (cc : PySem.W.codeIn K (.ref c) qual = true) (k : PySem.W.keepIn K (.ref f) = true) (hC : ∀ h, K.In h → PySem.W.CodeHd h c T) : FunT K x qual st f (PySem.W.fnOf x qual (defArgs st) (defBody st) (defScope st) .none kV doc pm an (.ref c) ct) T := ⟨⟨oc, od, kV, doc, pm, an, c, ct, osl, rfl, l, cc, hC⟩, k⟩
/-- the table of a def's code -/
theorem isTable_of {K : PySem.W.Frag} {h : Heap} {x : Str} {f c T : Addr} {oc : Value} {od od' an : Option Addr} {osl sl : Array (Option Value)} {kV doc pm ct : Value} {vs : Array Value} {params : Arguments} {body : List Stmt} {scope : Scope} {qual : Str} (KX : K.In h)
    (a : PySem.W.nsIn K mainGlobals x = some (some (.ref f))) (l : K.lookup f = some ⟨oc, od, .func (PySem.W.fnOf x qual params body scope .none kV doc pm an (.ref c) ct), osl⟩) (e : K.lookup c = some ⟨.type "code", od', .fields vs, sl⟩) (v : vs[11]? = some (.ref T)) : isCodeTable h T :=
  ⟨c, _, vs, KX _ _ e, rfl, rfl, v⟩
end L2

set_option Elab.async false
set_option linter.all false
set_option maxRecDepth 100000
set_option maxHeartbeats 4000000
namespace KLaw
open PySem L2 Ken
theorem all_mk {l : PySem.W.OpenLaw} {w : World} {K0 K : PySem.W.Frag} {h : Heap} {mg : Str → Option Value} {fa bm T_placed : Addr} (X : K0.In h) (G : h.Ns mainGlobals mg) (hfa : mg "law" = some (.ref fa)) (kle : ∀ a o, K0.lookup a = some o → K.lookup a = some o) (hblt : BltK K mg bm) (nT : ∀ p ∈ [T_placed], bm ≠ p)
    {f__law_mix : Addr} {od__law_mix an__law_mix : Option Addr} {sl__law_mix : Array (Option Value)} {oc__law_mix kV__law_mix dc__law_mix pm__law_mix cd__law_mix ct__law_mix : Value}
    {f__law_cell : Addr} {od__law_cell an__law_cell : Option Addr} {sl__law_cell : Array (Option Value)} {oc__law_cell kV__law_cell dc__law_cell pm__law_cell cd__law_cell ct__law_cell : Value}
    {f__law_words : Addr} {od__law_words an__law_words : Option Addr} {sl__law_words : Array (Option Value)} {oc__law_words kV__law_words dc__law_words pm__law_words cd__law_words ct__law_words : Value}
    {f__law_statement : Addr} {od__law_statement an__law_statement : Option Addr} {sl__law_statement : Array (Option Value)} {oc__law_statement kV__law_statement dc__law_statement pm__law_statement cd__law_statement ct__law_statement : Value}
    {f_within : Addr} {od_within an_within : Option Addr} {sl_within : Array (Option Value)} {oc_within kV_within dc_within pm_within cd_within ct_within : Value}
    {f_pieces : Addr} {od_pieces an_pieces : Option Addr} {sl_pieces : Array (Option Value)} {oc_pieces kV_pieces dc_pieces pm_pieces cd_pieces ct_pieces : Value}
    {f_folded : Addr} {od_folded an_folded : Option Addr} {sl_folded : Array (Option Value)} {oc_folded kV_folded dc_folded pm_folded cd_folded ct_folded : Value}
    {f_placed ca_placed : Addr} {od_placed an_placed od2_placed : Option Addr} {sl_placed sl2_placed : Array (Option Value)} {vs_placed : Array Value} {oc_placed kV_placed dc_placed pm_placed ct_placed : Value}
    {f__law_same : Addr} {od__law_same an__law_same : Option Addr} {sl__law_same : Array (Option Value)} {oc__law_same kV__law_same dc__law_same pm__law_same cd__law_same ct__law_same : Value}
    {f__law_fits : Addr} {od__law_fits an__law_fits : Option Addr} {sl__law_fits : Array (Option Value)} {oc__law_fits kV__law_fits dc__law_fits pm__law_fits cd__law_fits ct__law_fits : Value}
    {f_law : Addr} {od_law an_law : Option Addr} {sl_law : Array (Option Value)} {oc_law kV_law dc_law pm_law cd_law ct_law : Value}
    {aPAIRED : Addr} {od_PAIRED : Option Addr} {sl_PAIRED : Array (Option Value)} {n_PAIRED tk_PAIRED_0 tk_PAIRED_1 tk_PAIRED_2 : Nat}
    (a__law_mix : PySem.W.nsIn K0 mainGlobals "_law_mix" = some (some (.ref f__law_mix))) (l__law_mix : K0.lookup f__law_mix = some ⟨oc__law_mix, od__law_mix, .func (PySem.W.fnOf "_law_mix" "_law_mix" (defArgs s__law_mix) (defBody s__law_mix) (defScope s__law_mix) .none kV__law_mix dc__law_mix pm__law_mix an__law_mix cd__law_mix ct__law_mix), sl__law_mix⟩) (c__law_mix : PySem.W.codeIn K0 cd__law_mix "_law_mix" = true) (k__law_mix : PySem.W.keepIn K0 (.ref f__law_mix) = true)
    (a__law_cell : PySem.W.nsIn K0 mainGlobals "_law_cell" = some (some (.ref f__law_cell))) (l__law_cell : K0.lookup f__law_cell = some ⟨oc__law_cell, od__law_cell, .func (PySem.W.fnOf "_law_cell" "_law_cell" (defArgs s__law_cell) (defBody s__law_cell) (defScope s__law_cell) .none kV__law_cell dc__law_cell pm__law_cell an__law_cell cd__law_cell ct__law_cell), sl__law_cell⟩) (c__law_cell : PySem.W.codeIn K0 cd__law_cell "_law_cell" = true) (k__law_cell : PySem.W.keepIn K0 (.ref f__law_cell) = true)
    (a__law_words : PySem.W.nsIn K0 mainGlobals "_law_words" = some (some (.ref f__law_words))) (l__law_words : K0.lookup f__law_words = some ⟨oc__law_words, od__law_words, .func (PySem.W.fnOf "_law_words" "_law_words" (defArgs s__law_words) (defBody s__law_words) (defScope s__law_words) .none kV__law_words dc__law_words pm__law_words an__law_words cd__law_words ct__law_words), sl__law_words⟩) (c__law_words : PySem.W.codeIn K0 cd__law_words "_law_words" = true) (k__law_words : PySem.W.keepIn K0 (.ref f__law_words) = true)
    (a__law_statement : PySem.W.nsIn K0 mainGlobals "_law_statement" = some (some (.ref f__law_statement))) (l__law_statement : K0.lookup f__law_statement = some ⟨oc__law_statement, od__law_statement, .func (PySem.W.fnOf "_law_statement" "_law_statement" (defArgs s__law_statement) (defBody s__law_statement) (defScope s__law_statement) .none kV__law_statement dc__law_statement pm__law_statement an__law_statement cd__law_statement ct__law_statement), sl__law_statement⟩) (c__law_statement : PySem.W.codeIn K0 cd__law_statement "_law_statement" = true) (k__law_statement : PySem.W.keepIn K0 (.ref f__law_statement) = true)
    (a_within : PySem.W.nsIn K0 mainGlobals "within" = some (some (.ref f_within))) (l_within : K0.lookup f_within = some ⟨oc_within, od_within, .func (PySem.W.fnOf "within" "within" (defArgs s_within) (defBody s_within) (defScope s_within) .none kV_within dc_within pm_within an_within cd_within ct_within), sl_within⟩) (c_within : PySem.W.codeIn K0 cd_within "within" = true) (k_within : PySem.W.keepIn K0 (.ref f_within) = true)
    (a_pieces : PySem.W.nsIn K0 mainGlobals "pieces" = some (some (.ref f_pieces))) (l_pieces : K0.lookup f_pieces = some ⟨oc_pieces, od_pieces, .func (PySem.W.fnOf "pieces" "pieces" (defArgs s_pieces) (defBody s_pieces) (defScope s_pieces) .none kV_pieces dc_pieces pm_pieces an_pieces cd_pieces ct_pieces), sl_pieces⟩) (c_pieces : PySem.W.codeIn K0 cd_pieces "pieces" = true) (k_pieces : PySem.W.keepIn K0 (.ref f_pieces) = true)
    (a_folded : PySem.W.nsIn K0 mainGlobals "folded" = some (some (.ref f_folded))) (l_folded : K0.lookup f_folded = some ⟨oc_folded, od_folded, .func (PySem.W.fnOf "folded" "folded" (defArgs s_folded) (defBody s_folded) (defScope s_folded) .none kV_folded dc_folded pm_folded an_folded cd_folded ct_folded), sl_folded⟩) (c_folded : PySem.W.codeIn K0 cd_folded "folded" = true) (k_folded : PySem.W.keepIn K0 (.ref f_folded) = true)
    (a_placed : PySem.W.nsIn K0 mainGlobals "placed" = some (some (.ref f_placed))) (l_placed : K0.lookup f_placed = some ⟨oc_placed, od_placed, .func (PySem.W.fnOf "placed" "placed" (defArgs s_placed) (defBody s_placed) (defScope s_placed) .none kV_placed dc_placed pm_placed an_placed (.ref ca_placed) ct_placed), sl_placed⟩) (c_placed : PySem.W.codeIn K0 (.ref ca_placed) "placed" = true) (k_placed : PySem.W.keepIn K0 (.ref f_placed) = true) (e_placed : K0.lookup ca_placed = some ⟨.type "code", od2_placed, .fields vs_placed, sl2_placed⟩) (x_placed : CodeFs vs_placed T_placed) (n_placed : ca_placed ≠ T_placed) (v_placed : mainGlobals ≠ T_placed)
    (a__law_same : PySem.W.nsIn K0 mainGlobals "_law_same" = some (some (.ref f__law_same))) (l__law_same : K0.lookup f__law_same = some ⟨oc__law_same, od__law_same, .func (PySem.W.fnOf "_law_same" "_law_same" (defArgs s__law_same) (defBody s__law_same) (defScope s__law_same) .none kV__law_same dc__law_same pm__law_same an__law_same cd__law_same ct__law_same), sl__law_same⟩) (c__law_same : PySem.W.codeIn K0 cd__law_same "_law_same" = true) (k__law_same : PySem.W.keepIn K0 (.ref f__law_same) = true)
    (a__law_fits : PySem.W.nsIn K0 mainGlobals "_law_fits" = some (some (.ref f__law_fits))) (l__law_fits : K0.lookup f__law_fits = some ⟨oc__law_fits, od__law_fits, .func (PySem.W.fnOf "_law_fits" "_law_fits" (defArgs s__law_fits) (defBody s__law_fits) (defScope s__law_fits) .none kV__law_fits dc__law_fits pm__law_fits an__law_fits cd__law_fits ct__law_fits), sl__law_fits⟩) (c__law_fits : PySem.W.codeIn K0 cd__law_fits "_law_fits" = true) (k__law_fits : PySem.W.keepIn K0 (.ref f__law_fits) = true)
    (a_law : PySem.W.nsIn K0 mainGlobals "law" = some (some (.ref f_law))) (l_law : K0.lookup f_law = some ⟨oc_law, od_law, .func (PySem.W.fnOf "law" "law" (defArgs s_law) (defBody s_law) (defScope s_law) .none kV_law dc_law pm_law an_law cd_law ct_law), sl_law⟩) (c_law : PySem.W.codeIn K0 cd_law "law" = true) (k_law : PySem.W.keepIn K0 (.ref f_law) = true)
    (g_PAIRED : PySem.W.nsIn K0 mainGlobals "PAIRED" = some (some (.ref aPAIRED))) (o_PAIRED : K0.lookup aPAIRED = some ⟨.type "tuple", od_PAIRED, .seq #[.str "both" tk_PAIRED_0, .str "one" tk_PAIRED_1, .str "then" tk_PAIRED_2] n_PAIRED, sl_PAIRED⟩)
    (z_len : PySem.W.nsIn K0 mainGlobals "len" = some none)
    (z_range : PySem.W.nsIn K0 mainGlobals "range" = some none)
    (z_isinstance : PySem.W.nsIn K0 mainGlobals "isinstance" = some none)
    (z_tuple : PySem.W.nsIn K0 mainGlobals "tuple" = some none)
    (z_zip : PySem.W.nsIn K0 mainGlobals "zip" = some none)
    (z_min : PySem.W.nsIn K0 mainGlobals "min" = some none)
    (z_str : PySem.W.nsIn K0 mainGlobals "str" = some none)
    (z_int : PySem.W.nsIn K0 mainGlobals "int" = some none)
    (z_list : PySem.W.nsIn K0 mainGlobals "list" = some none)
    (z_all : PySem.W.nsIn K0 mainGlobals "all" = some none)
    (z_bool : PySem.W.nsIn K0 mainGlobals "bool" = some none)
    (z_reversed : PySem.W.nsIn K0 mainGlobals "reversed" = some none) :
    ∃ fd : FuncData, (∀ (s : Shared) (v : Value), BindsTo s fd ⟨[v], []⟩ [("_law_script", v)]) ∧ ∀ base : Heap, K.In base → base.Ns mainGlobals mg → FnOk l.prog w K mg base CX0 34 fa fd ["_law_script"] (sp_law61 T_placed K) := by
  have e := hfa.symm.trans (PySem.W.mg_of X G a_law)
  cases e
  have l__law_mix := kle _ _ l__law_mix
  have c__law_mix := codeIn_le kle c__law_mix
  have k__law_mix := keepIn_fn l__law_mix
  have m__law_mix := PySem.W.mg_of X G a__law_mix
  have b__law_mix := (fun_mk (st := s__law_mix) l__law_mix c__law_mix k__law_mix).binds (ps := ["_law_cell_here", "_law_k"]) fun _ _ _ _ _ _ us hl => match us, hl with | [_, _], _ => rfl
  have F__law_mix := fun_mk (st := s__law_mix) l__law_mix c__law_mix k__law_mix
  have l__law_cell := kle _ _ l__law_cell
  have c__law_cell := codeIn_le kle c__law_cell
  have k__law_cell := keepIn_fn l__law_cell
  have m__law_cell := PySem.W.mg_of X G a__law_cell
  have b__law_cell := (fun_mk (st := s__law_cell) l__law_cell c__law_cell k__law_cell).binds (ps := ["_law_script", "_law_k"]) fun _ _ _ _ _ _ us hl => match us, hl with | [_, _], _ => rfl
  have F__law_cell := fun_mk (st := s__law_cell) l__law_cell c__law_cell k__law_cell
  have l__law_words := kle _ _ l__law_words
  have c__law_words := codeIn_le kle c__law_words
  have k__law_words := keepIn_fn l__law_words
  have m__law_words := PySem.W.mg_of X G a__law_words
  have b__law_words := (fun_mk (st := s__law_words) l__law_words c__law_words k__law_words).binds (ps := ["_law_cell_here"]) fun _ _ _ _ _ _ us hl => match us, hl with | [_], _ => rfl
  have F__law_words := fun_mk (st := s__law_words) l__law_words c__law_words k__law_words
  have l__law_statement := kle _ _ l__law_statement
  have c__law_statement := codeIn_le kle c__law_statement
  have k__law_statement := keepIn_fn l__law_statement
  have m__law_statement := PySem.W.mg_of X G a__law_statement
  have b__law_statement := (fun_mk (st := s__law_statement) l__law_statement c__law_statement k__law_statement).binds (ps := ["_law_cell_here", "_law_many", "_law_words_here"]) fun _ _ _ _ _ _ us hl => match us, hl with | [_, _, _], _ => rfl
  have F__law_statement := fun_mk (st := s__law_statement) l__law_statement c__law_statement k__law_statement
  have l_within := kle _ _ l_within
  have c_within := codeIn_le kle c_within
  have k_within := keepIn_fn l_within
  have m_within := PySem.W.mg_of X G a_within
  have b_within := (fun_mk (st := s_within) l_within c_within k_within).binds (ps := ["statement"]) fun _ _ _ _ _ _ us hl => match us, hl with | [_], _ => rfl
  have F_within := fun_mk (st := s_within) l_within c_within k_within
  have l_pieces := kle _ _ l_pieces
  have c_pieces := codeIn_le kle c_pieces
  have k_pieces := keepIn_fn l_pieces
  have m_pieces := PySem.W.mg_of X G a_pieces
  have b_pieces := (fun_mk (st := s_pieces) l_pieces c_pieces k_pieces).binds (ps := ["statement"]) fun _ _ _ _ _ _ us hl => match us, hl with | [_], _ => rfl
  have F_pieces := fun_mk (st := s_pieces) l_pieces c_pieces k_pieces
  have l_folded := kle _ _ l_folded
  have c_folded := codeIn_le kle c_folded
  have k_folded := keepIn_fn l_folded
  have m_folded := PySem.W.mg_of X G a_folded
  have b_folded := (fun_mk (st := s_folded) l_folded c_folded k_folded).binds (ps := ["statement", "of_simple", "of_pair"]) fun _ _ _ _ _ _ us hl => match us, hl with | [_, _, _], _ => rfl
  have F_folded := fun_mk (st := s_folded) l_folded c_folded k_folded
  have m_placed := PySem.W.mg_of X G a_placed
  have l_placed := kle _ _ l_placed
  have c_placed := codeIn_le kle c_placed
  have k_placed := keepIn_fn l_placed
  have e_placed := kle _ _ e_placed
  have b_placed := (fun_mk (st := s_placed) l_placed c_placed k_placed).binds (ps := ["statement", "word", "other"]) fun _ _ _ _ _ _ us hl => match us, hl with | [_, _, _], _ => rfl
  have F_placed := funT_mk (st := s_placed) l_placed c_placed k_placed (codeHd_of e_placed x_placed n_placed)
  have hB_placed := fun h k => hblt.at (nT T_placed (by simp)) h k
  have l__law_same := kle _ _ l__law_same
  have c__law_same := codeIn_le kle c__law_same
  have k__law_same := keepIn_fn l__law_same
  have m__law_same := PySem.W.mg_of X G a__law_same
  have b__law_same := (fun_mk (st := s__law_same) l__law_same c__law_same k__law_same).binds (ps := ["_law_found", "_law_due"]) fun _ _ _ _ _ _ us hl => match us, hl with | [_, _], _ => rfl
  have F__law_same := fun_mk (st := s__law_same) l__law_same c__law_same k__law_same
  have l__law_fits := kle _ _ l__law_fits
  have c__law_fits := codeIn_le kle c__law_fits
  have k__law_fits := keepIn_fn l__law_fits
  have m__law_fits := PySem.W.mg_of X G a__law_fits
  have b__law_fits := (fun_mk (st := s__law_fits) l__law_fits c__law_fits k__law_fits).binds (ps := ["_law_found", "_law_statement_here", "_law_word", "_law_other"]) fun _ _ _ _ _ _ us hl => match us, hl with | [_, _, _, _], _ => rfl
  have F__law_fits := fun_mk (st := s__law_fits) l__law_fits c__law_fits k__law_fits
  have l_law := kle _ _ l_law
  have c_law := codeIn_le kle c_law
  have k_law := keepIn_fn l_law
  have F_law := fun_mk (st := s_law) l_law c_law k_law
  have m_PAIRED := PySem.W.mg_of X G g_PAIRED
  have o_PAIRED := kle _ _ o_PAIRED
  have t_PAIRED : ∀ H, SqT K H aPAIRED [.str "both", .str "one", .str "then"] := fun H => .inr ⟨_, _, _, o_PAIRED, rfl, rfl, (show 3 ≤ sizeLine by decide), .cons ⟨_, rfl⟩ (.cons ⟨_, rfl⟩ (.cons ⟨_, rfl⟩ (.nil)))⟩
  have m_len := PySem.W.mg_none_of X G z_len
  have m_range := PySem.W.mg_none_of X G z_range
  have m_isinstance := PySem.W.mg_none_of X G z_isinstance
  have m_tuple := PySem.W.mg_none_of X G z_tuple
  have m_zip := PySem.W.mg_none_of X G z_zip
  have m_min := PySem.W.mg_none_of X G z_min
  have m_str := PySem.W.mg_none_of X G z_str
  have m_int := PySem.W.mg_none_of X G z_int
  have m_list := PySem.W.mg_none_of X G z_list
  have m_all := PySem.W.mg_none_of X G z_all
  have m_bool := PySem.W.mg_none_of X G z_bool
  have m_reversed := PySem.W.mg_none_of X G z_reversed
  refine ⟨PySem.W.fnOf "law" "law" (defArgs s_law) (defBody s_law) (defScope s_law) .none kV_law dc_law pm_law an_law cd_law ct_law, fun s v => .of_eq rfl, fun base _ _ => ?_⟩
  have G__law_mix := ok__law_mix (P := l.prog) (w := w) (K := K) (mg := mg) (base := base) (k := 0) F__law_mix
  have G__law_cell := ok__law_cell (P := l.prog) (w := w) (K := K) (mg := mg) (base := base) (k := 1) F__law_cell (G__law_mix.mono (by decide)) m__law_mix k__law_mix b__law_mix m_len
  have G__law_words := ok__law_words (P := l.prog) (w := w) (K := K) (mg := mg) (base := base) (k := 1) F__law_words (G__law_mix.mono (by decide)) m__law_mix k__law_mix b__law_mix m_range
  have G__law_statement := all__law_statement (P := l.prog) (w := w) (K := K) (mg := mg) (base := base) F__law_statement m__law_statement b__law_statement (fun k => ok__law_mix F__law_mix) m__law_mix k__law_mix b__law_mix m_len 32
  have G_within := ok_within (P := l.prog) (w := w) (K := K) (mg := mg) (base := base) (k := 0) F_within m_PAIRED t_PAIRED
  have G_pieces := ok_pieces (P := l.prog) (w := w) (K := K) (mg := mg) (base := base) (k := 1) F_pieces (G_within.mono (by decide)) m_within k_within b_within
  have G_folded := True.intro
  have G_placed := ok_placed (P := l.prog) (w := w) (K := K) (mg := mg) (base := base) (j := 2) F_placed hB_placed v_placed m_folded k_folded b_folded (fun K' base' J R B f1 f2 fd1 fd2 kle hJ hR G1 k1 b1 G2 k2 b2 => ok_foldedH (P := l.prog) (w := w) (K := K') (mg := mg) (base := base') (k := 3) hJ hR (F_folded.le kle) (FnOk.mono (ok_pieces (P := l.prog) (w := w) (K := K') (mg := mg) (base := base') (k := 1) (F_pieces.le kle) (ok_within (P := l.prog) (w := w) (K := K') (mg := mg) (base := base') (k := 0) (F_within.le kle) m_PAIRED (fun H => (t_PAIRED H).le kle)) m_within (F_within.le kle).kp (b_within.le kle)) (by decide)) m_pieces (F_pieces.le kle).kp (b_pieces.le kle) m_PAIRED (fun H => (t_PAIRED H).le kle) m_reversed G1 k1 b1 G2 k2 b2)
  have G__law_same := all__law_same (P := l.prog) (w := w) (K := K) (mg := mg) (base := base) F__law_same m__law_same b__law_same m_isinstance m_str m_int m_list m_all m_tuple m_len m_bool m_zip 8
  have G__law_fits := ok__law_fits (P := l.prog) (w := w) (K := K) (mg := mg) (base := base) (k := 9) F__law_fits (G__law_same.mono (by decide)) m__law_same k__law_same b__law_same m_len m_isinstance m_tuple
  have G_law := ok_law (P := l.prog) (w := w) (K := K) (mg := mg) (base := base) (k := 33) F_law (G__law_words.mono (by decide)) m__law_words k__law_words b__law_words (G__law_statement.mono (by decide)) m__law_statement k__law_statement b__law_statement (G__law_cell.mono (by decide)) m__law_cell k__law_cell b__law_cell (G__law_mix.mono (by decide)) m__law_mix k__law_mix b__law_mix (G_placed.mono (by decide)) m_placed k_placed b_placed (G__law_fits.mono (by decide)) m__law_fits k__law_fits b__law_fits m_range m_zip m_min m_len
  exact G_law
theorem walk {T_placed : Addr} {l : PySem.W.OpenLaw} {q : Program} {loose : List Str} {XP : (Str → Option Value) → Heap → Prop} {d : DefRec} {as : List Addr} {K : Params → PySem.W.Frag} {ee : ∀ (P : Params), as = List.map (fun x => x.fst) (K P)} (hn : l.most = some 63) (hdf : d.params.defaults = []) (hts : ∀ p ∈ [T_placed], p ∉ as)
    (hct : ∀ (w : World) (h : Heap), (K w.params).In h → ∀ p ∈ [T_placed], isCodeTable h p)
    (F : ∀ (w : World) (mg : Str → Option Value) (fa : Addr) (h : Heap) (K' : PySem.W.Frag) (bm : Addr), (K w.params).In h → h.Ns mainGlobals mg → mg d.name = some (.ref fa) → (∀ a o, (K w.params).lookup a = some o → K'.lookup a = some o) → BltK K' mg bm → (∀ p ∈ [T_placed], bm ≠ p) →
      ∃ fd : FuncData, (∀ (s : Shared) (u : Value), BindsTo s fd ⟨[u], []⟩ [("_law_script", u)]) ∧ ∀ base : Heap, K'.In base → base.Ns mainGlobals mg → FnOk l.prog w K' mg base CX0 34 fa fd ["_law_script"] (sp_law61 T_placed K')) :
    PySem.W.WalkO q loose XP (PySem.W.kmHook K as ee [T_placed]).says l.row.toRowW d [] (fun f vs => PySem.call f vs) :=
  L2.walk_ofT (n := 63) (k := 34) (x := "_law_script") (CX := CX0) (sp := fun K => sp_law61 T_placed K) hn (by decide) hdf ⟨rfl, by decide, by decide⟩ hts hct F (fun _ _ a ns hl hO hS => ⟨a, ns, rfl, hS, hl, TabOk.new (hO _ (by simp)), fun _ => rfl⟩) fun _ _ _ _ z => z
end KLaw
open PySem PySem.W PyProof.Rows
set_option maxRecDepth 100000 in
set_option maxHeartbeats 0 in
theorem PySem.Challenge.cw_ken_k61_placed_holds : PySem.Challenge.rw_ken_k61_placed.Holds := by
  w_on; o_law; k_head; (case hw => w_witness2)
  k_fill
  refine KLaw.walk (l := PySem.Challenge.rw_ken_k61_placed) rfl rfl (by decide) ?T ?F
  case T =>
    intro w h KX p hp
    obtain rfl : p = _ := List.mem_singleton.mp hp
    refine' L2.isTable_of (x := "placed") KX ?ta ?tl ?te ?tv
    (case ta => k_is)
    (case tl => k_is)
    (case te => k_is)
    (case tv => rfl)
  case F =>
    intro w mg fa h K' bm KX G hmg kle hb nT
    refine' KLaw.all_mk KX G hmg kle hb nT ?a__law_mix ?l__law_mix ?c__law_mix ?k__law_mix ?a__law_cell ?l__law_cell ?c__law_cell ?k__law_cell ?a__law_words ?l__law_words ?c__law_words ?k__law_words ?a__law_statement ?l__law_statement ?c__law_statement ?k__law_statement ?a_within ?l_within ?c_within ?k_within ?a_pieces ?l_pieces ?c_pieces ?k_pieces ?a_folded ?l_folded ?c_folded ?k_folded ?a_placed ?l_placed ?c_placed ?k_placed ?e_placed ?x_placed ?n_placed ?v_placed ?a__law_same ?l__law_same ?c__law_same ?k__law_same ?a__law_fits ?l__law_fits ?c__law_fits ?k__law_fits ?a_law ?l_law ?c_law ?k_law ?g_PAIRED ?o_PAIRED ?z_len ?z_range ?z_isinstance ?z_tuple ?z_zip ?z_min ?z_str ?z_int ?z_list ?z_all ?z_bool ?z_reversed
    (case a__law_mix => k_is)
    (case l__law_mix => k_is)
    (case c__law_mix => k_is)
    (case k__law_mix => k_is)
    (case a__law_cell => k_is)
    (case l__law_cell => k_is)
    (case c__law_cell => k_is)
    (case k__law_cell => k_is)
    (case a__law_words => k_is)
    (case l__law_words => k_is)
    (case c__law_words => k_is)
    (case k__law_words => k_is)
    (case a__law_statement => k_is)
    (case l__law_statement => k_is)
    (case c__law_statement => k_is)
    (case k__law_statement => k_is)
    (case a_within => k_is)
    (case l_within => k_is)
    (case c_within => k_is)
    (case k_within => k_is)
    (case a_pieces => k_is)
    (case l_pieces => k_is)
    (case c_pieces => k_is)
    (case k_pieces => k_is)
    (case a_folded => k_is)
    (case l_folded => k_is)
    (case c_folded => k_is)
    (case k_folded => k_is)
    (case a_placed => k_is)
    (case l_placed => k_is)
    (case c_placed => k_is)
    (case k_placed => k_is)
    (case e_placed => k_is)
    (case x_placed => exact ⟨rfl, rfl, ⟨_, _, rfl⟩, ⟨_, _, rfl⟩, ⟨_, rfl⟩, ⟨_, _, rfl⟩⟩)
    (case n_placed => decide)
    (case v_placed => decide)
    (case a__law_same => k_is)
    (case l__law_same => k_is)
    (case c__law_same => k_is)
    (case k__law_same => k_is)
    (case a__law_fits => k_is)
    (case l__law_fits => k_is)
    (case c__law_fits => k_is)
    (case k__law_fits => k_is)
    (case a_law => k_is)
    (case l_law => k_is)
    (case c_law => k_is)
    (case k_law => k_is)
    (case g_PAIRED => k_is)
    (case o_PAIRED => k_is)
    (case z_len => k_is)
    (case z_range => k_is)
    (case z_isinstance => k_is)
    (case z_tuple => k_is)
    (case z_zip => k_is)
    (case z_min => k_is)
    (case z_str => k_is)
    (case z_int => k_is)
    (case z_list => k_is)
    (case z_all => k_is)
    (case z_bool => k_is)
    (case z_reversed => k_is)

