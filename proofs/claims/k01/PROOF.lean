import PyProof.Rows.All
import Wide.All
import OpenK.AllK
import Wide.FinOn
import Lean
import PyProof.EqAt
import PyProof.EqKinds
import PyProof.TupleCall
import PyProof.NeData
import PyProof.P3In
import PyProof.ZipIter
import PyProof.Rows.ZipGen
import KE.KRevIter
import PyProof.CollectIter
import PyProof.ListRange
import PyProof.EnumMake
import PyProof.EnumFor
import PyProof.EnumStmt
import PyProof.Rows.SortStr
import KE.KDictList
import KE.KSortTup
import KE.KSortAsk
import PySem.Challenge.RW_ken_k01_parts_and_letters
import PyProof.SumAny
import PyProof.WalksMore
import KE.KTupSum
import PyProof.FactsAll.set
import PyProof.Rows.Range3
import PyProof.FactsAll.tuple_2
import PyProof.Rows.SetFrom
set_option Elab.async false
set_option linter.all false
set_option maxRecDepth 100000
namespace L2
open PySem PySem.Spec PyProof.Rows
abbrev Key := Sum Int Str
def keyIs : Key → Value → Bool
  | .inl k, v => Value.isInt k v
  | .inr x, v => Value.isStrOf x v
def keyH (w : World) : Key → Int
  | .inl k => hashInt k
  | .inr x => hashStr w x
theorem keyIs_shape : ∀ {k : Key} {v : Value}, keyIs k v = true → (∃ i t, k = Sum.inl i ∧ v = Value.int i t) ∨ (∃ x t, k = Sum.inr x ∧ v = Value.str x t)
  | .inl i, v, h => by
    obtain ⟨t, e⟩ := Value.isInt_shape (k := i) (v := v) h
    exact .inl ⟨i, t, rfl, e⟩
  | .inr x, v, h => by
    obtain ⟨t, e⟩ := Value.isStrOf_shape (x := x) (v := v) h
    exact .inr ⟨x, t, rfl, e⟩
theorem keyIs_int (i : Int) (t : Tok) : keyIs (.inl i) (.int i t) = true := by simp [keyIs, Value.isInt]
theorem keyIs_str (x : Str) (t : Tok) : keyIs (.inr x) (.str x t) = true := by simp [keyIs, Value.isStrOf]
theorem key_ll (a b : Int) : decide ((Sum.inl a : Key) = Sum.inl b) = (a == b) := by
  by_cases e : a = b
  · subst e; simp
  · have h : ¬ (Sum.inl a : Key) = Sum.inl b := fun q => e (Sum.inl.inj q)
    rw [decide_eq_false h]
    exact (beq_eq_false_iff_ne.mpr e).symm
theorem key_rr (a b : Str) : decide ((Sum.inr a : Key) = Sum.inr b) = decide (a = b) := by
  by_cases e : a = b
  · subst e; simp
  · have h : ¬ (Sum.inr a : Key) = Sum.inr b := fun q => e (Sum.inr.inj q)
    rw [decide_eq_false h, decide_eq_false e]
theorem key_lr (a : Int) (b : Str) : decide ((Sum.inl a : Key) = Sum.inr b) = false := decide_eq_false (fun q => nomatch q)
theorem key_rl (a : Str) (b : Int) : decide ((Sum.inr a : Key) = Sum.inl b) = false := decide_eq_false (fun q => nomatch q)
def mixKind (prog : Program) (w : World) : PySem.KeyKind prog w Key where
  is := keyIs
  hash := keyH w
  inj := fun v a b ha hb => by
    rcases keyIs_shape ha with ⟨i, t, rfl, rfl⟩ | ⟨x, t, rfl, rfl⟩
    · rcases keyIs_shape hb with ⟨j, u, rfl, e⟩ | ⟨y, u, rfl, e⟩
      · injection e with e1 _; rw [e1]
      · exact nomatch e
    · rcases keyIs_shape hb with ⟨j, u, rfl, e⟩ | ⟨y, u, rfl, e⟩
      · exact nomatch e
      · injection e with e1 _; rw [e1]
  byValue := fun k v h => by
    rcases keyIs_shape h with ⟨i, t, rfl, rfl⟩ | ⟨x, t, rfl, rfl⟩ <;> rfl
  pyHash := fun hv h => by
    rcases keyIs_shape hv with ⟨i, t, rfl, rfl⟩ | ⟨x, t, rfl, rfl⟩
    · exact wpAny_pyHash_int h
    · exact wpAny_pyHash_str h
  eqBool := fun hu hv h => by
    rcases keyIs_shape hu with ⟨i, t, rfl, rfl⟩ | ⟨x, t, rfl, rfl⟩
    · rcases keyIs_shape hv with ⟨j, u, rfl, rfl⟩ | ⟨y, u, rfl, rfl⟩
      · rw [key_ll] at h; exact wpAny_eqBool_int h
      · rw [key_lr] at h; exact SeqAt.EqAt.int_str i t y u _ _ _ _ h
    · rcases keyIs_shape hv with ⟨j, u, rfl, rfl⟩ | ⟨y, u, rfl, rfl⟩
      · rw [key_rl] at h; exact SeqAt.EqAt.str_int x t j u _ _ _ _ h
      · rw [key_rr] at h; exact wpAny_eqBool_str h
  «strs» := fun k x t v h => by
    rcases keyIs_shape h with ⟨i, u, rfl, e⟩ | ⟨y, u, rfl, e⟩
    · exact nomatch e
    · injection e with e1 _
      subst e1
      cases v <;> rfl
theorem mixKind_int (prog : Program) (w : World) (i : Int) (t : Tok) : (mixKind prog w).is (.inl i) (.int i t) = true := keyIs_int i t
theorem mixKind_str (prog : Program) (w : World) (x : Str) (t : Tok) : (mixKind prog w).is (.inr x) (.str x t) = true := keyIs_str x t
end L2
namespace L2
open PySem PySem.Spec PyProof.Rows
inductive V where
  | non | bl (b : Bool) | int (i : Int) | str (x : Str) | byt (b : Array UInt8) | flt (b : UInt64) | ref (a : Addr) | ty (n : String)
  deriving DecidableEq
def RelV : V → Value → Prop
  | .non, u => u = Value.none
  | .bl b, u => u = Value.bool b
  | .int i, u => ∃ t, u = Value.int i t
  | .str x, u => ∃ t, u = Value.str x t
  | .byt b, u => ∃ t, u = Value.bytes b t
  | .flt b, u => ∃ t, u = Value.float b t
  | .ref a, u => u = Value.ref a
  | .ty n, u => u = Value.type n
abbrev Vals : List V → List Value → Prop := Paired RelV
theorem Vals.length {xs : List V} {us : List Value} (r : Vals xs us) : xs.length = us.length := Paired.length r
theorem Vals.get : ∀ {xs : List V} {us : List Value} {i : Nat} {x : V}, Vals xs us → xs[i]? = some x → ∃ u, us[i]? = some u ∧ RelV x u
  | _, _, _, _, .nil, e => by simp at e
  | _, _, 0, _, .cons r _, e => by simp at e; subst e; exact ⟨_, rfl, r⟩
  | _, _, i + 1, x, .cons _ t, e => by
    obtain ⟨u, h1, h2⟩ := Vals.get (i := i) (x := x) t (by simpa using e)
    exact ⟨u, by simpa using h1, h2⟩
theorem Vals.set {x : V} {u : Value} (r : RelV x u) : ∀ {xs : List V} {us : List Value} (i : Nat), Vals xs us → Vals (xs.set i x) (us.set i u)
  | _, _, _, .nil => .nil
  | _, _, 0, .cons _ t => .cons r t
  | _, _, i + 1, .cons q t => .cons q (Vals.set r i t)
theorem Vals.append : ∀ {xs ys : List V} {us ws : List Value}, Vals xs us → Vals ys ws → Vals (xs ++ ys) (us ++ ws)
  | _, _, _, _, .nil, s => s
  | _, _, _, _, .cons r t, s => .cons r (Vals.append t s)
theorem Vals.take : ∀ {xs : List V} {us : List Value} (n : Nat), Vals xs us → Vals (xs.take n) (us.take n)
  | _, _, 0, _ => .nil
  | _, _, _ + 1, .nil => .nil
  | _, _, n + 1, .cons r t => .cons r (Vals.take n t)
theorem Vals.drop : ∀ {xs : List V} {us : List Value} (n : Nat), Vals xs us → Vals (xs.drop n) (us.drop n)
  | _, _, 0, r => r
  | _, _, _ + 1, .nil => .nil
  | _, _, n + 1, .cons _ t => Vals.drop n t
def RelO : Option V → Option Value → Prop
  | some v, some u => RelV v u
  | none, none => True
  | _, _ => False
def KV {κ : Type} : List (κ × V) → List (κ × Value) → Prop := Paired fun (p : κ × V) (q : κ × Value) => p.1 = q.1 ∧ RelV p.2 q.2
def kV : Key → V
  | .inl i => .int i
  | .inr x => .str x
inductive HO where
  /-- a list -/
  | lst (xs : List V)
  /-- a tuple (never changes) -/
  | tup (xs : List V)
  /-- a dict whose keys are ints and texts; one whose keys are tuples of ints and texts (the empty one is both) -/
  | dK (kvs : List (Key × V)) | dT (kvs : List (List Key × V))
  /-- a set of ints: its members, its size -/
  | set (S : Int → Bool) (n : Nat)
  /-- an instance of the class at C, its dict at dx, its attributes -/
  | ins (C dx : Addr) (fs : List (Str × V))
  /-- the dict of the instance at x -/
  | own (x : Addr)
  /-- the dict of an exception -/
  | xd (fs : List (Str × V))
  /-- a bound method, f of x -/
  | met (f x : Addr)
  /-- a range object lo, lo + 1, .. below hi -/
  | rng (lo hi : Int)
  /-- a thing that is known to the object (the script; a dict while a loop walks it): read, never written while it is so -/
  | frz (o : Obj) (u : HO)
  /-- a code object's table -/
  | tbl (ps : Array Value)
  /-- any other thing, by what is true of its one object (a def of one's own: SetO a S n := HO.ext fun h => ..) -/
  | ext (φ : Heap → Prop)
abbrev Hp := Addr → Option HO
def upd (H : Hp) (a : Addr) (o : HO) : Hp := fun b => if b = a then some o else H b
theorem upd_same {H : Hp} {a : Addr} {o : HO} : upd H a o a = some o := by unfold upd; rw [if_pos rfl]
theorem upd_ne {H : Hp} {a b : Addr} {o : HO} (h : b ≠ a) : upd H a o b = H b := by unfold upd; rw [if_neg h]
theorem upd_upd {H : Hp} {a : Addr} {o u : HO} : upd (upd H a o) a u = upd H a u := by
  funext b; unfold upd; split <;> rfl
theorem ne_of {H : Hp} {a b : Addr} {o u : HO} (h : H a = some o) (h' : H b = some u) (d : o ≠ u) : a ≠ b := by
  intro e; subst e; rw [h] at h'; exact d (Option.some.inj h')
theorem ne_of_none {H : Hp} {a b : Addr} {o : HO} (h : H a = some o) (h' : H b = none) : a ≠ b := by
  intro e; subst e; rw [h] at h'; cases h'
section
variable (P : Program) (w : World)
def ObjOk (H : Hp) (h : Heap) (a : Addr) : HO → Prop
  | .lst xs => xs.length ≤ sizeLine ∧ ∃ (its : List Value) (n : Nat), Vals xs its ∧ h.get? a = some { cls := .type "list", data := .seq its.toArray n }
  | .tup xs => xs.length ≤ sizeLine ∧ ∃ its : List Value, Vals xs its ∧ IsTup h a its.toArray
  | .dK kvs => kvs.length ≤ sizeLine ∧ (a == sysModules) = false ∧ ∃ vs, KV kvs vs ∧ h.DictOf (mixKind P w) a vs
  | .dT kvs => kvs.length ≤ sizeLine ∧ (a == sysModules) = false ∧ ∃ xs : List (List Key × Addr × Value),
      Paired (fun (p : List Key × V) (q : List Key × Addr × Value) => p.1 = q.1 ∧ H q.2.1 = some (.tup (p.1.map kV)) ∧ RelV p.2 q.2.2) kvs xs ∧
      ∃ o es ep, h.get? a = some o ∧ o.ExactDict ∧ o.data = .dict es ep ∧ es.toList = xs.map (entryOfKey (tupleKind (mixKind P w))) ∧ (xs.map (·.1)).Nodup
  | .set S n => h.SetOf (intKind P w) a S n
  | .ins C dx fs => H dx = some (.own a) ∧ fs.length ≤ 1000 ∧ dx ≠ a ∧ h.get? a = some (PySem.W.instObj C dx) ∧
      ∃ mA, h.Ns1 dx mA ∧ (∀ f, RelO (fs.lookup f) (mA f)) ∧ PySem.Within mA (fs.map (·.1))
  | .own _ => ∃ o, h.get? a = some o
  | .xd fs => ∃ mA, h.Ns1 a mA ∧ ∀ f, RelO (fs.lookup f) (mA f)
  | .rng lo hi => ∃ t u v, h.get? a = some { cls := .type "range", data := .fields #[.int lo t, .int hi u, .int 1 v] }
  | .frz o u => h.get? a = some o ∧ ObjOk H h a u
  | .tbl ps => h.get? a = some { cls := .none, data := .fields ps }
  | .met f x => h.get? a = some (PySem.W.methodObj (.ref f) (.ref x))
  | .ext φ => φ h ∧ (∃ o, h.get? a = some o) ∧ ∀ h1 h2 : Heap, φ h1 → (∀ o, h1.get? a = some o → h2.get? a = some o) → φ h2
def HOk (H : Hp) (h : Heap) : Prop := ∀ a o, H a = some o → ObjOk P w H h a o
end
section
variable {P : Program} {w : World} {H H' : Hp} {h h' : Heap} {a : Addr} {o : HO}
theorem ObjOk.lt (x : ObjOk P w H h a o) : a < h.objs.size := by
  cases o with
  | lst xs => obtain ⟨_, _, _, _, e⟩ := x; exact Heap.lt_size e
  | tup xs => obtain ⟨_, _, _, p⟩ := x; exact p.lt
  | dK kvs => obtain ⟨_, _, _, _, o, _, _, e, _⟩ := x; exact Heap.lt_size e
  | dT kvs => obtain ⟨_, _, _, _, o, _, _, e, _⟩ := x; exact Heap.lt_size e
  | set S n => obtain ⟨o, _, _, _, e, _⟩ := x; exact Heap.lt_size e
  | ins C dx fs => obtain ⟨_, _, _, e, _⟩ := x; exact Heap.lt_size e
  | own y => obtain ⟨_, e⟩ := x; exact Heap.lt_size e
  | xd fs => obtain ⟨_, ⟨_, _, _, e, _⟩, _⟩ := x; exact Heap.lt_size e
  | rng lo hi => obtain ⟨_, _, _, e⟩ := x; exact Heap.lt_size e
  | frz ob u => obtain ⟨e, _⟩ := x; exact Heap.lt_size e
  | tbl ps => exact Heap.lt_size (show h.get? a = some _ from x)
  | met f y => exact Heap.lt_size (show h.get? a = some _ from x)
  | ext φ => obtain ⟨_, ⟨_, e⟩, _⟩ := x; exact Heap.lt_size e
theorem Paired.mapP {α β : Type} {F G : α → β → Prop} : ∀ {l₁ : List α} {l₂ : List β}, Paired F l₁ l₂ → (∀ a b, F a b → G a b) → Paired G l₁ l₂
  | _, _, .nil, _ => .nil
  | _, _, .cons r t, f => .cons (f _ _ r) (Paired.mapP t f)
theorem ObjOk.stay (x : ObjOk P w H h a o) (k : ∀ b u, (b = a ∨ H b = some (.own a)) → h.get? b = some u → h'.get? b = some u)
    (ho : ∀ b, H b = some (.own a) → H' b = some (.own a)) (ht : ∀ b xs, H b = some (.tup xs) → H' b = some (.tup xs)) : ObjOk P w H' h' a o := by
  induction o with
  | lst xs => obtain ⟨z, its, n, r, e⟩ := x; exact ⟨z, its, n, r, k _ _ (.inl rfl) e⟩
  | tup xs => obtain ⟨z, its, r, ob, e, c⟩ := x; exact ⟨z, its, r, ob, k _ _ (.inl rfl) e, c⟩
  | dK kvs => obtain ⟨z, y, vs, r, ob, es, ep, e, c⟩ := x; exact ⟨z, y, vs, r, ob, es, ep, k _ _ (.inl rfl) e, c⟩
  | dT kvs =>
    obtain ⟨z, y, xs, r, ob, es, ep, e, c⟩ := x
    exact ⟨z, y, xs, Paired.mapP r fun p q z => ⟨z.1, ht _ _ z.2.1, z.2.2⟩, ob, es, ep, k _ _ (.inl rfl) e, c⟩
  | set S n => obtain ⟨ob, es, ep, t, e, c⟩ := x; exact ⟨ob, es, ep, t, k _ _ (.inl rfl) e, c⟩
  | ins C dx fs =>
    obtain ⟨d, z, ne, e, mA, ⟨od, es, ep, e2, c⟩, r⟩ := x
    exact ⟨ho _ d, z, ne, k _ _ (.inl rfl) e, mA, ⟨od, es, ep, k _ _ (.inr d) e2, c⟩, r⟩
  | own y => obtain ⟨ob, e⟩ := x; exact ⟨ob, k _ _ (.inl rfl) e⟩
  | xd fs => obtain ⟨mA, ⟨od, es, ep, e, c⟩, r⟩ := x; exact ⟨mA, ⟨od, es, ep, k _ _ (.inl rfl) e, c⟩, r⟩
  | rng lo hi => obtain ⟨t, u, v, e⟩ := x; exact ⟨t, u, v, k _ _ (.inl rfl) e⟩
  | frz ob u ih => obtain ⟨e, q⟩ := x; exact ⟨k _ _ (.inl rfl) e, ih q⟩
  | tbl ps =>
    have e : h.get? a = some { cls := .none, data := .fields ps } := x
    show h'.get? a = some { cls := .none, data := .fields ps }
    exact k a _ (.inl rfl) e
  | met f y =>
    have e : h.get? a = some (PySem.W.methodObj (.ref f) (.ref y)) := x
    show h'.get? a = some (PySem.W.methodObj (.ref f) (.ref y))
    exact k a _ (.inl rfl) e
  | ext φ => obtain ⟨p, ⟨o, e⟩, st⟩ := x; exact ⟨st _ _ p fun o q => k _ _ (.inl rfl) q, ⟨o, k _ _ (.inl rfl) e⟩, st⟩
theorem HOk.lt (x : HOk P w H h) (e : H a = some o) : a < h.objs.size := (x a o e).lt
theorem HOk.fresh (x : HOk P w H h) (e : h.objs.size ≤ a) : H a = none := by
  cases q : H a with
  | none => rfl
  | some u => exact absurd (Nat.lt_of_lt_of_le (x.lt q) e) (Nat.lt_irrefl _)
theorem HOk.kept (x : HOk P w H h) (k : ∀ b u, h.get? b = some u → h'.get? b = some u) : HOk P w H h' := fun a o e =>
  (x a o e).stay (fun b u _ q => k b u q) (fun _ q => q) fun _ _ q => q
theorem HOk.laid (x : HOk P w H h) (k : ∀ b u, h.get? b = some u → h'.get? b = some u) (hp : h.objs.size ≤ a) (new : ObjOk P w (upd H a o) h' a o) : HOk P w (upd H a o) h' := fun b u e => by
  have hn := x.fresh hp
  by_cases hb : b = a
  · subst hb; rw [upd_same] at e; cases e; exact new
  · rw [upd_ne hb] at e
    exact (x b u e).stay (fun c v _ q => k c v q) (fun c q => by rw [upd_ne (ne_of_none q hn)]; exact q) fun c xs q => by rw [upd_ne (ne_of_none q hn)]; exact q
end
def Rd (H : Hp) (a : Addr) (u : HO) : Prop := H a = some u ∨ ∃ o, H a = some (.frz o u)
theorem Rd.of {H : Hp} {a : Addr} {u : HO} (h : H a = some u) : Rd H a u := .inl h
theorem Rd.ok {P : Program} {w : World} {H : Hp} {h : Heap} {a : Addr} {u : HO} (r : Rd H a u) (x : HOk P w H h) : ObjOk P w H h a u := by
  rcases r with r | ⟨o, r⟩
  · exact x a u r
  · obtain ⟨_, q⟩ := x a _ r
    exact q
def Mut : Option HO → Prop
  | some (.lst _) => True
  | some (.dK _) => True
  | some (.dT _) => True
  | some (.set _ _) => True
  | some (.ins _ _ _) => True
  | some (.ext _) => True
  | _ => False
section
variable {P : Program} {w : World} {H : Hp} {h h' : Heap} {x e : Addr} {o' : HO}
theorem HOk.write (ok : HOk P w H h) (mu : Mut (H x)) (he : e = x ∨ H e = some (.own x)) (k : ∀ b u, b ≠ e → h.get? b = some u → h'.get? b = some u) (heo : ∃ u, h'.get? e = some u)
    (new : ObjOk P w (upd H x o') h' x o') : HOk P w (upd H x o') h' := fun b u q => by
  have nown : ∀ c y, H c = some (.own y) → c ≠ x := fun c y r z => by subst z; rw [r] at mu; exact mu
  have ntup : ∀ c xs, H c = some (.tup xs) → c ≠ x := fun c xs r z => by subst z; rw [r] at mu; exact mu
  by_cases hb : b = x
  · subst hb; rw [upd_same] at q; cases q; exact new
  · rw [upd_ne hb] at q
    by_cases hbe : b = e
    · have q' : H b = some (.own x) := by
        rcases he with z | z
        · exact absurd (hbe.trans z) hb
        · rw [hbe]; exact z
      rw [q] at q'; cases q'
      obtain ⟨v, hv⟩ := heo
      exact ⟨v, by rw [hbe]; exact hv⟩
    · refine (ok b u q).stay (fun c v hc r => k c v ?_ r) (fun c r => by rw [upd_ne (nown c b r)]; exact r) fun c xs r => by rw [upd_ne (ntup c xs r)]; exact r
      rcases hc with rfl | hc
      · exact hbe
      · rintro rfl
        rcases he with z | z
        · exact nown c b hc z
        · rw [hc] at z; cases z; exact hb rfl
end
structure Un (fs ex : List Addr) (H H' : Hp) (h h' : Heap) : Prop where
  keep : ∀ b o, h.get? b = some o → H b = none → b ∉ fs → b ∉ ex → h'.get? b = some o
  slot : ∀ b o, h.get? b = some o → H b = none → b ∈ fs → b ∉ ex → ∃ sl, h'.get? b = some { o with slots := sl }
  free : ∀ b o, h.get? b = some o → H b = none → b ∉ ex → H' b = none
  there : ∀ b o, h.get? b = some o → b ∉ ex → ∃ o', h'.get? b = some o'
  tups : ∀ b xs, H b = some (.tup xs) → H' b = some (.tup xs)
  frzs : ∀ b o u, H b = some (.frz o u) → H' b = some (.frz o u)
  tbls : ∀ b ps, H b = some (.tbl ps) → ∃ more, H' b = some (.tbl (ps ++ more))
section
variable {fs fs' ex ex' : List Addr} {H H1 H2 : Hp} {h h1 h2 h' : Heap} {a x e : Addr} {o : HO}
theorem Un.any (u : Un fs ex H H1 h h1) {b : Addr} {ob : Obj} (q : h.get? b = some ob) (n : H b = none) (hx : b ∉ ex) : ∃ sl, h1.get? b = some { ob with slots := sl } := by
  by_cases hb : b ∈ fs
  · exact u.slot b ob q n hb hx
  · exact ⟨ob.slots, u.keep b ob q n hb hx⟩
theorem Un.trans (a : Un fs ex H H1 h h1) (b : Un fs ex H1 H2 h1 h2) : Un fs ex H H2 h h2 where
  keep := fun c ob q n hc hx => b.keep c ob (a.keep c ob q n hc hx) (a.free c ob q n hx) hc hx
  slot := fun c ob q n hc hx => by
    obtain ⟨sl, e1⟩ := a.slot c ob q n hc hx
    obtain ⟨sl', e2⟩ := b.slot c _ e1 (a.free c ob q n hx) hc hx
    exact ⟨sl', e2⟩
  free := fun c ob q n hx => by
    obtain ⟨o', e1⟩ := a.there c ob q hx
    exact b.free c o' e1 (a.free c ob q n hx) hx
  there := fun c ob q hx => by
    obtain ⟨o', e1⟩ := a.there c ob q hx
    exact b.there c o' e1 hx
  tups := fun c xs q => b.tups c xs (a.tups c xs q)
  frzs := fun c ob xs q => b.frzs c ob xs (a.frzs c ob xs q)
  tbls := fun c ps q => by
    obtain ⟨m1, e1⟩ := a.tbls c ps q
    obtain ⟨m2, e2⟩ := b.tbls c _ e1
    exact ⟨m1 ++ m2, by rw [e2, Array.append_assoc]⟩
theorem Un.kept (k : ∀ b u, h.get? b = some u → h'.get? b = some u) : Un fs ex H H h h' :=
  ⟨fun b ob q _ _ _ => k b ob q, fun b ob q _ _ _ => ⟨ob.slots, k b ob q⟩, fun _ _ _ n _ => n, fun b ob q _ => ⟨ob, k b ob q⟩, fun _ _ q => q, fun _ _ _ q => q, fun _ ps q => ⟨#[], by rw [q]; simp⟩⟩
theorem Un.refl : Un fs ex H H h h := Un.kept fun _ _ q => q
theorem Un.laid (k : ∀ b u, h.get? b = some u → h'.get? b = some u) (hp : h.objs.size ≤ a) (hn : H a = none) : Un fs ex H (upd H a o) h h' where
  keep := fun b u q _ _ _ => k b u q
  slot := fun b u q _ _ _ => ⟨u.slots, k b u q⟩
  free := fun b u q n _ => by rw [upd_ne (Nat.ne_of_lt (Nat.lt_of_lt_of_le (Heap.lt_size q) hp))]; exact n
  there := fun b u q _ => ⟨u, k b u q⟩
  tups := fun b xs q => by rw [upd_ne (ne_of_none q hn)]; exact q
  frzs := fun b u xs q => by rw [upd_ne (ne_of_none q hn)]; exact q
  tbls := fun b ps q => ⟨#[], by rw [upd_ne (ne_of_none q hn), q]; simp⟩
theorem Un.write (mu : Mut (H x)) (he : e = x ∨ H e = some (.own x)) (k : ∀ b u, b ≠ e → h.get? b = some u → h'.get? b = some u) (heo : ∃ u, h'.get? e = some u) : Un fs ex H (upd H x o) h h' := by
  have hx : ∀ b, H b = none → b ≠ x := fun b n z => by subst z; rw [n] at mu; exact mu
  have hb : ∀ b, H b = none → b ≠ e := fun b n z => by
    subst z
    rcases he with r | r
    · exact hx b n r
    · rw [n] at r; cases r
  have hm : ∀ b u, H b = some u → ¬ Mut (some u) → b ≠ x := fun b u q nm z => by subst z; rw [q] at mu; exact nm mu
  refine ⟨fun b u q n _ _ => k b u (hb b n) q, fun b u q n _ _ => ⟨u.slots, k b u (hb b n) q⟩, fun b u q n _ => by rw [upd_ne (hx b n)]; exact n, fun b u q _ => ?_,
    fun b xs q => by rw [upd_ne (hm b _ q fun z => z)]; exact q, fun b u xs q => by rw [upd_ne (hm b _ q fun z => z)]; exact q, fun b ps q => ⟨#[], by rw [upd_ne (hm b _ q fun z => z), q]; simp⟩⟩
  by_cases hbe : b = e
  · subst hbe; exact heo
  · exact ⟨u, k b u hbe q⟩
theorem Un.mono (u : Un fs ex H H1 h h1) (hs : ∀ b ∈ fs, b ∈ fs') (hx : ∀ b ∈ ex, b ∈ ex') : Un fs' ex' H H1 h h1 :=
  ⟨fun b ob q n hb he => u.keep b ob q n (fun z => hb (hs b z)) fun z => he (hx b z), fun _ _ q n _ he => u.any q n fun z => he (hx _ z), fun b ob q n he => u.free b ob q n fun z => he (hx b z), fun b ob q he => u.there b ob q fun z => he (hx b z), u.tups, u.frzs, u.tbls⟩
end
def trk (h : Heap) (H : Hp) : List Addr := (List.range h.objs.size).filter fun a => (H a).isSome
def hidT (h : Heap) (H : Hp) : Heap := PySem.W.hideAll h (trk h H)
theorem hidT_size (h : Heap) (H : Hp) : (hidT h H).objs.size = h.objs.size := PySem.W.hideAll_size _ _
theorem hidT_get {h : Heap} {H : Hp} {b : Addr} {o : Obj} (e : h.get? b = some o) (n : H b = none) : (hidT h H).get? b = some o :=
  PySem.W.hideAll_get _ e fun hm => by
    have q : (H b).isSome = true := (List.mem_filter.mp hm).2
    rw [n] at q; simp at q
theorem of_hidT {h : Heap} {H : Hp} {b : Addr} {o : Obj} (e : (hidT h H).get? b = some o) : h.get? b = some o ∧ H b = none := by
  have e' : h.get? b = some o := PySem.W.of_hideAll (trk h H) e
  refine ⟨e', ?_⟩
  cases q : H b with
  | none => rfl
  | some x =>
    have hm : b ∈ trk h H := List.mem_filter.mpr ⟨List.mem_range.mpr (Heap.lt_size e'), by simp [q]⟩
    have z : (hidT h H).get? b = none := PySem.W.hideAll_none (trk h H) hm
    rw [z] at e; cases e
def allNews (g h : Heap) (L : Addr) : List (Addr × Obj) := (List.range h.objs.size).filterMap fun a => if a = L ∨ (g.get? a).isSome = true then none else (h.get? a).map fun o => (a, o)
def rest (g h : Heap) (L d : Addr) : List (Addr × Obj) := (allNews g h L).filter fun p => decide (p.1 ≠ d)
end L2
namespace L2
open PySem PySem.Spec PyProof.Rows
structure Mod (K : PySem.W.Frag) (mg : Str → Option Value) (base : Heap) : Prop where
  kin : K.In base
  glob : base.Ns mainGlobals mg
  blt : ∃ mb, base.Ns builtinsNs mb ∧ ∀ x : Str, x ≠ "__name__" → mb x = bootBuiltins x
  nolimit : base.NoLimit
structure Cx where
  prog : Program
  w : World
  K : PySem.W.Frag
  mg : Str → Option Value
  base : Heap
  A : Around
  N : List Str
  s₀ : Shared
  H₀ : Hp
  env : Env
  outer : List Env
  stack : List Env
  ex : List Addr
  fn : Str → Bool
  calm : Bool
  pn : List (Addr × Obj)
  xe : Value → Shared → Prop
def frs (l : List Env) : List Addr := l.filterMap (·.frame)
abbrev Cx.fs (X : Cx) : List Addr := frs X.outer
def Vis (sc : Scope) (x : Str) : Prop := sc.names.lookup x = some .local ∨ sc.names.lookup x = some .cell ∨ sc.names.lookup x = some .free
def Loc (sc : Scope) (x : Str) : Prop := sc.names.lookup x = some .local ∨ sc.names.lookup x = some .cell
def Look (env : Env) (h : Heap) (m : Str → Option Value) (x : Str) (u : Value) : Prop :=
  (env.kindOf x = some .local ∧ m x = some u) ∨ ((env.kindOf x = some .cell ∨ env.kindOf x = some .free) ∧ ∃ c, env.cells.lookup x = some c ∧ h.IsCell c (some u))
structure Cx.Ok (X : Cx) : Prop where
  mod : Mod X.K X.mg X.base
  kind : X.env.scope.kind = .function
  glob : X.env.globals = mainGlobals
  blt : X.env.builtins = builtinsNs
  above : X.s₀.heap.objs.size ≤ X.env.locals
  inj : ∀ x y c, X.env.cells.lookup x = some c → X.env.cells.lookup y = some c → x = y
  has : ∀ x, (X.env.kindOf x = some .cell ∨ X.env.kindOf x = some .free) → ∃ c, X.env.cells.lookup x = some c
  cab : ∀ x c, X.fn x = true → X.env.cells.lookup x = some c → X.s₀.heap.objs.size ≤ c
  hd : X.calm = true → X.A.handled = none
  frames : X.A.frames = some X.stack
  stk : X.stack = X.outer ∨ (X.stack = X.env :: X.outer ∧ X.env.frame = some X.env.locals)
  exf : ∀ b ∈ X.ex, b ≠ X.env.locals ∧ ∀ x c, X.env.cells.lookup x = some c → c ≠ b
  bs : ∀ b o, X.base.get? b = some o → X.s₀.heap.get? b = some o ∧ X.H₀ b = none
  bsz : X.base.objs.size ≤ X.s₀.heap.objs.size
  noex : ∀ b o, X.base.get? b = some o → b ∉ X.ex
  exfs : ∀ b ∈ X.ex, b ∉ X.fs
  funs : X.s₀.heap.FunFrames X.base X.outer
  frf : ∀ b ∈ X.fs, X.H₀ b = none
structure Inv (X : Cx) (pins : List (Addr × Obj)) (σ : List (Option V)) (H : Hp) (s : Shared) : Prop where
  ok : X.Ok
  os : s.os = X.s₀.os
  bare : AllBare s.gens
  base : Un X.fs X.ex X.H₀ H X.s₀.heap s.heap
  loc : ∃ m, s.heap.Ns X.env.locals m ∧ ∀ (i : Nat) (x : Str) (v : V), X.N[i]? = some x → σ[i]? = some (some v) → Vis X.env.scope x → ∃ u, RelV v u ∧ Look X.env s.heap m x u
  cell : ∀ x c, X.env.cells.lookup x = some c → ∃ v, s.heap.IsCell c v
  free : H X.env.locals = none
  freeC : ∀ x c, X.env.cells.lookup x = some c → H c = none
  pin : ∀ p ∈ X.pn ++ pins, s.heap.get? p.1 = some p.2 ∧ H p.1 = none ∧ p.1 ≠ X.env.locals ∧ p.1 ∉ X.fs ∧ ∀ v, p.2.data ≠ .cell v
  hok : HOk X.prog X.w H s.heap
  len : σ.length = X.N.length
section
variable {X : Cx} {pins : List (Addr × Obj)} {σ : List (Option V)} {H H' : Hp} {s : Shared} {h' : Heap}
theorem Cx.Ok.nofr (ok : X.Ok) {b : Addr} {o : Obj} (e : X.base.get? b = some o) : b ∉ X.fs := fun hb => by
  have := (ok.funs.mem hb).1
  rw [e] at this; cases this
theorem Inv.bs (I : Inv X pins σ H s) : ∀ b o, X.base.get? b = some o → s.heap.get? b = some o ∧ H b = none := fun b o e =>
  ⟨I.base.keep b o (I.ok.bs b o e).1 (I.ok.bs b o e).2 (I.ok.nofr e) (I.ok.noex b o e), I.base.free b o (I.ok.bs b o e).1 (I.ok.bs b o e).2 (I.ok.noex b o e)⟩
theorem Inv.bk (I : Inv X pins σ H s) : ∀ b o, X.base.get? b = some o → s.heap.get? b = some o := fun b o e => (I.bs b o e).1
theorem Inv.mod (I : Inv X pins σ H s) : Mod X.K X.mg X.base := I.ok.mod
theorem Inv.kIn (I : Inv X pins σ H s) : X.K.In s.heap := I.ok.mod.kin.keeps I.bk
theorem Inv.nolimit (I : Inv X pins σ H s) : s.heap.NoLimit := I.ok.mod.nolimit.keeps I.bk
theorem Inv.fr (I : Inv X pins σ H s) : ∃ m, Fr X.base X.env.locals s.heap m :=
  let ⟨m, hn, _⟩ := I.loc
  ⟨m, hn, I.bk, Nat.le_trans I.ok.bsz I.ok.above⟩
theorem Inv.lt (I : Inv X pins σ H s) : X.env.locals < s.heap.objs.size := let ⟨_, hn, _⟩ := I.loc; hn.lt
theorem Inv.sz (I : Inv X pins σ H s) : X.s₀.heap.objs.size ≤ s.heap.objs.size := Nat.le_trans I.ok.above (Nat.le_of_lt I.lt)
theorem Inv.nofs (I : Inv X pins σ H s) {a : Addr} (h : s.heap.objs.size ≤ a) : a ∉ X.fs := fun hb => by
  obtain ⟨_, o, ho, _⟩ := I.ok.funs.mem hb
  exact absurd (Nat.lt_of_lt_of_le (Heap.lt_size ho) (Nat.le_trans I.sz h)) (Nat.lt_irrefl _)
theorem Inv.cne (I : Inv X pins σ H s) : ∀ x c, X.env.cells.lookup x = some c → c ≠ X.env.locals := fun x c e z => by
  obtain ⟨v, o, ho, hd⟩ := I.cell x c e
  obtain ⟨m, ⟨o', es, ep, ho', hd', _⟩, _⟩ := I.loc
  rw [z, ho'] at ho; cases ho; rw [hd'] at hd; cases hd
theorem Inv.funs (I : Inv X pins σ H s) : s.heap.FunFrames X.base X.outer := by
  have all : ∀ (l : List Env), (∀ b ∈ frs l, b ∈ X.fs) → X.s₀.heap.FunFrames X.base l → s.heap.FunFrames X.base l := by
    intro l
    induction l with
    | nil => intro _ _; trivial
    | cons env r ih =>
      intro hs hl
      obtain ⟨hk, ⟨L, o, hf, hn, ho, hd⟩, hr⟩ := hl
      have hL : L ∈ X.fs := hs L (by unfold frs; rw [List.filterMap_cons, hf]; exact List.mem_cons_self)
      obtain ⟨sl, e⟩ := I.base.slot L o ho (I.ok.frf L hL) hL fun z => I.ok.exfs L z hL
      exact ⟨hk, ⟨L, _, hf, hn, e, hd⟩, ih (fun b hb => hs b (by unfold frs; rw [List.filterMap_cons, hf]; exact List.mem_cons_of_mem _ hb)) hr⟩
  exact all X.outer (fun _ hb => hb) I.ok.funs
theorem Inv.stack (I : Inv X pins σ H s) : s.heap.FunFrames X.base X.stack := by
  rcases I.ok.stk with e | ⟨e, hf⟩
  · rw [e]; exact I.funs
  · rw [e]
    obtain ⟨m, hn, _⟩ := I.loc
    refine .cons (by rw [I.ok.kind]; decide) hf hn ?_ I.funs
    exact Heap.get?_none_of_le (Nat.le_trans I.ok.bsz I.ok.above)
theorem Inv.stkSub (I : Inv X pins σ H s) : ∀ b ∈ frs X.stack, b ∈ X.env.locals :: X.fs := fun b hb => by
  rcases I.ok.stk with e | ⟨e, hf⟩
  · rw [e] at hb; exact List.mem_cons_of_mem _ hb
  · rw [e] at hb
    unfold frs at hb
    rw [List.filterMap_cons, hf] at hb
    exact hb
theorem Inv.stkFree (I : Inv X pins σ H s) : ∀ b ∈ frs X.stack, H b = none := fun b hb => by
  rcases List.mem_cons.mp (I.stkSub b hb) with e | hb
  · rw [e]; exact I.free
  · obtain ⟨_, o, ho, _⟩ := I.ok.funs.mem hb
    exact I.base.free b o ho (I.ok.frf b hb) fun z => I.ok.exfs b z hb
theorem Inv.step {g' : Array GenState} {t' : Nat} {d' : Drawn} {ch : List Addr} (I : Inv X pins σ H s)
    (hch : ∀ b ∈ ch, (b ∈ X.ex ∨ X.s₀.heap.objs.size ≤ b) ∧ b ≠ X.env.locals ∧ (∀ x c, X.env.cells.lookup x = some c → c ≠ b) ∧ ∀ p ∈ X.pn ++ pins, p.1 ≠ b)
    (keep : ∀ b o, b ≠ X.env.locals → b ∉ X.fs → b ∉ ch → s.heap.get? b = some o → H b = none → h'.get? b = some o)
    (slot : ∀ b o, b ≠ X.env.locals → b ∈ X.fs → b ∉ ch → s.heap.get? b = some o → H b = none → ∃ sl, h'.get? b = some { o with slots := sl }) (free : ∀ b o, b ∉ ch → s.heap.get? b = some o → H b = none → H' b = none)
    (there : ∀ b o, b ∉ ch → s.heap.get? b = some o → ∃ o', h'.get? b = some o')
    (tups : ∀ b xs, H b = some (.tup xs) → H' b = some (.tup xs)) (frzs : ∀ b o u, H b = some (.frz o u) → H' b = some (.frz o u)) (tbls : ∀ b ps, H b = some (.tbl ps) → ∃ more, H' b = some (.tbl (ps ++ more)))
    (ns : ∀ m, s.heap.Ns X.env.locals m → h'.Ns X.env.locals m) (hok : HOk X.prog X.w H' h') (hg : AllBare g') :
    Inv X pins σ H' { s with heap := h', gens := g', drawn := d', toks := t' } := by
  have neL : ∀ b o, X.s₀.heap.get? b = some o → b ≠ X.env.locals := fun b o e => Nat.ne_of_lt (Nat.lt_of_lt_of_le (Heap.lt_size e) I.ok.above)
  have neC : ∀ b o, X.s₀.heap.get? b = some o → b ∉ X.ex → b ∉ ch := fun b o e hx hb => by
    rcases (hch b hb).1 with z | z
    · exact hx z
    · exact absurd (Nat.lt_of_lt_of_le (Heap.lt_size e) z) (Nat.lt_irrefl _)
  have cellK : ∀ x c, X.env.cells.lookup x = some c → ∀ v, s.heap.IsCell c v → h'.IsCell c v := fun x c e v ⟨o, ho, hd⟩ => by
    have nch : c ∉ ch := fun z => (hch c z).2.2.1 x c e rfl
    by_cases hc : c ∈ X.fs
    · obtain ⟨sl, q⟩ := slot c o (I.cne x c e) hc nch ho (I.freeC x c e)
      exact ⟨_, q, hd⟩
    · exact ⟨o, keep c o (I.cne x c e) hc nch ho (I.freeC x c e), hd⟩
  refine ⟨I.ok, I.os, hg, ⟨fun b o e n hb hx => ?_, fun b o e n hb hx => ?_, fun b o e n hx => ?_, fun b o e hx => ?_, fun b xs e => tups b xs (I.base.tups b xs e), fun b o xs e => frzs b o xs (I.base.frzs b o xs e), fun b ps e => ?_⟩, ?_, fun x c e => ?_, ?_, fun x c e => ?_, fun p hp => ?_, hok, I.len⟩
  · exact keep b o (neL b o e) hb (neC b o e hx) (I.base.keep b o e n hb hx) (I.base.free b o e n hx)
  · obtain ⟨sl, e1⟩ := I.base.slot b o e n hb hx
    obtain ⟨sl', e2⟩ := slot b _ (neL b o e) hb (neC b o e hx) e1 (I.base.free b o e n hx)
    exact ⟨sl', e2⟩
  · obtain ⟨o', e1⟩ := I.base.there b o e hx
    exact free b o' (neC b o e hx) e1 (I.base.free b o e n hx)
  · obtain ⟨o', e1⟩ := I.base.there b o e hx
    exact there b o' (neC b o e hx) e1
  · obtain ⟨m1, e1⟩ := I.base.tbls b ps e
    obtain ⟨m2, e2⟩ := tbls b _ e1
    exact ⟨m1 ++ m2, by rw [e2, Array.append_assoc]⟩
  · obtain ⟨m, hn, hl⟩ := I.loc
    refine ⟨m, ns m hn, fun i x v e1 e2 e3 => ?_⟩
    obtain ⟨u, r, l⟩ := hl i x v e1 e2 e3
    refine ⟨u, r, ?_⟩
    rcases l with l | ⟨k, c, e, z⟩
    · exact .inl l
    · exact .inr ⟨k, c, e, cellK x c e _ z⟩
  · obtain ⟨v, z⟩ := I.cell x c e
    exact ⟨v, cellK x c e v z⟩
  · obtain ⟨m, ⟨o, _, _, ho, _⟩, _⟩ := I.loc
    exact free _ o (fun z => (hch _ z).2.1 rfl) ho I.free
  · obtain ⟨v, o, ho, hd⟩ := I.cell x c e
    exact free c o (fun z => (hch c z).2.2.1 x c e rfl) ho (I.freeC x c e)
  · obtain ⟨e, n, ne, nf, d⟩ := I.pin p hp
    have nch : p.1 ∉ ch := fun z => (hch p.1 z).2.2.2 p hp rfl
    exact ⟨keep p.1 p.2 ne nf nch e n, free p.1 p.2 nch e n, ne, nf, d⟩
theorem Inv.un {t' : Nat} (I : Inv X pins σ H s) (u : Un X.fs [] H H' s.heap h') (hok : HOk X.prog X.w H' h') : Inv X pins σ H' { s with heap := h', toks := t' } := by
  obtain ⟨m, ⟨o, es, ep, ho, r⟩, _⟩ := id I.loc
  obtain ⟨sl, hL⟩ := u.any ho I.free (by simp)
  exact I.step (g' := s.gens) (d' := s.drawn) (ch := []) (fun _ z => nomatch z) (fun b o _ hb _ e n => u.keep b o e n hb (by simp)) (fun b o _ hb _ e n => u.slot b o e n hb (by simp)) (fun b o _ e n => u.free b o e n (by simp)) (fun b o _ e => u.there b o e (by simp)) u.tups u.frzs u.tbls (fun m' hm => by
    obtain ⟨o', es', ep', ho', r'⟩ := hm
    rw [ho] at ho'; cases ho'
    exact ⟨_, es', ep', hL, r'⟩) hok I.bare
theorem Inv.call {g' : Array GenState} {t' : Nat} {d' : Drawn} {ch : List Addr} (I : Inv X pins σ H s) (u : Un (frs X.stack) ch H H' s.heap h') (hok : HOk X.prog X.w H' h') (hg : AllBare g')
    (hch : ∀ b ∈ ch, (b ∈ X.ex ∨ X.s₀.heap.objs.size ≤ b) ∧ b ≠ X.env.locals ∧ (∀ x c, X.env.cells.lookup x = some c → c ≠ b) ∧ ∀ p ∈ X.pn ++ pins, p.1 ≠ b) :
    Inv X pins σ H' { s with heap := h', gens := g', drawn := d', toks := t' } := by
  obtain ⟨m, ⟨o, es, ep, ho, r⟩, _⟩ := id I.loc
  obtain ⟨sl, hL⟩ := u.any ho I.free fun z => (hch _ z).2.1 rfl
  exact I.step (ch := ch) hch (fun b o hL hb hc e n => u.keep b o e n (fun z => (List.mem_cons.mp (I.stkSub b z)).elim hL hb) hc) (fun b o _ _ hc e n => u.any e n hc) (fun b o hc e n => u.free b o e n hc) (fun b o hc e => u.there b o e hc) u.tups u.frzs u.tbls (fun m' hm => by
    obtain ⟨o', es', ep', ho', r'⟩ := hm
    rw [ho] at ho'; cases ho'
    exact ⟨_, es', ep', hL, r'⟩) hok hg
theorem Inv.turned {t' : Nat} {it : Addr} (I : Inv X pins σ H s) (k : ∀ b o, b ≠ it → s.heap.get? b = some o → h'.get? b = some o) (hn : H it = none) (hL : it ≠ X.env.locals)
    (h1 : it ∈ X.ex ∨ X.s₀.heap.objs.size ≤ it) (h2 : ∀ x c, X.env.cells.lookup x = some c → c ≠ it) (h3 : ∀ p ∈ X.pn ++ pins, p.1 ≠ it) : Inv X pins σ H { s with heap := h', toks := t' } := by
  have nit : ∀ b u, H b = some u → b ≠ it := fun b u e z => by rw [z, hn] at e; cases e
  refine I.step (g' := s.gens) (d' := s.drawn) (ch := [it]) (fun b hb => ?_) (fun b o _ _ hc e _ => k b o (fun z => hc (by simp [z])) e) (fun b o _ _ hc e _ => ⟨o.slots, k b o (fun z => hc (by simp [z])) e⟩) (fun _ _ _ _ n => n)
    (fun b o hc e => ⟨o, k b o (fun z => hc (by simp [z])) e⟩) (fun _ _ e => e) (fun _ _ _ e => e) (fun b ps e => ⟨#[], by rw [e]; simp⟩) (fun m hm => ?_) (fun b u e => ?_) I.bare
  · have e : b = it := by simpa using hb
    subst e
    exact ⟨h1, hL, h2, h3⟩
  · obtain ⟨o, es, ep, ho, r⟩ := hm
    exact ⟨o, es, ep, k _ o (Ne.symm hL) ho, r⟩
  · refine (I.hok b u e).stay (fun c v hc q => k c v ?_ q) (fun _ q => q) fun _ _ q => q
    rcases hc with z | z
    · rw [z]; exact nit b u e
    · exact nit c _ z
theorem Inv.tok (I : Inv X pins σ H s) (t : Nat) : Inv X pins σ H { s with toks := t } := I.un (h' := s.heap) (t' := t) Un.refl I.hok
theorem Inv.kept {t' : Nat} (I : Inv X pins σ H s) (k : ∀ b u, s.heap.get? b = some u → h'.get? b = some u) : Inv X pins σ H { s with heap := h', toks := t' } := I.un (Un.kept k) (I.hok.kept k)
theorem Inv.laid {a : Addr} {o : HO} {t' : Nat} (I : Inv X pins σ H s) (k : ∀ b u, s.heap.get? b = some u → h'.get? b = some u) (hp : s.heap.objs.size ≤ a) (new : ObjOk X.prog X.w (upd H a o) h' a o) :
    Inv X pins σ (upd H a o) { s with heap := h', toks := t' } := I.un (Un.laid k hp (I.hok.fresh hp)) (I.hok.laid k hp new)
theorem Inv.write {x e : Addr} {o : HO} {t' : Nat} (I : Inv X pins σ H s) (mu : Mut (H x)) (he : e = x ∨ H e = some (.own x)) (k : ∀ b u, b ≠ e → s.heap.get? b = some u → h'.get? b = some u) (heo : ∃ u, h'.get? e = some u)
    (new : ObjOk X.prog X.w (upd H x o) h' x o) : Inv X pins σ (upd H x o) { s with heap := h', toks := t' } := I.un (Un.write mu he k heo) (I.hok.write mu he k heo new)
theorem Inv.weak {σ' : List (Option V)} (I : Inv X pins σ H s) (hl : σ'.length = σ.length) (w : ∀ (i : Nat) v, σ'[i]? = some (some v) → σ[i]? = some (some v)) : Inv X pins σ' H s :=
  ⟨I.ok, I.os, I.bare, I.base, let ⟨m, hn, hl'⟩ := I.loc; ⟨m, hn, fun i x v e1 e2 e3 => hl' i x v e1 (w i v e2) e3⟩, I.cell, I.free, I.freeC, I.pin, I.hok, hl.trans I.len⟩
theorem Inv.pins_of {pins' : List (Addr × Obj)} (I : Inv X pins σ H s) (h : ∀ p ∈ pins', s.heap.get? p.1 = some p.2 ∧ H p.1 = none ∧ p.1 ≠ X.env.locals ∧ p.1 ∉ X.fs ∧ ∀ v, p.2.data ≠ .cell v) : Inv X pins' σ H s :=
  ⟨I.ok, I.os, I.bare, I.base, I.loc, I.cell, I.free, I.freeC, fun p hp => (List.mem_append.mp hp).elim (fun z => I.pin p (List.mem_append_left _ z)) (h p), I.hok, I.len⟩
theorem nodup_ix {N : List Str} (hN : N.Nodup) {i j : Nat} {x : Str} (a : N[i]? = some x) (b : N[j]? = some x) : i = j := by
  obtain ⟨h1, e1⟩ := List.getElem?_eq_some_iff.mp a
  obtain ⟨h2, e2⟩ := List.getElem?_eq_some_iff.mp b
  exact (List.getElem_inj hN).mp (e1.trans e2.symm)
theorem store_ok2 {M : Model} {A : Around} {E : Value → Shared → Prop} {i : Nat} {x : Str} {v : V} {u : Value} {Q : Unit → Shared → Prop} (I : Inv X pins σ H s) (hN : X.N.Nodup) (hi : X.N[i]? = some x) (hx : Loc X.env.scope x) (r : RelV v u)
    (h : ∀ s', Inv X pins (σ.set i (some v)) H s' → (∃ a, Heap.SameBut a s.heap s'.heap ∧ (a = X.env.locals ∨ X.env.cells.lookup x = some a)) → Q () s') (hf : X.fn x = true ∨ X.env.scope.names.lookup x = some .local := by first | exact .inl rfl | exact .inr rfl | assumption) : wpAny M A (storeName X.env x u) Q E s := by
  obtain ⟨m, hn, hl⟩ := id I.loc
  have hcls : (X.env.scope.kind == .class || (X.env.scope.kind == .module && X.env.locals != X.env.globals)) = false := by rw [I.ok.kind]; rfl
  have hiσ : i < σ.length := by rw [I.len]; exact (List.getElem?_eq_some_iff.mp hi).1
  have cne := I.cne
  have tracked : ∀ {a : Addr} {h' : Heap}, (∃ o, s.heap.get? a = some o ∧ H a = none) → Heap.SameBut a s.heap h' → HOk X.prog X.w H h' := fun {a h'} ha hs b ob e => by
    obtain ⟨_, _, hfree⟩ := ha
    refine (I.hok b ob e).stay (fun c w' hc q => (hs.2 c ?_).trans q) (fun _ q => q) fun _ _ q => q
    rintro rfl
    rcases hc with rfl | hc
    · rw [hfree] at e; cases e
    · rw [hfree] at hc; cases hc
  rcases hx with hk | hk
  · refine wpAny_storeName_local hk hn (fun h' hn' hs => ?_) hcls
    obtain ⟨oL, _, _, hoL, _⟩ := id hn
    refine h _ ⟨I.ok, I.os, I.bare, ⟨fun b o e n hb hx => ?_, fun b o e n hb hx => ?_, I.base.free, fun b o e hx => ?_, I.base.tups, I.base.frzs, I.base.tbls⟩, ⟨_, hn', fun j y v' e1 e2 e3 => ?_⟩, fun y c e => ?_, I.free, I.freeC, fun p hp => ?_, tracked ⟨oL, hoL, I.free⟩ hs, by simpa using I.len⟩ ⟨_, hs, .inl rfl⟩
    · exact (hs.2 b (Nat.ne_of_lt (Nat.lt_of_lt_of_le (Heap.lt_size e) I.ok.above))).trans (I.base.keep b o e n hb hx)
    · obtain ⟨sl, e1⟩ := I.base.slot b o e n hb hx
      exact ⟨sl, (hs.2 b (Nat.ne_of_lt (Nat.lt_of_lt_of_le (Heap.lt_size e) I.ok.above))).trans e1⟩
    · obtain ⟨o', e1⟩ := I.base.there b o e hx
      exact ⟨o', (hs.2 b (Nat.ne_of_lt (Nat.lt_of_lt_of_le (Heap.lt_size e) I.ok.above))).trans e1⟩
    · by_cases hj : j = i
      · subst hj
        rw [hi] at e1; cases e1
        rw [List.getElem?_set_self hiσ] at e2
        cases e2
        exact ⟨u, r, .inl ⟨hk, by simp⟩⟩
      · rw [List.getElem?_set_ne (Ne.symm hj)] at e2
        obtain ⟨u', r', q⟩ := hl j y v' e1 e2 e3
        refine ⟨u', r', ?_⟩
        rcases q with ⟨k, e⟩ | ⟨k, c, e, z⟩
        · refine .inl ⟨k, ?_⟩
          have : y ≠ x := fun e => hj (nodup_ix hN e1 (e ▸ hi))
          simp [this, e]
        · exact .inr ⟨k, c, e, z.sameBut hs (cne y c e)⟩
    · obtain ⟨w', z⟩ := I.cell y c e
      exact ⟨w', z.sameBut hs (cne y c e)⟩
    · obtain ⟨e, n, ne, nf, d⟩ := I.pin p hp
      exact ⟨(hs.2 p.1 ne).trans e, n, ne, nf, d⟩
  · have hfn : X.fn x = true := by
      rcases hf with z | z
      · exact z
      · rw [z] at hk; cases hk
    obtain ⟨c, hc⟩ := I.ok.has x (.inl hk)
    obtain ⟨w', z⟩ := I.cell x c hc
    refine wpAny_storeName_cell I.ok.kind hk hc z (fun h' hc' hs => ?_)
    obtain ⟨oc, hoc, hocd⟩ := id z
    refine h { s with heap := h' } ⟨I.ok, I.os, I.bare, ⟨fun b o e n hb hx => ?_, fun b o e n hb hx => ?_, I.base.free, fun b o e hx => ?_, I.base.tups, I.base.frzs, I.base.tbls⟩, ⟨m, hn.sameBut hs (Ne.symm (cne x c hc)), fun j y v' e1 e2 e3 => ?_⟩, fun y c' e => ?_, I.free, I.freeC, fun p hp => ?_, tracked ⟨oc, hoc, I.freeC x c hc⟩ hs, by simpa using I.len⟩ ⟨c, hs, .inr hc⟩
    · exact (hs.2 b (Nat.ne_of_lt (Nat.lt_of_lt_of_le (Heap.lt_size e) (I.ok.cab x c hfn hc)))).trans (I.base.keep b o e n hb hx)
    · obtain ⟨sl, e1⟩ := I.base.slot b o e n hb hx
      exact ⟨sl, (hs.2 b (Nat.ne_of_lt (Nat.lt_of_lt_of_le (Heap.lt_size e) (I.ok.cab x c hfn hc)))).trans e1⟩
    · obtain ⟨o', e1⟩ := I.base.there b o e hx
      exact ⟨o', (hs.2 b (Nat.ne_of_lt (Nat.lt_of_lt_of_le (Heap.lt_size e) (I.ok.cab x c hfn hc)))).trans e1⟩
    · by_cases hj : j = i
      · subst hj
        rw [hi] at e1; cases e1
        rw [List.getElem?_set_self hiσ] at e2
        cases e2
        exact ⟨u, r, .inr ⟨.inl hk, c, hc, hc'⟩⟩
      · rw [List.getElem?_set_ne (Ne.symm hj)] at e2
        obtain ⟨u', r', q⟩ := hl j y v' e1 e2 e3
        refine ⟨u', r', ?_⟩
        rcases q with q | ⟨k, c', e, z'⟩
        · exact .inl q
        · refine .inr ⟨k, c', e, z'.sameBut hs ?_⟩
          rintro rfl
          exact hj (nodup_ix hN e1 (I.ok.inj _ _ _ e hc ▸ hi))
    · by_cases hcc : c' = c
      · subst hcc; exact ⟨_, hc'⟩
      · obtain ⟨w2, z2⟩ := I.cell y c' e
        exact ⟨w2, z2.sameBut hs hcc⟩
    · obtain ⟨e, n, ne, nf, d⟩ := I.pin p hp
      refine ⟨(hs.2 p.1 ?_).trans e, n, ne, nf, d⟩
      intro q
      rw [q, hoc] at e
      have q' : oc = p.2 := Option.some.inj e
      exact d w' (by rw [← q']; exact hocd)
theorem store_ok {M : Model} {A : Around} {E : Value → Shared → Prop} {i : Nat} {x : Str} {v : V} {u : Value} {Q : Unit → Shared → Prop} (I : Inv X pins σ H s) (hN : X.N.Nodup) (hi : X.N[i]? = some x) (hx : Loc X.env.scope x) (r : RelV v u)
    (h : ∀ s', Inv X pins (σ.set i (some v)) H s' → Q () s') (hf : X.fn x = true ∨ X.env.scope.names.lookup x = some .local := by first | exact .inl rfl | exact .inr rfl | assumption) : wpAny M A (storeName X.env x u) Q E s :=
  store_ok2 I hN hi hx r (fun s' I' _ => h s' I') hf
theorem Inv.call' {s' : Shared} {ch : List Addr} (I : Inv X pins σ H s) (ho : s'.os = s.os) (u : Un (frs X.stack) ch H H' s.heap s'.heap) (hok : HOk X.prog X.w H' s'.heap) (hg : AllBare s'.gens)
    (hch : ∀ b ∈ ch, (b ∈ X.ex ∨ X.s₀.heap.objs.size ≤ b) ∧ b ≠ X.env.locals ∧ (∀ x c, X.env.cells.lookup x = some c → c ≠ b) ∧ ∀ p ∈ X.pn ++ pins, p.1 ≠ b) : Inv X pins σ H' s' := by
  obtain ⟨h', g', d', t', o'⟩ := s'
  have e : o' = s.os := ho
  subst e
  exact I.call (g' := g') (t' := t') (d' := d') u hok hg hch
end
abbrev XK := Value → Option Addr → Hp → Prop
abbrev St := List (Option V)
abbrev VK := V → Hp → Prop
abbrev TE := St → Hp → VK → Prop
abbrev TT := St → Hp → (Bool → Hp → Prop) → Prop
abbrev TA := St → Hp → (List V → Hp → Prop) → Prop
structure Ends where
  nx : St → Hp → Prop
  rt : VK
  bk : St → Hp → Prop := fun _ _ => False
  ct : St → Hp → Prop := fun _ _ => False
abbrev TS := Ends → St → Hp → Prop
def EP (X : Cx) (pins : List (Addr × Obj)) (σ : St) (Q : VK) (u : Value) (s' : Shared) : Prop := ∃ v H', Inv X pins σ H' s' ∧ RelV v u ∧ Q v H'
def TP (X : Cx) (pins : List (Addr × Obj)) (σ : St) (Q : Bool → Hp → Prop) (b : Bool) (s' : Shared) : Prop := ∃ H', Inv X pins σ H' s' ∧ Q b H'
def AP (X : Cx) (pins : List (Addr × Obj)) (σ : St) (Q : List V → Hp → Prop) (us : List Value) (s' : Shared) : Prop := ∃ vs H', Inv X pins σ H' s' ∧ Vals vs us ∧ Q vs H'
def SP (X : Cx) (pins : List (Addr × Obj)) (D : Ends) (f : Flow) (s' : Shared) : Prop :=
  match f with
  | .next => ∃ σ' H', Inv X pins σ' H' s' ∧ D.nx σ' H'
  | .brk => ∃ σ' H', Inv X pins σ' H' s' ∧ D.bk σ' H'
  | .cont => ∃ σ' H', Inv X pins σ' H' s' ∧ D.ct σ' H'
  | .ret u => ∃ v σ' H', Inv X pins σ' H' s' ∧ RelV v u ∧ D.rt v H'
def PE (X : Cx) (e : Expr) (t : TE) : Prop :=
  ∀ (pins : List (Addr × Obj)) (s : Shared) (σ : St) (H : Hp) (Q : VK), Inv X pins σ H s → t σ H Q → wpAny (model X.prog X.w) X.A (eval e X.env) (EP X pins σ Q) X.xe s
def PT (X : Cx) (e : Expr) (t : TT) : Prop :=
  ∀ (pins : List (Addr × Obj)) (s : Shared) (σ : St) (H : Hp) (Q : Bool → Hp → Prop), Inv X pins σ H s → t σ H Q → wpAny (model X.prog X.w) X.A (isTrue e X.env (eval e X.env)) (TP X pins σ Q) X.xe s
def PW (X : Cx) (e : Expr) (t : TT) : Prop :=
  ∀ (whole : Sem Value) (pins : List (Addr × Obj)) (s : Shared) (σ : St) (H : Hp) (Q : Bool → Hp → Prop), Inv X pins σ H s → t σ H Q → wpAny (model X.prog X.w) X.A (isTrue e X.env whole) (TP X pins σ Q) X.xe s
theorem PW.pt {X : Cx} {e : Expr} {t : TT} (h : PW X e t) : PT X e t := h _
def PA (X : Cx) (es : List Expr) (t : TA) : Prop :=
  ∀ (pos : Pos) (pins : List (Addr × Obj)) (s : Shared) (σ : St) (H : Hp) (Q : List V → Hp → Prop), Inv X pins σ H s → t σ H Q → wpAny (model X.prog X.w) X.A (spliced (backTo pos (starEach es X.env))) (AP X pins σ Q) X.xe s
def PS (X : Cx) (st : Stmt) (t : TS) : Prop :=
  ∀ (pins : List (Addr × Obj)) (s : Shared) (σ : St) (H : Hp) (D : Ends), Inv X pins σ H s → t D σ H → wpAny (model X.prog X.w) X.A (exec st X.env) (SP X pins D) X.xe s
def PSs (X : Cx) (st : List Stmt) (t : TS) : Prop :=
  ∀ (pins : List (Addr × Obj)) (s : Shared) (σ : St) (H : Hp) (D : Ends), Inv X pins σ H s → t D σ H → wpAny (model X.prog X.w) X.A (execs st X.env) (SP X pins D) X.xe s
theorem thn {α : Type} {t : Sem α} {Q Q' : α → Shared → Prop} {M : Model} {A : Around} {E : Value → Shared → Prop} {s : Shared} (h : wpAny M A t Q E s) (hQ : ∀ a s, Q a s → Q' a s) : wpAny M A t Q' E s := wpAny_mono h hQ fun _ _ x => x
end L2
namespace L2
open PySem PySem.Spec PyProof.Rows
section
variable {X : Cx}
def tVar (i : Nat) : TE := fun σ H Q => ∃ v, σ[i]? = some (some v) ∧ Q v H
def tC (v : V) : TE := fun _ H Q => Q v H
theorem pe_var {i : Nat} {x : Str} {pos : Pos} (hN : X.N[i]? = some x) (hv : Vis X.env.scope x) (hd : (x == ("__debug__" : Str)) = false := by decide) (hcd : (x == ("__classdict__" : Str)) = false := by decide) : PE X (.Name x pos) (tVar i) := by
  intro pins s σ H Q I h
  obtain ⟨v, e, h⟩ := h
  obtain ⟨m, hn, hl⟩ := I.loc
  obtain ⟨u, r, l⟩ := hl i x v hN e hv
  have fin : EP X pins σ Q u s := ⟨v, H, I, r, h⟩
  rcases l with ⟨hk, hm⟩ | ⟨hk, c, hc, hcell⟩
  · exact wpAny_Name (wpAny_loadName_local I.ok.kind hk hn hm fin) hd
  · rcases hk with hk | hk
    · exact wpAny_Name (wpAny_loadName_cell I.ok.kind hk hc hcell fin) hd
    · exact wpAny_Name (wpAny_loadName_free I.ok.kind hk hc hcell fin hcd) hd
theorem pe_int {i j pos} : PE X (.Constant (.int i) j pos) (tC (.int i)) := fun _ _ _ H _ I h => wpAny_Constant_int ⟨.int i, H, I.tok _, ⟨_, rfl⟩, h⟩
theorem pe_bl {b j pos} : PE X (.Constant (.bool b) j pos) (tC (.bl b)) := fun _ _ _ H _ I h => Constant_bool ⟨.bl b, H, I, rfl, h⟩
theorem pe_str {x j pos} : PE X (.Constant (.str x) j pos) (tC (.str x)) := fun _ _ _ H _ I h => Calls.Constant_str ⟨.str x, H, I.tok _, ⟨_, rfl⟩, h⟩
def Gl (X : Cx) (x : Str) : Prop := X.env.kindOf x = some .globalImplicit
theorem ld_glob {E : Value → Shared → Prop} {pins : List (Addr × Obj)} {s : Shared} {σ : St} {H : Hp} {x : Str} {u : Value} {pos : Pos} {Q : Value → Shared → Prop} (I : Inv X pins σ H s) (hg : Gl X x) (hm : X.mg x = some u) (h : Q u s)
    (hd : (x == ("__debug__" : Str)) = false := by decide) : wpAny (model X.prog X.w) X.A (eval (.Name x pos) X.env) Q E s :=
  Calls.Name_function_global I.ok.kind hg (Calls.loadGlobal_global (by rw [I.ok.glob]; exact I.mod.glob.keeps I.bk) hm h) hd
theorem ld_blt {E : Value → Shared → Prop} {pins : List (Addr × Obj)} {s : Shared} {σ : St} {H : Hp} {x : Str} {u : Value} {pos : Pos} {Q : Value → Shared → Prop} (I : Inv X pins σ H s) (hg : Gl X x) (hm : X.mg x = none) (hv : bootBuiltins x = some u) (h : Q u s)
    (hn : x ≠ "__name__" := by decide) (hd : (x == ("__debug__" : Str)) = false := by decide) : wpAny (model X.prog X.w) X.A (eval (.Name x pos) X.env) Q E s := by
  obtain ⟨mb, h1, h2⟩ := I.mod.blt
  exact Calls.Name_function_global I.ok.kind hg (Calls.loadGlobal_builtin (by rw [I.ok.glob]; exact I.mod.glob.keeps I.bk) hm (by rw [I.ok.blt]; exact h1.keeps I.bk) ((h2 x hn).trans hv) h) hd
theorem pe_glob {x : Str} {v : V} {u : Value} {pos : Pos} (hg : Gl X x) (hm : X.mg x = some u) (r : RelV v u) (hd : (x == ("__debug__" : Str)) = false := by decide) : PE X (.Name x pos) (tC v) :=
  fun _ _ _ H _ I h => ld_glob I hg hm ⟨v, H, I, r, h⟩ hd
theorem pe_bltn {x : Str} {v : V} {u : Value} {pos : Pos} (hg : Gl X x) (hm : X.mg x = none) (hv : bootBuiltins x = some u) (r : RelV v u) (hn : x ≠ "__name__" := by decide) (hd : (x == ("__debug__" : Str)) = false := by decide) : PE X (.Name x pos) (tC v) :=
  fun _ _ _ H _ I h => ld_blt I hg hm hv ⟨v, H, I, r, h⟩ hn hd
variable {a b : Expr} {ta tb : TE} {pos : Pos}
def tB (t : TE) : TT := fun σ H Q => t σ H fun x H1 => ∃ c, x = .bl c ∧ Q c H1
theorem pt_val {e : Expr} {t : TE} (h : PE X e t) (he : ∀ whole, isTrue e X.env whole = (do let v ← whole; standAt e.pos; holding [v] (truthy v)) := by intro _; rfl) : PT X e (tB t) := by
  intro pins s σ H Q I hw
  refine isTrue_plain (thn (h pins s σ H _ I hw) fun v s1 ⟨x, H1, I1, r1, q1⟩ => ?_) (he _)
  obtain ⟨d, rfl, q⟩ := q1
  cases r1
  exact wpAny_truthy_bool ⟨H1, I1, q⟩
variable {tA tB' : TT} {rest : List Expr}
def tAnd (t u : TT) : TT := fun σ H Q => t σ H fun c H1 => if c = true then u σ H1 Q else Q false H1
def tOr (t u : TT) : TT := fun σ H Q => t σ H fun c H1 => if c = true then Q true H1 else u σ H1 Q
def tNot (t : TT) : TT := fun σ H Q => t σ H fun c H1 => Q (!c) H1
theorem pw_and1 (ha : PT X a tA) : PW X (.BoolOp .And [a] pos) tA := by
  intro wh pins s σ H Q I h
  refine isTrue_and (thn (ha pins s σ H Q I h) fun c s1 e => ?_)
  cases c with
  | true => exact isTrue_and_nil e
  | false => exact e
theorem pw_or1 (ha : PT X a tA) : PW X (.BoolOp .Or [a] pos) tA := by
  intro wh pins s σ H Q I h
  refine isTrue_or (thn (ha pins s σ H Q I h) fun c s1 e => ?_)
  cases c with
  | false => exact isTrue_or_nil e
  | true => exact e
theorem pw_and (ha : PT X a tA) (hb : PW X (.BoolOp .And (b :: rest) pos) tB') : PW X (.BoolOp .And (a :: b :: rest) pos) (tAnd tA tB') := by
  intro wh pins s σ H Q I h
  refine isTrue_and (thn (ha pins s σ H _ I h) fun c s1 ⟨H1, I1, q1⟩ => ?_)
  cases c with
  | true => exact hb wh pins s1 σ H1 Q I1 q1
  | false => exact ⟨H1, I1, q1⟩
theorem pw_or (ha : PT X a tA) (hb : PW X (.BoolOp .Or (b :: rest) pos) tB') : PW X (.BoolOp .Or (a :: b :: rest) pos) (tOr tA tB') := by
  intro wh pins s σ H Q I h
  refine isTrue_or (thn (ha pins s σ H _ I h) fun c s1 ⟨H1, I1, q1⟩ => ?_)
  cases c with
  | true => exact ⟨H1, I1, q1⟩
  | false => exact hb wh pins s1 σ H1 Q I1 q1
theorem pt_not (ha : PT X a tA) : PT X (.UnaryOp .Not a pos) (tNot tA) := by
  intro pins s σ H Q I h
  exact isTrue_not (ha pins s σ H (fun c H1 => Q (!c) H1) I h)
def tAndV (ta tb : TE) : TE := fun σ H Q => ta σ H fun x H1 => ∃ c, x = .bl c ∧ if c = true then tb σ H1 Q else Q (.bl false) H1
def tOrV (ta tb : TE) : TE := fun σ H Q => ta σ H fun x H1 => ∃ c, x = .bl c ∧ if c = true then Q (.bl true) H1 else tb σ H1 Q
def tNotV (ta : TE) : TE := fun σ H Q => ta σ H fun x H1 => ∃ c, x = .bl c ∧ Q (.bl (!c)) H1
theorem pe_one {op} {t : TE} (h : PE X a t) : PE X (.BoolOp op [a] pos) t := fun pins s σ H Q I hw => BoolOp_one (h pins s σ H Q I hw)
theorem pe_and (ha : PE X a ta) (hb : PE X (.BoolOp .And (b :: rest) pos) tb) : PE X (.BoolOp .And (a :: b :: rest) pos) (tAndV ta tb) := by
  intro pins s σ H Q I h
  refine BoolOp_and (thn (ha pins s σ H _ I h) fun v s1 ⟨x, H1, I1, r1, q1⟩ => ?_)
  obtain ⟨c, rfl, q1⟩ := q1
  cases r1
  refine wpAny_truthy_bool ?_
  cases c with
  | true => exact hb pins s1 σ H1 Q I1 q1
  | false => exact ⟨.bl false, H1, I1, rfl, q1⟩
theorem pe_not (ha : PE X a ta) : PE X (.UnaryOp .Not a pos) (tNotV ta) := by
  intro pins s σ H Q I h
  refine UnaryOp_ (thn (ha pins s σ H _ I h) fun v s1 ⟨x, H1, I1, r1, q1⟩ => ?_)
  obtain ⟨c, rfl, q1⟩ := q1
  cases r1
  exact not_of (wpAny_truthy_bool ⟨.bl (!c), H1, I1, rfl, q1⟩)
def tIf (t : TT) (ta tb : TE) : TE := fun σ H Q => t σ H fun c H1 => if c = true then ta σ H1 Q else tb σ H1 Q
end
end L2
namespace L2
open PySem PySem.Spec PyProof.Rows
def SqL (K : PySem.W.Frag) (H : Hp) (a : Addr) (xs : List V) : Prop :=
  Rd H a (.lst xs) ∨
    ∃ (o : Obj) (its : Array Value) (n : Nat), K.lookup a = some o ∧ o.cls = .type "list" ∧ o.dict = none ∧ o.data = .seq its n ∧ its.size ≤ sizeLine ∧ Vals xs its.toList
def SqT (K : PySem.W.Frag) (H : Hp) (a : Addr) (xs : List V) : Prop :=
  Rd H a (.tup xs) ∨
    ∃ (o : Obj) (its : Array Value) (n : Nat), K.lookup a = some o ∧ o.cls = .type "tuple" ∧ o.data = .seq its n ∧ its.size ≤ sizeLine ∧ Vals xs its.toList
def absV : Value → Option V
  | .none => some .non
  | .bool b => some (.bl b)
  | .int i _ => some (.int i)
  | .str x _ => some (.str x)
  | .bytes b _ => some (.byt b)
  | .float b _ => some (.flt b)
  | .ref a => some (.ref a)
  | .type n => some (.ty n)
  | _ => none
theorem RelV.abs {x : V} {u : Value} (r : RelV x u) : absV u = some x := by
  cases x with
  | non => cases r; rfl
  | bl _ => cases r; rfl
  | int _ => obtain ⟨t, rfl⟩ := r; rfl
  | str _ => obtain ⟨t, rfl⟩ := r; rfl
  | byt _ => obtain ⟨t, rfl⟩ := r; rfl
  | flt _ => obtain ⟨t, rfl⟩ := r; rfl
  | ref _ => cases r; rfl
  | ty _ => cases r; rfl
theorem RelV.inj {x y : V} {u : Value} (r : RelV x u) (q : RelV y u) : x = y := Option.some.inj (r.abs.symm.trans q.abs)
theorem Vals.inj : ∀ {xs ys : List V} {us : List Value}, Vals xs us → Vals ys us → xs = ys
  | _, _, _, .nil, .nil => rfl
  | _, _, _, .cons r t, .cons r' t' => by rw [r.inj r', Vals.inj t t']
section
variable {X : Cx} {pins : List (Addr × Obj)} {σ : St} {H : Hp} {s : Shared} {a : Addr} {xs ys : List V}
theorem SqL.of {K : PySem.W.Frag} (h : H a = some (.lst xs)) : SqL K H a xs := .inl (.inl h)
theorem SqT.of {K : PySem.W.Frag} (h : H a = some (.tup xs)) : SqT K H a xs := .inl (.inl h)
theorem Inv.list (I : Inv X pins σ H s) (h : SqL X.K H a xs) : ∃ its : List Value, Vals xs its ∧ PlainL s.heap a its.toArray ∧ xs.length ≤ sizeLine := by
  rcases h with h | ⟨o, its, n, hk, hc, hd, hs, hz, r⟩
  · obtain ⟨z, its, n, r, e⟩ := h.ok I.hok
    exact ⟨its, r, ⟨_, n, e, rfl, rfl, rfl⟩, z⟩
  · refine ⟨its.toList, r, ⟨o, n, I.kIn a o hk, hc, hd, by simpa using hs⟩, ?_⟩
    have e := r.length
    simp only [Array.length_toList] at e
    omega
theorem Inv.tuple (I : Inv X pins σ H s) (h : SqT X.K H a xs) : ∃ its : List Value, Vals xs its ∧ IsTup s.heap a its.toArray ∧ xs.length ≤ sizeLine := by
  rcases h with h | ⟨o, its, n, hk, hc, hs, hz, r⟩
  · obtain ⟨z, its, r, p⟩ := h.ok I.hok
    exact ⟨its, r, p, z⟩
  · refine ⟨its.toList, r, ⟨o, I.kIn a o hk, hc, n, by simpa using hs⟩, ?_⟩
    have e := r.length
    simp only [Array.length_toList] at e
    omega
theorem Inv.list_inj (I : Inv X pins σ H s) (h : SqL X.K H a xs) (h' : SqL X.K H a ys) : xs = ys := by
  obtain ⟨its, r, ⟨o, n, e, _, _, d⟩, _⟩ := I.list h
  obtain ⟨its', r', ⟨o', n', e', _, _, d'⟩, _⟩ := I.list h'
  rw [e] at e'; cases e'
  rw [d] at d'
  injection d' with d1 _
  have : its = its' := by simpa using congrArg Array.toList d1
  subst this
  exact r.inj r'
theorem Inv.tuple_inj (I : Inv X pins σ H s) (h : SqT X.K H a xs) (h' : SqT X.K H a ys) : xs = ys := by
  obtain ⟨its, r, ⟨o, e, _, n, d⟩, _⟩ := I.tuple h
  obtain ⟨its', r', ⟨o', e', _, n', d'⟩, _⟩ := I.tuple h'
  rw [e] at e'; cases e'
  rw [d] at d'
  injection d' with d1 _
  have : its = its' := by simpa using congrArg Array.toList d1
  subst this
  exact r.inj r'
end
abbrev Cx.wish (X : Cx) (E : Value → Shared → Prop) : Cx := { X with xe := E }
abbrev Cx.nox (X : Cx) : Cx := X.wish fun _ _ => False
theorem Cx.Ok.wish {X : Cx} (ok : X.Ok) (E : Value → Shared → Prop) : (X.wish E).Ok :=
  ⟨ok.mod, ok.kind, ok.glob, ok.blt, ok.above, ok.inj, ok.has, ok.cab, ok.hd, ok.frames, ok.stk, ok.exf, ok.bs, ok.bsz, ok.noex, ok.exfs, ok.funs, ok.frf⟩
theorem Cx.Ok.unwish {X : Cx} {E : Value → Shared → Prop} (ok : (X.wish E).Ok) : X.Ok :=
  ⟨ok.mod, ok.kind, ok.glob, ok.blt, ok.above, ok.inj, ok.has, ok.cab, ok.hd, ok.frames, ok.stk, ok.exf, ok.bs, ok.bsz, ok.noex, ok.exfs, ok.funs, ok.frf⟩
section
variable {X : Cx} {pins : List (Addr × Obj)} {σ : St} {H : Hp} {s : Shared} {E : Value → Shared → Prop}
theorem Inv.wish (I : Inv X pins σ H s) (E : Value → Shared → Prop) : Inv (X.wish E) pins σ H s := ⟨I.ok.wish E, I.os, I.bare, I.base, I.loc, I.cell, I.free, I.freeC, I.pin, I.hok, I.len⟩
theorem Inv.unwish (I : Inv (X.wish E) pins σ H s) : Inv X pins σ H s := ⟨I.ok.unwish, I.os, I.bare, I.base, I.loc, I.cell, I.free, I.freeC, I.pin, I.hok, I.len⟩
theorem SP.unwish {D : Ends} {f : Flow} {s' : Shared} (h : SP (X.wish E) pins D f s') : SP X pins D f s' := by
  cases f with
  | next => obtain ⟨σ', H', I, q⟩ := h; exact ⟨σ', H', I.unwish, q⟩
  | brk => obtain ⟨σ', H', I, q⟩ := h; exact ⟨σ', H', I.unwish, q⟩
  | cont => obtain ⟨σ', H', I, q⟩ := h; exact ⟨σ', H', I.unwish, q⟩
  | ret u => obtain ⟨v, σ', H', I, r, q⟩ := h; exact ⟨v, σ', H', I.unwish, r, q⟩
theorem PE.nox {e : Expr} {t : TE} (h : PE X.nox e t) : PE X e t := fun pins s σ H Q I hw =>
  wpAny_mono (h pins s σ H Q (I.wish _) hw) (fun _ _ ⟨v, H', I', r, q⟩ => ⟨v, H', I'.unwish, r, q⟩) fun _ _ z => False.elim z
theorem PT.nox {e : Expr} {t : TT} (h : PT X.nox e t) : PT X e t := fun pins s σ H Q I hw =>
  wpAny_mono (h pins s σ H Q (I.wish _) hw) (fun _ _ ⟨H', I', q⟩ => ⟨H', I'.unwish, q⟩) fun _ _ z => False.elim z
theorem PSs.nox {st : List Stmt} {t : TS} (h : PSs X.nox st t) : PSs X st t := fun pins s σ H D I hw =>
  wpAny_mono (h pins s σ H D (I.wish _) hw) (fun _ _ q => q.unwish) fun _ _ z => False.elim z
end
section
variable {X : Cx} {st : Stmt} {rest : List Stmt} {t u : TS} {e : Expr} {te : TE} {pos : Pos}
def tNext : TS := fun D σ H => D.nx σ H
def tSeq (t u : TS) : TS := fun D σ H => t { D with nx := u D } σ H
theorem pss_nil : PSs X [] tNext := fun _ _ σ H _ I h => wpAny_execs_nil ⟨σ, H, I, h⟩
theorem pss_cons (h1 : PS X st t) (h2 : PSs X rest u) : PSs X (st :: rest) (tSeq t u) := by
  intro pins s σ H D I h
  refine wpAny_execs_cons (thn (h1 pins s σ H { D with nx := u D } I h) fun f s1 q => ?_)
  cases f with
  | next =>
    obtain ⟨σ', H', I', q⟩ := q
    exact h2 pins s1 σ' H' D I' q
  | ret v => exact q
  | brk => exact q
  | cont => exact q
theorem pss_one (h1 : PS X st t) : PSs X [st] t := by
  intro pins s σ H D I h
  refine wpAny_execs_cons (thn (h1 pins s σ H D I h) fun f s1 q => ?_)
  cases f with
  | next => exact wpAny_execs_nil q
  | ret v => exact q
  | brk => exact q
  | cont => exact q
theorem Inv.quiet {pins : List (Addr × Obj)} {σ : St} {H : Hp} {s : Shared} (I : Inv X pins σ H s) : interactive X.env = false := by simp [interactive, I.ok.kind]
def tDrop (te : TE) : TS := fun D σ H => te σ H fun _ H1 => D.nx σ H1
theorem ps_expr (he : PE X e te) (hs : swapsWith e none pos.line X.env = pure false := by rfl) : PS X (.Expr e pos) (tDrop te) := by
  intro pins s σ H D I h
  exact wpAny_Expr_any (thn (he pins s σ H _ I h) fun v s1 ⟨x, H1, I1, r1, q1⟩ => ⟨σ, H1, I1, q1⟩) I.quiet hs
def tRet (te : TE) : TS := fun D σ H => te σ H D.rt
theorem ps_ret (he : PE X e te) : PS X (.Return (some e) pos) (tRet te) := by
  intro pins s σ H D I h
  exact wpAny_Return_some (thn (he pins s σ H _ I h) fun v s1 ⟨x, H1, I1, r1, q1⟩ => ⟨x, σ, H1, I1, r1, q1⟩)
def tRetN : TS := fun D _ H => D.rt .non H
def tIfS (c : TT) (t u : TS) : TS := fun D σ H => c σ H fun b H1 => if b = true then t D σ H1 else u D σ H1
theorem ps_if {c : Expr} {a b : List Stmt} {tc : TT} (hc : PT X c tc) (ha : PSs X a t) (hb : PSs X b u) : PS X (.If c a b pos) (tIfS tc t u) := by
  intro pins s σ H D I h
  refine wpAny_If (thn (hc pins s σ H _ I h) fun d s1 ⟨H1, I1, q1⟩ => ?_)
  cases d with
  | true => exact ha pins s1 σ H1 D I1 q1
  | false => exact hb pins s1 σ H1 D I1 q1
def tNever : TS := fun _ _ _ => False
end
abbrev TG := V → St → Hp → (St → Hp → Prop) → Prop
abbrev TGs := List V → St → Hp → (St → Hp → Prop) → Prop
def PG (X : Cx) (target : Expr) (t : TG) : Prop :=
  ∀ (pins : List (Addr × Obj)) (s : Shared) (σ : St) (H : Hp) (v : V) (u : Value) (Q : St → Hp → Prop), Inv X pins σ H s → RelV v u → t v σ H Q →
    wpAny (model X.prog X.w) X.A (assign target X.env u) (fun _ s' => ∃ σ' H', Inv X pins σ' H' s' ∧ Q σ' H') X.xe s
def PGs (X : Cx) (ts : List Expr) (t : TGs) : Prop :=
  ∀ (pins : List (Addr × Obj)) (s : Shared) (σ : St) (H : Hp) (vs : List V) (us : List Value) (Q : St → Hp → Prop), Inv X pins σ H s → Vals vs us → t vs σ H Q →
    wpAny (model X.prog X.w) X.A (assignInOrder ((assignEach ts X.env).map (·.2)) us) (fun _ s' => ∃ σ' H', Inv X pins σ' H' s' ∧ Q σ' H') X.xe s
abbrev TSet := V → V → V → Hp → (Hp → Prop) → Prop
abbrev TIp := V → V → Hp → VK → Prop
def PIp (X : Cx) (op : Operator) (t : TIp) : Prop :=
  ∀ (pins : List (Addr × Obj)) (s : Shared) (σ : St) (H : Hp) (x y : V) (v u : Value) (Q : VK), Inv X pins σ H s → RelV x v → RelV y u → t x y H Q →
    wpAny (model X.prog X.w) X.A (inplaceOp op v u) (EP X pins σ Q) X.xe s
section
variable {X : Cx} {pos : Pos}
def gName (i : Nat) : TG := fun v σ H Q => Q (σ.set i (some v)) H
theorem pg_name {i : Nat} {x : Str} (hN : X.N.Nodup) (hi : X.N[i]? = some x) (hx : Loc X.env.scope x) (hf : X.fn x = true ∨ X.env.scope.names.lookup x = some .local := by first | exact .inl rfl | exact .inr rfl | assumption) : PG X (.Name x pos) (gName i) := by
  intro pins s σ H v u Q I r h
  exact wpAny_assign_Name (store_ok I hN hi hx r (fun s' I' => ⟨_, H, I', h⟩) hf)
def gNil : TGs := fun vs σ H Q => vs = [] ∧ Q σ H
def gCons (t : TG) (u : TGs) : TGs := fun vs σ H Q => ∃ v r, vs = v :: r ∧ t v σ H fun σ' H' => u r σ' H' Q
theorem pgs_nil : PGs X [] gNil := by
  intro pins s σ H vs us Q I r h
  obtain ⟨e, h⟩ := h
  subst e
  cases r
  exact assignInOrder_nil ⟨σ, H, I, h⟩
theorem pgs_cons {e : Expr} {es : List Expr} {t : TG} {u : TGs} (h1 : PG X e t) (h2 : PGs X es u)
    (hs : (assignEach (e :: es) X.env).map (·.2) = assign e X.env :: (assignEach es X.env).map (·.2) := by rfl) : PGs X (e :: es) (gCons t u) := by
  intro pins s σ H vs us Q I r h
  obtain ⟨v, vr, e1, h⟩ := h
  subst e1
  cases r with
  | cons r rr =>
    rw [hs]
    refine assignInOrder_cons (thn (h1 pins s σ H _ _ _ I r h) fun _ s1 ⟨σ1, H1, I1, q1⟩ => ?_)
    exact h2 pins s1 σ1 H1 _ _ Q I1 rr q1
def gTup (K : PySem.W.Frag) (n : Nat) (t : TGs) : TG := fun v σ H Q => ∃ a xs, v = .ref a ∧ SqT K H a xs ∧ xs.length = n ∧ t xs σ H Q
theorem pg_tup {es : List Expr} {k : Nat} {t : TGs} {n : Nat} (hc : X.calm = true) (h : PGs X es t)
    (hn : (assignEach es X.env).length = n := by rfl) (hst : (assignEach es X.env).findIdx? (·.1) = none := by rfl) : PG X (.Tuple es k pos) (gTup X.K n t) := by
  intro pins s σ H v u Q I r hw
  obtain ⟨a, xs, e1, hq, hl, hw⟩ := hw
  subst e1
  cases r
  obtain ⟨its, rv, ht, hz⟩ := I.tuple hq
  refine assign_Tuple_tuple (I.ok.hd hc) ht (by simp [hn, ← hl, rv.length]) hst fun h' hx => ?_
  have I1 : Inv X pins σ H { s with heap := h' } := I.kept (t' := s.toks) fun b o e => hx b o (Nat.ne_of_lt (Heap.lt_size e)) e
  exact h pins _ σ H xs _ Q I1 (by simpa using rv) hw
def gSub (to ti : TE) (t : TSet) : TG := fun v σ H Q => to σ H fun o H1 => ti σ H1 fun i H2 => t o i v H2 fun H3 => Q σ H3
def tAsg (te : TE) (g : TG) : TS := fun D σ H => te σ H fun x H1 => g x σ H1 D.nx
theorem ps_asg {tg e : Expr} {te : TE} {g : TG} (he : PE X e te) (hg : PG X tg g) (hs : swapsWithSole [tg] e pos.line X.env = pure false := by rfl) (hw : swappedStores [tg] e X.env = pure none := by rfl)
    (h1 : (assignEach [tg] X.env).map (·.2) = [assign tg X.env] := by rfl) : PS X (.Assign [tg] e pos) (tAsg te g) := by
  intro pins s σ H D I h
  refine wpAny_Assign_stores (thn (he pins s σ H _ I h) fun v s1 ⟨x, H1, I1, r1, q1⟩ => ?_) hs hw
  rw [h1]
  exact thn (hg pins s1 σ H1 x v _ I1 r1 q1) fun _ s2 q => q
theorem ps_set {i : Nat} {x : Str} {e : Expr} {te : TE} {pos' : Pos} (hN : X.N.Nodup) (hi : X.N[i]? = some x) (hx : Loc X.env.scope x) (he : PE X e te) (hs : swapsWith e (some (.Name x pos')) pos.line X.env = pure false := by rfl) (hf : X.fn x = true ∨ X.env.scope.names.lookup x = some .local := by first | exact .inl rfl | exact .inr rfl | assumption) :
    PS X (.Assign [.Name x pos'] e pos) (tAsg te (gName i)) := by
  intro pins s σ H D I h
  refine wpAny_Assign_Name (thn (he pins s σ H _ I h) fun v s1 ⟨y, H1, I1, r1, q1⟩ => ?_) hs
  exact store_ok I1 hN hi hx r1 (fun s2 I2 => ⟨_, H1, I2, q1⟩) hf
def tAug (i : Nat) (te : TE) (ti : TIp) : TS := fun D σ H => ∃ x, σ[i]? = some (some x) ∧ te σ H fun y H1 => ti x y H1 fun z H2 => D.nx (σ.set i (some z)) H2
theorem ps_aug {i : Nat} {x : Str} {e : Expr} {te : TE} {op : Operator} {ti : TIp} {pos' : Pos} (hN : X.N.Nodup) (hi : X.N[i]? = some x) (hx : Loc X.env.scope x) (he : PE X e te) (ho : PIp X op ti) (hf : X.fn x = true ∨ X.env.scope.names.lookup x = some .local := by first | exact .inl rfl | exact .inr rfl | assumption) :
    PS X (.AugAssign (.Name x pos') op e pos) (tAug i te ti) := by
  intro pins s σ H D I h
  obtain ⟨v, e1, h⟩ := h
  obtain ⟨m, hn, hl⟩ := I.loc
  have vis : Vis X.env.scope x := by rcases hx with k | k; exact .inl k; exact .inr (.inl k)
  obtain ⟨u, r, l⟩ := hl i x v hi e1 vis
  refine wpAny_AugAssign_Name ?_
  have go : wpAny (model X.prog X.w) X.A (eval e X.env) (fun w s₂ => wpAny (model X.prog X.w) X.A (inplaceOp op u w) (fun r s₃ => wpAny (model X.prog X.w) X.A (storeName X.env x r) (fun _ => SP X pins D .next) X.xe s₃) X.xe s₂) X.xe s := by
    refine thn (he pins s σ H _ I h) fun w s1 ⟨y, H1, I1, r1, q1⟩ => ?_
    refine thn (ho pins s1 σ H1 v y u w _ I1 r r1 q1) fun z s2 ⟨zv, H2, I2, r2, q2⟩ => ?_
    exact store_ok I2 hN hi hx r2 (fun s3 I3 => ⟨_, H2, I3, q2⟩) hf
  rcases l with ⟨hk, hm⟩ | ⟨hk, c, hc, hcell⟩
  · exact wpAny_loadName_local I.ok.kind hk hn hm go
  · rcases hk with hk | hk
    · exact wpAny_loadName_cell I.ok.kind hk hc hcell go
    · rcases hx with k | k
      · have : X.env.scope.names.lookup x = some .free := hk
        rw [k] at this; cases this
      · have : X.env.scope.names.lookup x = some .free := hk
        rw [k] at this; cases this
def ipI (f : Int → Int → Int) : TIp := fun x y H Q => ∃ i j, x = .int i ∧ y = .int j ∧ Q (.int (f i j)) H
theorem ip_add : PIp X .Add (ipI fun i j => i + j) := by
  intro pins s σ H x y v u Q I r1 r2 h
  obtain ⟨i, j, e1, e2, q⟩ := h
  subst e1; subst e2
  obtain ⟨t, rfl⟩ := r1
  obtain ⟨t', rfl⟩ := r2
  exact iadd_int ⟨.int _, H, I.tok _, ⟨_, rfl⟩, q⟩
end
section
variable {X : Cx} {pos : Pos}
def tWhile (c : TT) (tb : TS) : TS := fun D σ H => ∃ W : Nat → St → Hp → Prop, (∃ m, W m σ H) ∧ ∀ m σ H, W m σ H →
  c σ H fun b H1 => if b = true then ∃ N : St → Hp → Prop, (∀ σ' H', N σ' H' → ∃ m', m' < m ∧ W m' σ' H') ∧ tb { D with nx := N, ct := N, bk := D.nx } σ H1 else D.nx σ H1
theorem ps_while {c : Expr} {body : List Stmt} {tc : TT} {tb : TS} (hp : PassesOwn (model X.prog X.w) X.A X.env X.xe) (hc : PT X c tc) (hb : PSs X body tb) : PS X (.While c body [] pos) (tWhile tc tb) := by
  intro pins s σ H D I h
  obtain ⟨W, ⟨m0, w0⟩, turn⟩ := h
  refine wpAny_While (codeAny_whileLoop (fun n s' => ∃ σ' H', Inv X pins σ' H' s' ∧ W n σ' H') ?_ m0 ⟨σ, H, I, w0⟩)
  rintro n s1 ⟨σ1, H1, I1, w1⟩
  refine wpAny_passesOwn hp (thn (hc pins s1 σ1 H1 _ I1 (turn n σ1 H1 w1)) fun b s2 ⟨H2, I2, q2⟩ => ?_)
  cases b with
  | true =>
    obtain ⟨N, hN, q2⟩ := q2
    rw [if_pos rfl]
    refine wpAny_passesOwn hp (thn (hb pins s2 σ1 H2 _ I2 q2) fun f s3 q3 => ?_)
    cases f with
    | next =>
      obtain ⟨σ3, H3, I3, n3⟩ := q3
      obtain ⟨m', hm, w3⟩ := hN σ3 H3 n3
      exact ⟨m', hm, σ3, H3, I3, w3⟩
    | cont =>
      obtain ⟨σ3, H3, I3, n3⟩ := q3
      obtain ⟨m', hm, w3⟩ := hN σ3 H3 n3
      exact ⟨m', hm, σ3, H3, I3, w3⟩
    | brk => exact q3
    | ret v => exact q3
  | false =>
    rw [if_neg Bool.false_ne_true]
    exact wpAny_execs_nil ⟨σ1, H2, I2, q2⟩
end
structure It where
  go : Nat → Hp → Prop
  yld : Nat → Hp → V → Hp → Prop
  stop : Nat → Hp → Prop
def FpOk (X : Cx) (pins : List (Addr × Obj)) (H : Hp) (b : Addr) : Prop :=
  H b = none ∧ b ≠ X.env.locals ∧ b ∉ X.fs ∧ (b ∈ X.ex ∨ X.s₀.heap.objs.size ≤ b) ∧ (∀ x c, X.env.cells.lookup x = some c → c ≠ b) ∧ ∀ p ∈ X.pn ++ pins, p.1 ≠ b
theorem Inv.fpOk {X : Cx} {pins : List (Addr × Obj)} {σ : St} {H H' : Hp} {s : Shared} {b : Addr} (I : Inv X pins σ H s) (hb : s.heap.objs.size ≤ b) (hn : H' b = none) : FpOk X pins H' b := by
  refine ⟨hn, Nat.ne_of_gt (Nat.lt_of_lt_of_le I.lt hb), I.nofs hb, .inr (Nat.le_trans I.sz hb), fun x c e z => ?_, fun p hp z => ?_⟩
  · obtain ⟨v, q⟩ := I.cell x c e
    exact absurd (Nat.lt_of_lt_of_le q.lt (by rw [z]; exact hb)) (Nat.lt_irrefl _)
  · exact absurd (Nat.lt_of_lt_of_le (Heap.lt_size (I.pin p hp).1) (by rw [z]; exact hb)) (Nat.lt_irrefl _)
structure Turn (P : Program) (w : World) (K : PySem.W.Frag) (tg : Expr) (J : It) (fp : List Addr) (it : Addr) (tn : Nat → Heap → Prop) : Prop where
  mem : it ∈ fp
  obj : ∀ i h, tn i h → ∀ b ∈ fp, ∃ o, h.get? b = some o ∧ ∀ v, o.data ≠ .cell v
  keep : ∀ i h h', tn i h → (∀ b ∈ fp, ∀ o, h.get? b = some o → h'.get? b = some o) → tn i h'
  item : ∀ (X : Cx), X.prog = P → X.w = w → X.K = K → X.calm = true → ∀ (i : Nat) (pins : List (Addr × Obj)) (s : Shared) (σ : St) (H : Hp) (E : Value → Shared → Prop), Inv X pins σ H s → (∀ b ∈ fp, FpOk X pins H b) → tn i s.heap → J.go i H →
    wpAny (model P w) X.A (pyNext (.ref it)) (fun r s1 => ∃ u, r = some u ∧
      wpAny (model P w) X.A (letOwnedTupleGo tg (.ref it) u) (fun _ s2 => ∃ x H', Inv X pins σ H' s2 ∧ RelV x u ∧ J.yld i H x H' ∧ tn (i + 1) s2.heap ∧ ∀ b ∈ fp, H' b = none) E s1) E s
  done : ∀ (X : Cx), X.prog = P → X.w = w → X.K = K → X.calm = true → ∀ (i : Nat) (pins : List (Addr × Obj)) (s : Shared) (σ : St) (H : Hp) (E : Value → Shared → Prop), Inv X pins σ H s → (∀ b ∈ fp, FpOk X pins H b) → tn i s.heap → J.stop i H →
    wpAny (model P w) X.A (pyNext (.ref it)) (fun r s1 => r = none ∧ Inv X pins σ H s1) E s
  self : ∀ (A : Around) (i : Nat) (s : Shared) (Q : Value → Shared → Prop) (E : Value → Shared → Prop), tn i s.heap → Q (.ref it) s → wpAny (model P w) A (pyIter (.ref it)) Q E s
abbrev TI := St → Hp → (It → Hp → Prop) → Prop
def PIE (X : Cx) (pins : List (Addr × Obj)) (σ : St) (tg : Expr) (R : It → Hp → Prop) (itv : Value) (s2 : Shared) : Prop :=
  ∃ (it : Addr) (fp : List Addr) (tn : Nat → Heap → Prop) (J : It) (H' : Hp), itv = .ref it ∧ Inv X pins σ H' s2 ∧ Turn X.prog X.w X.K tg J fp it tn ∧ tn 0 s2.heap ∧ (∀ b ∈ fp, FpOk X pins H' b) ∧ R J H'
def PI (X : Cx) (tg iter : Expr) (wi : TI) : Prop :=
  ∀ (pins : List (Addr × Obj)) (s : Shared) (σ : St) (H : Hp) (R : It → Hp → Prop), Inv X pins σ H s → wi σ H R →
    wpAny (model X.prog X.w) X.A (eval iter X.env) (fun v s1 => wpAny (model X.prog X.w) X.A (pyIter v) (PIE X pins σ tg R) X.xe s1) X.xe s
theorem go_of {M : Model} {A : Around} {E : Value → Shared → Prop} {s : Shared} {tg : Expr} {it : Addr} {u : Value} {o : Obj} {n : String} {vs : Array Value} {Q : Unit → Shared → Prop} (ho : s.heap.get? it = some o) (hc : o.cls = .type n) (hd : o.data = .fields vs)
    (hn : ["enumerate", "zip", "dict_itemiterator", "dict_reverseitemiterator", "odict_iterator", "itertools.zip_longest", "itertools.pairwise"].contains n = false) (hQ : Q () s) : wpAny M A (letOwnedTupleGo tg (.ref it) u) Q E s := by
  unfold letOwnedTupleGo
  cases tg <;> first
    | exact wpAny_pure hQ
    | (cases u <;> first
        | exact wpAny_pure hQ
        | (refine wpAny_bind (wpAny_load ho ?_)
           rw [hc, hd]
           show wpAny M A (if (["enumerate", "zip", "dict_itemiterator", "dict_reverseitemiterator", "odict_iterator", "itertools.zip_longest", "itertools.pairwise"].contains n && vs[0]? == some (rawInt _)) = true then _ else _) Q E s
           rw [if_neg (by intro h; rw [hn, Bool.false_and] at h; cases h)]
           exact wpAny_pure hQ))
def Itl (K : PySem.W.Frag) (a : Addr) : It :=
  ⟨fun i H => ∃ xs x, SqL K H a xs ∧ xs[i]? = some x, fun i H x H' => H' = H ∧ ∀ xs, SqL K H a xs → xs[i]? = some x, fun i H => ∃ xs, SqL K H a xs ∧ xs.length ≤ i⟩
def Itt (K : PySem.W.Frag) (a : Addr) : It :=
  ⟨fun i H => ∃ xs x, SqT K H a xs ∧ xs[i]? = some x, fun i H x H' => H' = H ∧ ∀ xs, SqT K H a xs → xs[i]? = some x, fun i H => ∃ xs, SqT K H a xs ∧ xs.length ≤ i⟩
def Itr (lo : Int) (n : Nat) : It := ⟨fun i _ => i < n, fun i H x H' => H' = H ∧ x = .int (lo + i), fun i _ => n ≤ i⟩
theorem turn_list {P : Program} {w : World} {K : PySem.W.Frag} {tg : Expr} (a it : Addr) : Turn P w K tg (Itl K a) [it] it (fun i h => h.IsListIter it a i) where
  mem := by simp
  obj := fun i h st b hb => by
    have e : b = it := by simpa using hb
    subst e
    obtain ⟨o, e, c, d⟩ := st
    exact ⟨o, e, fun v z => by rw [d] at z; cases z⟩
  keep := fun i h h' st k => st.at fun o e => k it (by simp) o e
  item := by
    intro X hP hw hK hc i pins s σ H E I hf st hg
    subst hP hw hK
    obtain ⟨xs, x, hq, hx⟩ := hg
    obtain ⟨its, rv, p, hz⟩ := I.list hq
    obtain ⟨u, hu, ru⟩ := rv.get hx
    obtain ⟨f0, f1, f2, f3, f4, f5⟩ := hf it (by simp)
    refine wpAny_pyNext_list_item st p.isList (x := u) (by simpa using hu) fun h' st' sb => ?_
    have I1 : Inv X pins σ H { s with heap := h' } := I.turned (t' := s.toks) (fun b o hb e => (sb.2 b hb).trans e) f0 f1 f3 f4 f5
    obtain ⟨o, e, c, d⟩ := id st'
    exact ⟨u, rfl, go_of (s := { s with heap := h' }) e c d (by decide) ⟨x, H, I1, ru, ⟨rfl, fun ys hy => by rw [I.list_inj hy hq]; exact hx⟩, st', fun b hb => (hf b hb).1⟩⟩
  done := by
    intro X hP hw hK hc i pins s σ H E I hf st hg
    subst hP hw hK
    obtain ⟨xs, hq, hx⟩ := hg
    obtain ⟨its, rv, p, hz⟩ := I.list hq
    obtain ⟨f0, f1, f2, f3, f4, f5⟩ := hf it (by simp)
    have hl := rv.length
    exact wpAny_pyNext_list_end (I.ok.hd hc) st p.isList (by simp; omega) fun h' eb => ⟨rfl, I.turned (t' := s.toks) (fun b o hb e => eb b o hb e) f0 f1 f3 f4 f5⟩
  self := fun _ _ _ _ _ st h => wpAny_pyIter_listiter st h
theorem turn_tuple {P : Program} {w : World} {K : PySem.W.Frag} {tg : Expr} (a it : Addr) : Turn P w K tg (Itt K a) [it] it (fun i h => h.IsTupleIter it a i) where
  mem := by simp
  obj := fun i h st b hb => by
    have e : b = it := by simpa using hb
    subst e
    obtain ⟨o, e, c, d⟩ := st
    exact ⟨o, e, fun v z => by rw [d] at z; cases z⟩
  keep := fun i h h' st k => st.at fun o e => k it (by simp) o e
  item := by
    intro X hP hw hK hc i pins s σ H E I hf st hg
    subst hP hw hK
    obtain ⟨xs, x, hq, hx⟩ := hg
    obtain ⟨its, rv, p, hz⟩ := I.tuple hq
    obtain ⟨u, hu, ru⟩ := rv.get hx
    obtain ⟨f0, f1, f2, f3, f4, f5⟩ := hf it (by simp)
    refine wpAny_pyNext_tuple_item st (show s.heap.IsTuple a its.toArray from p) (x := u) (by simpa using hu) fun h' st' sb => ?_
    have I1 : Inv X pins σ H { s with heap := h' } := I.turned (t' := s.toks) (fun b o hb e => (sb.2 b hb).trans e) f0 f1 f3 f4 f5
    obtain ⟨o, e, c, d⟩ := id st'
    exact ⟨u, rfl, go_of (s := { s with heap := h' }) e c d (by decide) ⟨x, H, I1, ru, ⟨rfl, fun ys hy => by rw [I.tuple_inj hy hq]; exact hx⟩, st', fun b hb => (hf b hb).1⟩⟩
  done := by
    intro X hP hw hK hc i pins s σ H E I hf st hg
    subst hP hw hK
    obtain ⟨xs, hq, hx⟩ := hg
    obtain ⟨its, rv, p, hz⟩ := I.tuple hq
    obtain ⟨f0, f1, f2, f3, f4, f5⟩ := hf it (by simp)
    have hl := rv.length
    exact wpAny_pyNext_tuple_end (I.ok.hd hc) st (show s.heap.IsTuple a its.toArray from p) (by simp; omega) fun h' eb => ⟨rfl, I.turned (t' := s.toks) (fun b o hb e => eb b o hb e) f0 f1 f3 f4 f5⟩
  self := fun _ _ _ _ _ st h => wpAny_pyIter_tupleiter st h
theorem turn_range {P : Program} {w : World} {K : PySem.W.Frag} {tg : Expr} (it : Addr) (lo : Int) (n : Nat) : Turn P w K tg (Itr lo n) [it] it (fun i h => IsRangeIter h it (lo + (i : Nat) * 1) ((n : Int) - (i : Nat)) 1) where
  mem := by simp
  obj := fun i h st b hb => by
    have e : b = it := by simpa using hb
    subst e
    exact ⟨_, st, fun v z => by
      have z' : Data.fields _ = Data.cell v := z
      cases z'⟩
  keep := fun i h h' st k => k it (by simp) _ st
  item := by
    intro X hP hw hK hc i pins s σ H E I hf st hg
    subst hP hw hK
    obtain ⟨f0, f1, f2, f3, f4, f5⟩ := hf it (by simp)
    have W := Walks.range (prog := X.prog) (w := X.w) (I.ok.hd hc) it lo 1 n
    refine W.item i s _ _ hg st fun v h' tk hv st' kk => ?_
    obtain ⟨t, rfl⟩ := hv
    have I1 : Inv X pins σ H { s with heap := h', toks := tk } := I.turned (fun b o hb e => kk b o (by simpa using hb) e) f0 f1 f3 f4 f5
    refine ⟨_, rfl, go_of (s := { s with heap := h', toks := tk }) (n := "range_iterator") st' rfl rfl (by decide) ⟨.int (lo + i), H, I1, ⟨t, ?_⟩, ⟨rfl, rfl⟩, st', fun b hb => (hf b hb).1⟩⟩
    rw [Int.mul_one]
  done := by
    intro X hP hw hK hc i pins s σ H E I hf st hg
    subst hP hw hK
    obtain ⟨f0, f1, f2, f3, f4, f5⟩ := hf it (by simp)
    exact wpAny_pyNext_range_end (I.ok.hd hc) st (by have : n ≤ i := hg; omega) fun h' eb => ⟨rfl, I.turned (t' := s.toks) (fun b o hb e => eb b o hb e) f0 f1 f3 f4 f5⟩
  self := fun _ _ _ _ _ st h => wpAny_pyIter_rangeiter st h
end L2
namespace L2
open PySem PySem.Spec PyProof.Rows
section
variable {X : Cx} {tg : Expr}
def iList (K : PySem.W.Frag) (tl : TE) : TI := fun σ H R => tl σ H fun x H1 => ∃ a, x = .ref a ∧ (∃ xs, SqL K H1 a xs) ∧ R (Itl K a) H1
def iTup (K : PySem.W.Frag) (tl : TE) : TI := fun σ H R => tl σ H fun x H1 => ∃ a, x = .ref a ∧ (∃ xs, SqT K H1 a xs) ∧ R (Itt K a) H1
theorem pi_list {l : Expr} {tl : TE} (hl : PE X l tl) : PI X tg l (iList X.K tl) := by
  intro pins s σ H R I h
  refine thn (hl pins s σ H _ I h) fun v s1 ⟨x, H1, I1, r1, q1⟩ => ?_
  obtain ⟨a, e, ⟨xs, hq⟩, q⟩ := q1
  subst e
  cases r1
  obtain ⟨its, rv, p, hz⟩ := I1.list hq
  refine wpAny_pyIter_list p.isList ?_
  refine ⟨s1.heap.objs.size, [s1.heap.objs.size], _, _, H1, rfl, I1.kept (t' := s1.toks) fun b o e => Heap.get?_push_of_some _ e, turn_list a _, ⟨_, Heap.get?_push_size _ rfl, rfl, rfl⟩, fun b hb => ?_, q⟩
  have e : b = s1.heap.objs.size := by simpa using hb
  subst e
  exact I1.fpOk (Nat.le_refl _) (I1.hok.fresh (Nat.le_refl _))
theorem pi_tup {l : Expr} {tl : TE} (hl : PE X l tl) : PI X tg l (iTup X.K tl) := by
  intro pins s σ H R I h
  refine thn (hl pins s σ H _ I h) fun v s1 ⟨x, H1, I1, r1, q1⟩ => ?_
  obtain ⟨a, e, ⟨xs, hq⟩, q⟩ := q1
  subst e
  cases r1
  obtain ⟨its, rv, p, hz⟩ := I1.tuple hq
  refine wpAny_pyIter_tuple (show s1.heap.IsTuple a its.toArray from p) ?_
  refine ⟨s1.heap.objs.size, [s1.heap.objs.size], _, _, H1, rfl, I1.kept (t' := s1.toks) fun b o e => Heap.get?_push_of_some _ e, turn_tuple a _, ⟨_, Heap.get?_push_size _ rfl, rfl, rfl⟩, fun b hb => ?_, q⟩
  have e : b = s1.heap.objs.size := by simpa using hb
  subst e
  exact I1.fpOk (Nat.le_refl _) (I1.hok.fresh (Nat.le_refl _))
theorem range_it {pins : List (Addr × Obj)} {σ : St} {H : Hp} {s : Shared} {R : It → Hp → Prop} {E : Value → Shared → Prop} {lo hi : Int} {t u v : Tok} {tk : Nat} (I : Inv X pins σ H s) (h1 : -(2 ^ 62) ≤ lo) (h2 : lo < 2 ^ 62) (h3 : -(2 ^ 62) ≤ hi) (h4 : hi < 2 ^ 62)
    (q : R (Itr lo (hi - lo).toNat) H) : wpAny (model X.prog X.w) X.A (pyIter (.ref s.heap.objs.size)) (PIE X pins σ tg R) E { s with heap := s.heap.push { cls := .type "range", data := .fields #[.int lo t, .int hi u, .int 1 v] }, toks := tk } := by
  refine wpAny_pyIter_range (IsRange.new ..) (small_one h1 h2 h3 h4) ?_
  have I1 : Inv X pins σ H { s with heap := s.heap.push { cls := .type "range", data := .fields #[.int lo t, .int hi u, .int 1 v] }, toks := tk } := I.kept fun b o e => Heap.get?_push_of_some _ e
  refine ⟨(s.heap.push { cls := .type "range", data := .fields #[.int lo t, .int hi u, .int 1 v] }).objs.size, [(s.heap.push { cls := .type "range", data := .fields #[.int lo t, .int hi u, .int 1 v] }).objs.size], _, _, H, rfl,
    I1.kept (t' := tk) fun b o e => Heap.get?_push_of_some _ e, turn_range _ lo (hi - lo).toNat, ?_, fun b hb => ?_, q⟩
  · have e1 : lo + ((0 : Nat) : Int) * 1 = lo := by simp
    have e2 : (((hi - lo).toNat : Nat) : Int) - ((0 : Nat) : Int) = Builtin.Range.rangeSize lo hi 1 := by rw [rangeSize_one]; split <;> omega
    show IsRangeIter _ _ (lo + ((0 : Nat) : Int) * 1) ((((hi - lo).toNat : Nat) : Int) - ((0 : Nat) : Int)) 1
    rw [e1, e2]
    exact Heap.get?_push_size _ rfl
  · have e : b = (s.heap.push { cls := .type "range", data := .fields #[.int lo t, .int hi u, .int 1 v] }).objs.size := by simpa using hb
    subst e
    exact I1.fpOk (Nat.le_refl _) (I1.hok.fresh (Nat.le_refl _))
def iRng1 (ta : TA) : TI := fun σ H R => ta σ H fun vs H1 => ∃ j : Int, vs = [.int j] ∧ -(2 ^ 62) ≤ j ∧ j < 2 ^ 62 ∧ R (Itr 0 j.toNat) H1
def iRng2 (ta : TA) : TI := fun σ H R => ta σ H fun vs H1 => ∃ i j : Int, vs = [.int i, .int j] ∧ (-(2 ^ 62) ≤ i ∧ i < 2 ^ 62 ∧ -(2 ^ 62) ≤ j ∧ j < 2 ^ 62) ∧ R (Itr i (j - i).toNat) H1
theorem pi_range1 {a : Expr} {ta : TA} {p pos : Pos} (hg : Gl X "range") (hm : X.mg "range" = none) (ha : PA X [a] ta) (hs : starEach [a] X.env = [(false, eval a X.env)] := by rfl) : PI X tg (.Call (.Name "range" p) [a] [] pos) (iRng1 ta) := by
  intro pins s σ H R I h
  refine Call_ (ld_blt I hg hm boot_range (PyProof.Rows.callWith_type1 (thn (ha pos pins s σ H _ I h) fun us s1 ⟨vs, H1, I1, r1, q1⟩ => ?_) hs rfl))
  obtain ⟨j, e, q1, q2, q⟩ := q1
  subst e
  cases r1 with
  | cons r rr =>
    cases rr
    obtain ⟨t, rfl⟩ := r
    exact call_range_1 (range_it I1 (by omega) (by omega) q1 q2 (by simpa using q))
def tFor (wi : TI) (g : TG) (tb : TS) : TS := fun D σ H => wi σ H fun J H1 => ∃ W : Nat → Nat → St → Hp → Prop, (∃ m, W 0 m σ H1) ∧ ∀ i m σ H, W i m σ H →
  (J.stop i H ∧ D.nx σ H) ∨ (J.go i H ∧ ∃ N : St → Hp → Prop, (∀ σ' H', N σ' H' → ∃ m', m' < m ∧ W (i + 1) m' σ' H') ∧ ∀ x H', J.yld i H x H' → g x σ H' fun σ2 H2 => tb { D with nx := N, ct := N, bk := D.nx } σ2 H2)
def pinsAt (fp : List Addr) (h : Heap) : List (Addr × Obj) := fp.filterMap fun b => (h.get? b).map fun o => (b, o)
theorem mem_pinsAt {fp : List Addr} {h : Heap} {b : Addr} {o : Obj} (hb : b ∈ fp) (e : h.get? b = some o) : (b, o) ∈ pinsAt fp h := List.mem_filterMap.mpr ⟨b, hb, by rw [e]; rfl⟩
theorem of_pinsAt {fp : List Addr} {h : Heap} {p : Addr × Obj} (hp : p ∈ pinsAt fp h) : p.1 ∈ fp ∧ h.get? p.1 = some p.2 := by
  obtain ⟨b, hb, e⟩ := List.mem_filterMap.mp hp
  cases q : h.get? b with
  | none => rw [q] at e; cases e
  | some o =>
    rw [q] at e
    have e' : (b, o) = p := Option.some.inj e
    subst e'
    exact ⟨hb, q⟩
theorem Inv.pinned {pins : List (Addr × Obj)} {σ : St} {H : Hp} {s : Shared} {fp : List Addr} (I : Inv X pins σ H s) (hf : ∀ b ∈ fp, FpOk X pins H b) (ho : ∀ b ∈ fp, ∃ o, s.heap.get? b = some o ∧ ∀ v, o.data ≠ .cell v) : Inv X (pins ++ pinsAt fp s.heap) σ H s :=
  I.pins_of fun p hp => (List.mem_append.mp hp).elim (fun z => I.pin p (List.mem_append_right _ z)) fun z => by
    obtain ⟨hb, e⟩ := of_pinsAt z
    obtain ⟨f0, f1, f2, _⟩ := hf p.1 hb
    obtain ⟨o, e', d⟩ := ho p.1 hb
    rw [e] at e'; cases e'
    exact ⟨e, f0, f1, f2, d⟩
theorem Inv.unpinned {pins pl : List (Addr × Obj)} {σ : St} {H : Hp} {s : Shared} (I : Inv X (pins ++ pl) σ H s) : Inv X pins σ H s := I.pins_of fun p hp => I.pin p (List.mem_append_right _ (List.mem_append_left _ hp))
theorem ps_for {iter : Expr} {body : List Stmt} {wi : TI} {g : TG} {tb : TS} {pos : Pos} (hp : PassesOwn (model X.prog X.w) X.A X.env X.xe) (hc : X.calm = true) (hi : PI X tg iter wi) (hg : PG X tg g) (hb : PSs X body tb)
    (hs : ∀ x, foldedSetIterable iter X.env x = pure x := by intro _; rfl) : PS X (.For tg iter body [] pos) (tFor wi g tb) := by
  intro pins s σ H D I h
  refine wpAny_For (thn (hi pins s σ H _ I h) fun v s1 h1 => thn h1 fun itv s2 h2 => ?_) hs
  obtain ⟨it, fp, tn, J, H2, e, I2, T, st2, f2, W, ⟨m0, w0⟩, turn⟩ := h2
  subst e
  have stat : ∀ {H' : Hp}, (∀ b ∈ fp, H' b = none) → ∀ b ∈ fp, FpOk X pins H' b := fun hn b hb => ⟨hn b hb, (f2 b hb).2⟩
  refine codeAny_forLoop_any (fun n s' => ∃ i σ' H', Inv X pins σ' H' s' ∧ tn i s'.heap ∧ (∀ b ∈ fp, H' b = none) ∧ W i n σ' H') ?_ m0 ⟨0, σ, H2, I2, st2, fun b hb => (f2 b hb).1, w0⟩
  rintro n s3 ⟨i, σ3, H3, I3, st3, fr3, w3⟩
  rcases turn i n σ3 H3 w3 with ⟨stop, qn⟩ | ⟨go, N, hN, step⟩
  · refine wpAny_passesOwn hp (thn (T.done X rfl rfl rfl hc i pins s3 σ3 H3 X.xe I3 (stat fr3) st3 stop) fun r s4 ⟨hr, I4⟩ => ?_)
    subst hr
    exact wpAny_execs_nil ⟨σ3, H3, I4, qn⟩
  · refine wpAny_passesOwn hp (thn (T.item X rfl rfl rfl hc i pins s3 σ3 H3 X.xe I3 (stat fr3) st3 go) fun r s4 ⟨u, hr, h4⟩ => ?_)
    subst hr
    refine wpAny_passesOwn hp (thn h4 fun _ s5 ⟨x, H5, I5, r5, y5, st5, fr5⟩ => ?_)
    have I5' := I5.pinned (stat fr5) (T.obj _ _ st5)
    refine wpAny_passesOwn hp (thn (hg _ s5 σ3 H5 x u _ I5' r5 (step x H5 y5)) fun _ s6 ⟨σ6, H6, I6, q6⟩ => ?_)
    refine wpAny_passesOwn hp (thn (hb _ s6 σ6 H6 _ I6 q6) fun f s7 q7 => ?_)
    have again : ∀ {σ7 : St} {H7 : Hp}, Inv X (pins ++ pinsAt fp s5.heap) σ7 H7 s7 → N σ7 H7 → ∃ m, m < n ∧ ∃ i σ' H', Inv X pins σ' H' s7 ∧ tn i s7.heap ∧ (∀ b ∈ fp, H' b = none) ∧ W i m σ' H' := fun {σ7 H7} I7 n7 => by
      obtain ⟨m', hm, w7⟩ := hN σ7 H7 n7
      refine ⟨m', hm, i + 1, σ7, H7, I7.unpinned, T.keep _ _ _ st5 fun b hb o e => (I7.pin (b, o) (List.mem_append_right _ (List.mem_append_right _ (mem_pinsAt hb e)))).1, fun b hb => ?_, w7⟩
      obtain ⟨o, e, d⟩ := T.obj _ _ st5 b hb
      exact (I7.pin (b, o) (List.mem_append_right _ (List.mem_append_right _ (mem_pinsAt hb e)))).2.1
    cases f with
    | next => obtain ⟨σ7, H7, I7, n7⟩ := q7; exact again I7 n7
    | cont => obtain ⟨σ7, H7, I7, n7⟩ := q7; exact again I7 n7
    | brk => obtain ⟨σ7, H7, I7, q7⟩ := q7; exact ⟨σ7, H7, I7.unpinned, q7⟩
    | ret v => obtain ⟨x7, σ7, H7, I7, r7, q7⟩ := q7; exact ⟨x7, σ7, H7, I7.unpinned, r7, q7⟩
end
theorem for_list {K : PySem.W.Frag} {a : Addr} {xs : List V} {g : TG} {tb : TS} {D : Ends} {σ : St} {H : Hp} (Pv : Nat → St → Hp → Prop) (h0 : Pv 0 σ H) (hl : ∀ i σ H, i ≤ xs.length → Pv i σ H → SqL K H a xs)
    (hs : ∀ i x σ H, xs[i]? = some x → Pv i σ H → g x σ H fun σ2 H2 => tb { D with nx := Pv (i + 1), ct := Pv (i + 1), bk := D.nx } σ2 H2) (hd : ∀ σ H, Pv xs.length σ H → D.nx σ H) :
    ∃ W : Nat → Nat → St → Hp → Prop, (∃ m, W 0 m σ H) ∧ ∀ i m σ H, W i m σ H →
      ((Itl K a).stop i H ∧ D.nx σ H) ∨ ((Itl K a).go i H ∧ ∃ N : St → Hp → Prop, (∀ σ' H', N σ' H' → ∃ m', m' < m ∧ W (i + 1) m' σ' H') ∧ ∀ x H', (Itl K a).yld i H x H' → g x σ H' fun σ2 H2 => tb { D with nx := N, ct := N, bk := D.nx } σ2 H2) := by
  refine ⟨fun i m σ H => m = xs.length - i ∧ i ≤ xs.length ∧ Pv i σ H, ⟨xs.length, by simp, Nat.zero_le _, h0⟩, ?_⟩
  rintro i m σ H ⟨rfl, hi, p⟩
  have q := hl i σ H hi p
  by_cases hlt : i < xs.length
  · refine .inr ⟨⟨xs, xs[i], q, by simp [hlt]⟩, Pv (i + 1), fun σ' H' p' => ⟨xs.length - (i + 1), by omega, rfl, hlt, p'⟩, fun x H' y => ?_⟩
    obtain ⟨e, y⟩ := y
    subst e
    exact hs i x σ _ (y xs q) p
  · have e : i = xs.length := by omega
    subst e
    exact .inl ⟨⟨xs, q, Nat.le_refl _⟩, hd σ H p⟩
theorem for_range {lo : Int} {n : Nat} {g : TG} {tb : TS} {D : Ends} {σ : St} {H : Hp} (Pv : Nat → St → Hp → Prop) (h0 : Pv 0 σ H)
    (hs : ∀ i σ H, i < n → Pv i σ H → g (.int (lo + i)) σ H fun σ2 H2 => tb { D with nx := Pv (i + 1), ct := Pv (i + 1), bk := D.nx } σ2 H2) (hd : ∀ σ H, Pv n σ H → D.nx σ H) :
    ∃ W : Nat → Nat → St → Hp → Prop, (∃ m, W 0 m σ H) ∧ ∀ i m σ H, W i m σ H →
      ((Itr lo n).stop i H ∧ D.nx σ H) ∨ ((Itr lo n).go i H ∧ ∃ N : St → Hp → Prop, (∀ σ' H', N σ' H' → ∃ m', m' < m ∧ W (i + 1) m' σ' H') ∧ ∀ x H', (Itr lo n).yld i H x H' → g x σ H' fun σ2 H2 => tb { D with nx := N, ct := N, bk := D.nx } σ2 H2) := by
  refine ⟨fun i m σ H => m = n - i ∧ i ≤ n ∧ Pv i σ H, ⟨n, by simp, Nat.zero_le _, h0⟩, ?_⟩
  rintro i m σ H ⟨rfl, hi, p⟩
  by_cases hlt : i < n
  · refine .inr ⟨hlt, Pv (i + 1), fun σ' H' p' => ⟨n - (i + 1), by omega, rfl, hlt, p'⟩, fun x H' y => ?_⟩
    obtain ⟨e, y⟩ := y
    subst e y
    exact hs i σ _ hlt p
  · have e : i = n := by omega
    subst e
    exact .inl ⟨Nat.le_refl _, hd σ H p⟩
end L2
namespace L2
open PySem PySem.Spec PyProof.Rows
abbrev R2 := V → V → Hp → VK → Prop
def OpR (X : Cx) (f : Value → Value → Sem Value) (r : R2) : Prop :=
  ∀ (pins : List (Addr × Obj)) (s : Shared) (σ : St) (H : Hp) (x y : V) (v u : Value) (Q : VK), Inv X pins σ H s → RelV x v → RelV y u → r x y H Q →
    wpAny (model X.prog X.w) X.A (f v u) (EP X pins σ Q) X.xe s
def UnR (X : Cx) (f : Value → Sem Value) (r : V → Hp → VK → Prop) : Prop :=
  ∀ (pins : List (Addr × Obj)) (s : Shared) (σ : St) (H : Hp) (x : V) (v : Value) (Q : VK), Inv X pins σ H s → RelV x v → r x H Q →
    wpAny (model X.prog X.w) X.A (f v) (EP X pins σ Q) X.xe s
def CallR (X : Cx) (f : Value) (r : List V → Hp → VK → Prop) : Prop :=
  ∀ (pins : List (Addr × Obj)) (s : Shared) (σ : St) (H : Hp) (xs : List V) (us : List Value) (Q : VK), Inv X pins σ H s → Vals xs us → r xs H Q →
    wpAny (model X.prog X.w) X.A (call f us) (EP X pins σ Q) X.xe s
def TruR (X : Cx) (r : V → Hp → (Bool → Hp → Prop) → Prop) : Prop :=
  ∀ (pins : List (Addr × Obj)) (s : Shared) (σ : St) (H : Hp) (x : V) (v : Value) (Q : Bool → Hp → Prop), Inv X pins σ H s → RelV x v → r x H Q →
    wpAny (model X.prog X.w) X.A (truthy v) (TP X pins σ Q) X.xe s
def tOp (r : R2) (ta tb : TE) : TE := fun σ H Q => ta σ H fun x H1 => tb σ H1 fun y H2 => r x y H2 Q
def tUn (r : V → Hp → VK → Prop) (ta : TE) : TE := fun σ H Q => ta σ H fun x H1 => r x H1 Q
def rI (C : Int → Int → Prop) (g : Int → Int → V) : R2 := fun x y H Q => ∃ i j, x = .int i ∧ y = .int j ∧ C i j ∧ Q (g i j) H
def rI0 (g : Int → Int → V) : R2 := fun x y H Q => ∃ i j, x = .int i ∧ y = .int j ∧ Q (g i j) H
def rU (g : Int → V) : V → Hp → VK → Prop := fun x H Q => ∃ i, x = .int i ∧ Q (g i) H
section
variable {X : Cx} {a b c : Expr} {ta tb tc : TE} {pos : Pos}
theorem binT (ha : PE X a ta) (hb : PE X b tb) {pins : List (Addr × Obj)} {s : Shared} {σ : St} {H : Hp} {R : V → V → Hp → Prop} (I : Inv X pins σ H s)
    (h : ta σ H fun x H1 => tb σ H1 fun y H2 => R x y H2) {Q : Value → Shared → Prop} {f : Value → Value → Sem Value}
    (hf : ∀ v u s2 x y H2, Inv X pins σ H2 s2 → RelV x v → RelV y u → R x y H2 → wpAny (model X.prog X.w) X.A (f v u) Q X.xe s2) :
    wpAny (model X.prog X.w) X.A (eval a X.env) (fun v s₁ => wpAny (model X.prog X.w) X.A (eval b X.env) (fun u s₂ => wpAny (model X.prog X.w) X.A (f v u) Q X.xe s₂) X.xe s₁) X.xe s := by
  refine thn (ha pins s σ H _ I h) fun v s1 ⟨x, H1, I1, r1, q1⟩ => ?_
  refine thn (hb pins s1 σ H1 _ I1 q1) fun u s2 ⟨y, H2, I2, r2, q2⟩ => ?_
  exact hf v u s2 x y H2 I2 r1 r2 q2
theorem pe_op {op : Operator} {r : R2} (ho : OpR X (binaryOp op) r) (ha : PE X a ta) (hb : PE X b tb) : PE X (.BinOp a op b pos) (tOp r ta tb) := by
  intro pins s σ H Q I h
  exact wpAny_BinOp (binT ha hb I h fun v u s2 x y H2 I2 rx ry q => ho pins s2 σ H2 x y v u Q I2 rx ry q)
theorem pe_un {op : UnaryOp} {r : V → Hp → VK → Prop} (ho : UnR X (unaryOp op) r) (ha : PE X a ta) : PE X (.UnaryOp op a pos) (tUn r ta) := by
  intro pins s σ H Q I h
  exact UnaryOp_ (thn (ha pins s σ H _ I h) fun v s1 ⟨x, H1, I1, r1, q1⟩ => ho pins s1 σ H1 x v Q I1 r1 q1)
theorem opI {f : Value → Value → Sem Value} {C : Int → Int → Prop} {g : Int → Int → Int}
    (rule : ∀ (i j : Int) (t u : Tok) (s : Shared) (Q : Value → Shared → Prop) (E : Value → Shared → Prop), C i j → Q (.int (g i j) s.toks) { s with toks := s.toks + 1 } → wpAny (model X.prog X.w) X.A (f (.int i t) (.int j u)) Q E s) :
    OpR X f (rI C fun i j => .int (g i j)) := by
  intro pins s σ H x y v u Q I rx ry h
  obtain ⟨i, j, rfl, rfl, hc, q⟩ := h
  obtain ⟨t, rfl⟩ := rx
  obtain ⟨t', rfl⟩ := ry
  exact rule i j t t' s _ _ hc ⟨.int (g i j), H, I.tok _, ⟨_, rfl⟩, q⟩
theorem opI0 {f : Value → Value → Sem Value} {g : Int → Int → Int}
    (rule : ∀ (i j : Int) (t u : Tok) (s : Shared) (Q : Value → Shared → Prop) (E : Value → Shared → Prop), Q (.int (g i j) s.toks) { s with toks := s.toks + 1 } → wpAny (model X.prog X.w) X.A (f (.int i t) (.int j u)) Q E s) :
    OpR X f (rI0 fun i j => .int (g i j)) := by
  intro pins s σ H x y v u Q I rx ry h
  obtain ⟨i, j, rfl, rfl, q⟩ := h
  obtain ⟨t, rfl⟩ := rx
  obtain ⟨t', rfl⟩ := ry
  exact rule i j t t' s _ _ ⟨.int (g i j), H, I.tok _, ⟨_, rfl⟩, q⟩
theorem opB0 {f : Value → Value → Sem Value} {g : Int → Int → Bool}
    (rule : ∀ (i j : Int) (t u : Tok) (s : Shared) (Q : Value → Shared → Prop) (E : Value → Shared → Prop), Q (.bool (g i j)) s → wpAny (model X.prog X.w) X.A (f (.int i t) (.int j u)) Q E s) :
    OpR X f (rI0 fun i j => .bl (g i j)) := by
  intro pins s σ H x y v u Q I rx ry h
  obtain ⟨i, j, rfl, rfl, q⟩ := h
  obtain ⟨t, rfl⟩ := rx
  obtain ⟨t', rfl⟩ := ry
  exact rule i j t t' s _ _ ⟨.bl (g i j), H, I, rfl, q⟩
def CDiv (i j : Int) : Prop := 0 < j ∧ j < 1073741824
def CMul (i j : Int) : Prop := (-(2 ^ 64) < i ∧ i < 2 ^ 64) ∨ (-(2 ^ 64) < j ∧ j < 2 ^ 64)
theorem CMul.ok {i j : Int} (h : CMul i j) : IntMulOk i j := by
  rcases h with ⟨h1, h2⟩ | ⟨h1, h2⟩
  · exact .of_left (intBits_le_64 h1 h2)
  · exact .of_right (intBits_le_64 h1 h2)
theorem op_add : OpR X (binaryOp .Add) (rI0 fun i j => .int (i + j)) := opI0 fun _ _ _ _ _ _ _ q => add_int q
theorem op_sub : OpR X (binaryOp .Sub) (rI0 fun i j => .int (i - j)) := opI0 fun _ _ _ _ _ _ _ q => sub_int q
theorem op_mul : OpR X (binaryOp .Mult) (rI CMul fun i j => .int (i * j)) := opI fun _ _ _ _ _ _ _ hc q => mul_int q hc.ok
theorem op_fdiv : OpR X (binaryOp .FloorDiv) (rI CDiv fun i j => .int (i / j)) := opI fun i j _ _ _ _ _ hc q => by
  have h1 : (0 : Int) < j := hc.1
  have h2 : j < 1073741824 := hc.2
  exact floordiv_int (by omega) (by rw [Int.fdiv_eq_ediv_of_nonneg i (by omega)]; exact q) (.inl (PyProof.noPylong_small (by omega)))
theorem op_mod : OpR X (binaryOp .Mod) (rI (fun _ j => 0 < j) fun i j => .int (i % j)) := opI fun i j _ _ _ _ _ hc q => by
  have h1 : (0 : Int) < j := hc
  exact mod_int' (by omega) (by rw [Int.fmod_eq_emod_of_nonneg i (by omega)]; exact q)
theorem unI {f : Value → Sem Value} {g : Int → Int}
    (rule : ∀ (i : Int) (t : Tok) (s : Shared) (Q : Value → Shared → Prop) (E : Value → Shared → Prop), Q (.int (g i) s.toks) { s with toks := s.toks + 1 } → wpAny (model X.prog X.w) X.A (f (.int i t)) Q E s) :
    UnR X f (rU fun i => .int (g i)) := by
  intro pins s σ H x v Q I rx h
  obtain ⟨i, rfl, q⟩ := h
  obtain ⟨t, rfl⟩ := rx
  exact rule i t s _ _ ⟨.int (g i), H, I.tok _, ⟨_, rfl⟩, q⟩
theorem un_neg : UnR X (unaryOp .USub) (rU fun i => .int (-i)) := unI fun _ _ _ _ _ q => neg_int q
end
def scal : V → V → Bool
  | .non, .non => true | .non, .int _ => true | .int _, .non => true | .non, .bl _ => true | .bl _, .non => true | .non, .str _ => true | .str _, .non => true
  | .int _, .int _ => true | .bl _, .bl _ => true | .str _, .str _ => true | .byt _, .byt _ => true
  | .int _, .str _ => true | .str _, .int _ => true | .bl _, .str _ => true | .str _, .bl _ => true
  | _, _ => false
def rEq : R2 := fun x y H Q => scal x y = true ∧ Q (.bl (decide (x = y))) H
def rNe : R2 := fun x y H Q => scal x y = true ∧ Q (.bl (!decide (x = y))) H
theorem dec_int {i j : Int} : decide (V.int i = V.int j) = (i == j) := by
  rw [Bool.eq_iff_iff]
  simp
theorem dec_bl {i j : Bool} : decide (V.bl i = V.bl j) = (i == j) := by
  rw [Bool.eq_iff_iff]
  simp
theorem dec_str {i j : Str} : decide (V.str i = V.str j) = (i == j) := by
  rw [Bool.eq_iff_iff]
  simp
theorem dec_byt {i j : Array UInt8} : decide (V.byt i = V.byt j) = (i.toList == j.toList) := by
  rw [Bool.eq_iff_iff]
  cases i
  cases j
  simp
section
variable {X : Cx} {a b c : Expr} {ta tb tc : TE} {pos : Pos}
theorem fin_bl {pins : List (Addr × Obj)} {σ : St} {H : Hp} {s : Shared} {Q : VK} {k k' : Bool} (I : Inv X pins σ H s) (q : Q (.bl k) H) (e : k = k') : EP X pins σ Q (.bool k') s := by
  subst e
  exact ⟨.bl k, H, I, rfl, q⟩
theorem op_eq : OpR X (compareOp .Eq) rEq := by
  intro pins s σ H x y v u Q I rx ry h
  obtain ⟨hs, q⟩ := h
  cases x with
  | non =>
    cases rx
    cases y with
    | non => cases ry; exact PySem.EqNone.eq_none_none (fin_bl I q (by simp))
    | bl j => cases ry; exact PySem.EqNone.eq_none_bool (fin_bl I q (by simp))
    | int j => obtain ⟨t', rfl⟩ := ry; exact PySem.EqNone.eq_none_int (fin_bl I q (by simp))
    | str j => obtain ⟨t', rfl⟩ := ry; exact PySem.EqNone.eq_none_str (fin_bl I q (by simp))
    | _ => exact absurd (show false = true from hs) Bool.false_ne_true
  | bl i =>
    cases rx
    cases y with
    | non => cases ry; exact PySem.EqNone.eq_bool_none (fin_bl I q (by simp))
    | bl j => cases ry; exact eq_bool (fin_bl I q dec_bl)
    | str j => obtain ⟨t', rfl⟩ := ry; exact PySem.EqMixed.eq_bool_str (fin_bl I q (by simp))
    | _ => exact absurd (show false = true from hs) Bool.false_ne_true
  | int i =>
    obtain ⟨t, rfl⟩ := rx
    cases y with
    | non => cases ry; exact PySem.EqNone.eq_int_none (fin_bl I q (by simp))
    | int j => obtain ⟨t', rfl⟩ := ry; exact eq_int (fin_bl I q dec_int)
    | str j => obtain ⟨t', rfl⟩ := ry; exact PySem.EqMixed.eq_int_str (fin_bl I q (by simp))
    | _ => exact absurd (show false = true from hs) Bool.false_ne_true
  | str i =>
    obtain ⟨t, rfl⟩ := rx
    cases y with
    | non => cases ry; exact PySem.EqNone.eq_str_none (fin_bl I q (by simp))
    | bl j => cases ry; exact PySem.EqMixed.eq_str_bool (fin_bl I q (by simp))
    | int j => obtain ⟨t', rfl⟩ := ry; exact PySem.EqMixed.eq_str_int (fin_bl I q (by simp))
    | str j => obtain ⟨t', rfl⟩ := ry; exact eq_str (fin_bl I q dec_str)
    | _ => exact absurd (show false = true from hs) Bool.false_ne_true
  | byt i =>
    obtain ⟨t, rfl⟩ := rx
    cases y with
    | byt j => obtain ⟨t', rfl⟩ := ry; exact PySem.W.eq_bytes (fin_bl I q dec_byt)
    | _ => exact absurd (show false = true from hs) Bool.false_ne_true
  | _ => cases y <;> exact absurd (show false = true from hs) Bool.false_ne_true
theorem op_ne : OpR X (compareOp .NotEq) rNe := by
  intro pins s σ H x y v u Q I rx ry h
  obtain ⟨hs, q⟩ := h
  cases x with
  | non =>
    cases rx
    cases y with
    | non => cases ry; exact PySem.EqNone.ne_none_none (fin_bl I q (by simp))
    | bl j => cases ry; exact PySem.EqNone.ne_none_bool (fin_bl I q (by simp))
    | int j => obtain ⟨t', rfl⟩ := ry; exact PySem.EqNone.ne_none_int (fin_bl I q (by simp))
    | str j => obtain ⟨t', rfl⟩ := ry; exact PySem.EqNone.ne_none_str (fin_bl I q (by simp))
    | _ => exact absurd (show false = true from hs) Bool.false_ne_true
  | bl i =>
    cases rx
    cases y with
    | non => cases ry; exact PySem.EqNone.ne_bool_none (fin_bl I q (by simp))
    | bl j => cases ry; exact ne_bool (fin_bl I q (congrArg not dec_bl))
    | str j => obtain ⟨t', rfl⟩ := ry; exact PySem.EqMixed.ne_bool_str (fin_bl I q (by simp))
    | _ => exact absurd (show false = true from hs) Bool.false_ne_true
  | int i =>
    obtain ⟨t, rfl⟩ := rx
    cases y with
    | non => cases ry; exact PySem.EqNone.ne_int_none (fin_bl I q (by simp))
    | int j => obtain ⟨t', rfl⟩ := ry; exact ne_int (fin_bl I q (congrArg not dec_int))
    | str j => obtain ⟨t', rfl⟩ := ry; exact PySem.EqMixed.ne_int_str (fin_bl I q (by simp))
    | _ => exact absurd (show false = true from hs) Bool.false_ne_true
  | str i =>
    obtain ⟨t, rfl⟩ := rx
    cases y with
    | non => cases ry; exact PySem.EqNone.ne_str_none (fin_bl I q (by simp))
    | bl j => cases ry; exact PySem.EqMixed.ne_str_bool (fin_bl I q (by simp))
    | int j => obtain ⟨t', rfl⟩ := ry; exact PySem.EqMixed.ne_str_int (fin_bl I q (by simp))
    | str j => obtain ⟨t', rfl⟩ := ry; exact ne_str (fin_bl I q (congrArg not dec_str))
    | _ => exact absurd (show false = true from hs) Bool.false_ne_true
  | byt i =>
    obtain ⟨t, rfl⟩ := rx
    cases y with
    | byt j => obtain ⟨t', rfl⟩ := ry; exact PySem.W.ne_bytes (fin_bl I q (congrArg not dec_byt))
    | _ => exact absurd (show false = true from hs) Bool.false_ne_true
  | _ => cases y <;> exact absurd (show false = true from hs) Bool.false_ne_true
theorem op_lt : OpR X (compareOp .Lt) (rI0 fun i j => .bl (decide (i < j))) := opB0 fun _ _ _ _ _ _ _ q => lt_int q
theorem op_ge : OpR X (compareOp .GtE) (rI0 fun i j => .bl (decide (j ≤ i))) := opB0 fun _ _ _ _ _ _ _ q => ge_int q
theorem OpR.or {f : Value → Value → Sem Value} {r r' : R2} (h : OpR X f r) (h' : OpR X f r') : OpR X f (fun x y H Q => r x y H Q ∨ r' x y H Q) := by
  intro pins s σ H x y v u Q I rx ry q
  rcases q with q | q
  · exact h pins s σ H x y v u Q I rx ry q
  · exact h' pins s σ H x y v u Q I rx ry q
theorem nomark (b : Expr) {op : CmpOp} (h : op ≠ .In := by decide) (h2 : op ≠ .NotIn := by decide) : behindInMarks op b = false := by
  have e1 : (op == CmpOp.In) = false := by cases op <;> first | rfl | exact absurd rfl h
  have e2 : (op == CmpOp.NotIn) = false := by cases op <;> first | rfl | exact absurd rfl h2
  cases b <;> simp [behindInMarks, e1, e2]
theorem pe_cmpR {op : CmpOp} {r : R2} (ho : OpR X (compareOp op) r) (ha : PE X a ta) (hb : PE X b tb) (hm : behindInMarks op b = false) : PE X (.Compare a [op] [b] pos) (tOp r ta tb) := by
  intro pins s σ H Q I h
  exact wpAny_Compare1 (binT ha hb I h fun v u s2 x y H2 I2 rx ry q => ho pins s2 σ H2 x y v u Q I2 rx ry q) hm
def tTest (t : TE) : TT := fun σ H Q => t σ H fun x H' => ∃ k, x = .bl k ∧ Q k H'
theorem pt_cmpR {op : CmpOp} {r : R2} (ho : OpR X (compareOp op) r) (ha : PE X a ta) (hb : PE X b tb) (hm : behindInMarks op b = false) : PT X (.Compare a [op] [b] pos) (tTest (tOp r ta tb)) := by
  intro pins s σ H Q I h
  refine wpAny_isTrue_Compare1 (thn (ha pins s σ H _ I h) fun v s1 ⟨x, H1, I1, r1, q1⟩ => thn (hb pins s1 σ H1 _ I1 q1) fun u s2 ⟨y, H2, I2, r2, q2⟩ =>
    thn (ho pins s2 σ H2 x y v u _ I2 r1 r2 q2) fun c s3 ⟨z, H3, I3, r3, k, e, q3⟩ => ?_) hm
  subst e
  cases r3
  exact wpAny_truthy_bool ⟨H3, I3, q3⟩
def tChain (r r' : R2) (ta tb tc : TE) : TE := fun σ H Q => ta σ H fun x H1 => tb σ H1 fun y H2 => r x y H2 fun z H3 => ∃ k, z = .bl k ∧
  (if k = true then tc σ H3 fun w' H4 => r' y w' H4 Q else Q (.bl false) H3)
def TruV (K : PySem.W.Frag) (x : V) (H : Hp) (k : Bool) : Prop :=
  match x with
  | .non => k = false
  | .bl b => k = b
  | .int i => k = (i != 0)
  | .str y => y.length ≤ sizeLine ∧ k = ((y.length : Int) != 0)
  | .byt y => y.size ≤ sizeLine ∧ k = ((y.size : Int) != 0)
  | .ref p => (∃ xs, SqL K H p xs ∧ k = !xs.isEmpty) ∨ (∃ xs, SqT K H p xs ∧ k = !xs.isEmpty) ∨ ∃ kvs, H p = some (.dK kvs) ∧ k = !kvs.isEmpty
  | _ => False
theorem isEmpty_kv {κ : Type} {kvs : List (κ × V)} {vs : List (κ × Value)} (r : KV kvs vs) : (!vs.isEmpty) = !kvs.isEmpty := by
  cases r <;> rfl
theorem isEmpty_of {xs : List V} {its : List Value} (r : Vals xs its) : (!its.toArray.isEmpty) = !xs.isEmpty := by
  cases r <;> simp
theorem line63 : (sizeLine : Nat) < 2 ^ 63 := by rw [sizeLine_eq]; decide
theorem tru_ok : TruR X (fun x H Q => ∃ k, TruV X.K x H k ∧ Q k H) := by
  intro pins s σ H x v Q I rx h
  obtain ⟨k, e, q⟩ := h
  have hl := line63
  have hs : sizeLine = 16777216 := sizeLine_eq
  cases x with
  | non =>
    cases rx
    have e' : k = false := e
    subst e'
    exact truthy_none ⟨H, I, q⟩
  | bl b =>
    cases rx
    have e' : k = b := e
    subst e'
    exact wpAny_truthy_bool ⟨H, I, q⟩
  | int i =>
    obtain ⟨t, rfl⟩ := rx
    have e' : k = (i != 0) := e
    subst e'
    exact PySem.P.truthy_int ⟨H, I, q⟩
  | str y =>
    obtain ⟨t, rfl⟩ := rx
    obtain ⟨hy, e'⟩ : y.length ≤ sizeLine ∧ k = ((y.length : Int) != 0) := e
    subst e'
    exact PySem.P.truthy_str (by omega) ⟨H, I.tok _, q⟩
  | byt y =>
    obtain ⟨t, rfl⟩ := rx
    obtain ⟨hy, e'⟩ : y.size ≤ sizeLine ∧ k = ((y.size : Int) != 0) := e
    subst e'
    exact PySem.W.truthy_bytes (by omega) ⟨H, I.tok _, q⟩
  | ref p =>
    cases rx
    have e' : (∃ xs, SqL X.K H p xs ∧ k = !xs.isEmpty) ∨ (∃ xs, SqT X.K H p xs ∧ k = !xs.isEmpty) ∨ ∃ kvs, H p = some (.dK kvs) ∧ k = !kvs.isEmpty := e
    rcases e' with ⟨xs, hx, e'⟩ | ⟨xs, hx, e'⟩ | ⟨kvs, hx, e'⟩
    · subst e'
      obtain ⟨its, r, pl, hz⟩ := I.list hx
      have hlen := r.length
      exact wpAny_truthy_list pl.isList (by simp only [List.size_toArray]; omega) ⟨H, I.tok _, by rw [isEmpty_of r]; exact q⟩
    · subst e'
      obtain ⟨its, r, pl, hz⟩ := I.tuple hx
      have hlen := r.length
      exact truthy_tuple pl (by simp only [List.size_toArray]; omega) ⟨H, I.tok _, by rw [isEmpty_of r]; exact q⟩
    · subst e'
      obtain ⟨hz, hS, vs, r, m⟩ : kvs.length ≤ sizeLine ∧ (p == sysModules) = false ∧ ∃ vs, KV kvs vs ∧ s.heap.DictOf (mixKind X.prog X.w) p vs := I.hok p _ hx
      have hlen : kvs.length = vs.length := Paired.length r
      exact wpAny_truthy_dict hS m (by omega) ⟨H, I.tok _, by rw [isEmpty_kv r]; exact q⟩
  | _ => exact (show False from e).elim
theorem pt_truth (ha : PE X a ta) (he : ∀ whole, isTrue a X.env whole = (do let v ← whole; standAt a.pos; holding [v] (truthy v))) :
    PT X a (fun σ H Q => ta σ H fun x H' => ∃ k, TruV X.K x H' k ∧ Q k H') := by
  intro pins s σ H Q I h
  exact isTrue_plain (thn (ha pins s σ H _ I h) fun v s1 ⟨x, H1, I1, r1, q1⟩ => tru_ok pins s1 σ H1 x v Q I1 r1 q1) (he _)
theorem op_add_str : OpR X (binaryOp .Add) (fun x y H Q => ∃ i j, x = .str i ∧ y = .str j ∧ i.length + j.length ≤ sizeLine ∧ Q (.str (i ++ j)) H) := by
  intro pins s σ H x y v u Q I rx ry h
  obtain ⟨i, j, rfl, rfl, hz, q⟩ := h
  obtain ⟨t, rfl⟩ := rx
  obtain ⟨t', rfl⟩ := ry
  exact add_str (fun t' tk => ⟨.str (i ++ j), H, I.tok _, ⟨_, rfl⟩, q⟩) hz
theorem vals1 {x : V} {us : List Value} (r : Vals [x] us) : ∃ u, us = [u] ∧ RelV x u := by
  cases r with
  | cons r1 r2 => cases r2; exact ⟨_, rfl, r1⟩
theorem vals2 {x y : V} {us : List Value} (r : Vals [x, y] us) : ∃ u w', us = [u, w'] ∧ RelV x u ∧ RelV y w' := by
  cases r with
  | cons r1 r2 =>
    cases r2 with
    | cons r3 r4 => cases r4; exact ⟨_, _, rfl, r1, r3⟩
theorem call_max2 (hc : X.calm = true) : CallR X (.builtin "max") (fun xs H Q => ∃ i j, xs = [.int i, .int j] ∧ Q (.int (if j > i then j else i)) H) := by
  intro pins s σ H xs us Q I r h
  obtain ⟨i, j, rfl, q⟩ := h
  obtain ⟨u, w', rfl, ⟨t, rfl⟩, ⟨t', rfl⟩⟩ := vals2 r
  refine max_two_ints (I.ok.hd hc) fun h' tk k => ⟨_, H, I.kept k, ?_, q⟩
  by_cases hj : j > i
  · rw [if_pos hj, if_pos hj]; exact ⟨_, rfl⟩
  · rw [if_neg hj, if_neg hj]; exact ⟨_, rfl⟩
theorem call_min2 (hc : X.calm = true) : CallR X (.builtin "min") (fun xs H Q => ∃ i j, xs = [.int i, .int j] ∧ Q (.int (if j < i then j else i)) H) := by
  intro pins s σ H xs us Q I r h
  obtain ⟨i, j, rfl, q⟩ := h
  obtain ⟨u, w', rfl, ⟨t, rfl⟩, ⟨t', rfl⟩⟩ := vals2 r
  refine min_two_ints (I.ok.hd hc) fun h' tk k => ⟨_, H, I.kept k, ?_, q⟩
  by_cases hj : j < i
  · rw [if_pos hj, if_pos hj]; exact ⟨_, rfl⟩
  · rw [if_neg hj, if_neg hj]; exact ⟨_, rfl⟩
end
end L2
namespace L2
open PySem PySem.Spec PyProof.Rows
structure ObjM (h : Heap) (x dx C : Addr) (mA : Str → Option Value) : Prop where
  obj : h.get? x = some (PySem.W.instObj C dx)
  ns : h.Ns1 dx mA
  ne : dx ≠ x
theorem lookIn_ns {h : Heap} {dx : Addr} {mA : Str → Option Value} (n : h.Ns1 dx mA) : ∃ od, h.get? dx = some od ∧ ∀ name, PySem.W.lookIn name od = some (mA name) := by
  obtain ⟨o, es, ep, ho, hd, hk, _, hm⟩ := n
  refine ⟨o, ho, fun name => ?_⟩
  have e := hm name
  unfold nsFind findBy at e
  rw [← Array.find?_toList] at e
  unfold PySem.W.lookIn
  rw [hd]
  dsimp only
  split
  · rename_i y q
    rw [q] at e
    exact congrArg some e
  · rename_i q
    rw [q] at e
    have a : es.toList.any (·.refKey) = false := by
      rw [List.any_eq_false]
      intro y hy
      obtain ⟨z, t, hkey⟩ := hk y (Array.mem_toList_iff.mp hy)
      simp [DictEntry.refKey, hkey]
    have a' : ¬ es.toList.any (·.refKey) = true := by rw [a]; exact Bool.false_ne_true
    rw [if_neg a']
    exact congrArg some e
theorem ObjM.look {h : Heap} {x dx C : Addr} {mA : Str → Option Value} (I : ObjM h x dx C mA) : ∃ od, PySem.W.InstAt h x (PySem.W.instObj C dx) C (some od) ∧ ∀ name, PySem.W.lookIn name od = some (mA name) :=
  let ⟨od, ho, hl⟩ := lookIn_ns I.ns
  ⟨od, ⟨I.obj, rfl, rfl, ho⟩, hl⟩
section
variable {prog : Program} {w : World} {A : Around} {E : Value → Shared → Prop} {s : Shared} {K : PySem.W.Frag} {x dx C f : Addr} {mA : Str → Option Value} {name : Str} {v : Value}
end
theorem RelO.some_of {v : V} {o : Option Value} (r : RelO (some v) o) : ∃ u, o = some u ∧ RelV v u := by
  cases o with
  | none => exact (show False from r).elim
  | some u => exact ⟨u, rfl, r⟩
section
variable {P : Program} {w : World} {H H' : Hp} {h h' : Heap} {a C dx : Addr} {fs fs' : List (Str × V)}
theorem ins_get (hok : HOk P w H h) (e : H a = some (.ins C dx fs)) : ∃ mA, ObjM h a dx C mA ∧ (∀ f, RelO (fs.lookup f) (mA f)) ∧ PySem.Within mA (fs.map (·.1)) ∧ fs.length ≤ 1000 ∧ H dx = some (.own a) := by
  obtain ⟨d, z, ne, ob, mA, n, r, q⟩ := (show ObjOk P w H h a (.ins C dx fs) from hok a _ e)
  exact ⟨mA, ⟨ob, n, ne⟩, r, q, z, d⟩
end
structure Cls (K : PySem.W.Frag) (C : Addr) : Prop where
  pg : PySem.W.plainGet K C Str.empty = true
  hd : PySem.W.hasDictIn K C = true
  po : PySem.W.plainOver K C = true
  sa : PySem.W.findIn K (.ref C) "__setattr__" = some (some (.builtin "object.__setattr__"))
theorem Cls.get {K : PySem.W.Frag} {C : Addr} (c : Cls K C) (f : Str) : PySem.W.plainGet K C f = true := c.pg
section
variable {X : Cx} {pins : List (Addr × Obj)} {σ : St} {H : Hp} {s : Shared} {a C dx : Addr} {fs : List (Str × V)} {f : Str} {v : V} {A : Around} {E : Value → Shared → Prop}
theorem Inv.made (I : Inv X pins σ H s) : Inv X pins σ (upd (upd H s.heap.objs.size (.own (s.heap.objs.size + 1))) (s.heap.objs.size + 1) (.ins C s.heap.objs.size []))
    { s with heap := (s.heap.push PySem.W.emptyDict).push (PySem.W.instObj C s.heap.objs.size) } := by
  have e1 : (s.heap.push PySem.W.emptyDict).get? s.heap.objs.size = some PySem.W.emptyDict := Heap.get?_push_size s.heap rfl
  have e2 : ((s.heap.push PySem.W.emptyDict).push (PySem.W.instObj C s.heap.objs.size)).get? (s.heap.objs.size + 1) = some (PySem.W.instObj C s.heap.objs.size) := by
    have := Heap.get?_push_size (s.heap.push PySem.W.emptyDict) (o := PySem.W.instObj C s.heap.objs.size) rfl
    rwa [Heap.size_push] at this
  have e3 : (s.heap.push PySem.W.emptyDict).Ns s.heap.objs.size (fun _ => none) := ⟨PySem.W.emptyDict, #[], _, e1, rfl, (fun e he => absurd he (by simp)), fun _ => rfl⟩
  have I1 := I.laid (a := s.heap.objs.size) (o := .own (s.heap.objs.size + 1)) (h' := s.heap.push PySem.W.emptyDict) (t' := s.toks) (fun b u q => Heap.get?_push_of_some _ q) (Nat.le_refl _) ⟨_, e1⟩
  refine I1.laid (a := s.heap.objs.size + 1) (o := .ins C s.heap.objs.size []) (t' := s.toks) (fun b u q => Heap.get?_push_of_some _ q) (Nat.le_of_eq (Heap.size_push _ _)) ?_
  have ne : s.heap.objs.size ≠ s.heap.objs.size + 1 := Nat.ne_of_lt (Nat.lt_succ_self _)
  refine ⟨by rw [upd_ne ne, upd_same], Nat.zero_le _, ne, e2, fun _ => none, (Heap.Ns1.of_empty e3).at fun o q => Heap.get?_push_of_some _ q, fun _ => True.intro, fun y hy => absurd rfl hy⟩
end
section
variable {X : Cx} {o e value : Expr} {f : Str} {pos pos' tpos : Pos} {ta tv : TE}
end
section
variable {X : Cx} {pins : List (Addr × Obj)} {σ : St} {H : Hp} {s : Shared} {A : Around} {E : Value → Shared → Prop} {Q : Value → Shared → Prop} {c : Value} {b : Bool}
inductive TyOf (K : PySem.W.Frag) (H : Hp) : V → Value → Prop where
  | non : TyOf K H .non (.type "NoneType")
  | bl (x : Bool) : TyOf K H (.bl x) (.type "bool")
  | int (i : Int) : TyOf K H (.int i) (.type "int")
  | str (x : Str) : TyOf K H (.str x) (.type "str")
  | flt (x : UInt64) : TyOf K H (.flt x) (.type "float")
  | lst {a : Addr} {xs : List V} (e : H a = some (.lst xs)) : TyOf K H (.ref a) (.type "list")
  | frz {a : Addr} {o : Obj} {xs : List V} (e : H a = some (.frz o (.lst xs))) : TyOf K H (.ref a) (.type "list")
  | tup {a : Addr} {xs : List V} (e : H a = some (.tup xs)) : TyOf K H (.ref a) (.type "tuple")
  | dK {a : Addr} {kvs : List (Key × V)} (e : H a = some (.dK kvs)) : TyOf K H (.ref a) (.type "dict")
  | dT {a : Addr} {kvs : List (List Key × V)} (e : H a = some (.dT kvs)) : TyOf K H (.ref a) (.type "dict")
  | ins {a C dx : Addr} {fs : List (Str × V)} (e : H a = some (.ins C dx fs)) (cl : Cls K C) (ha : PySem.W.findIn K (.ref C) "__class__" = some (some (.builtin "object.__class__")))
      (hn : PySem.W.specialIn K (.builtin "object.__class__") "__get__" = some (some (.builtin "getset_descriptor.__get__"))) (htk : PySem.W.takesIn K (.builtin "object.__class__") = some true)
      (hm : PySem.W.mroIn K C (.type "object") = some true) : TyOf K H (.ref a) (.ref C)
theorem isinst_ok {x : V} {u t : Value} (I : Inv X pins σ H s) (rx : RelV x u) (ty : TyOf X.K H x t) (e : PySem.W.kitOne X.K t c = some b) (h : ∀ tk, Q (.bool b) { s with toks := tk }) :
    wpAny (model X.prog X.w) A (call (.builtin "isinstance") [u, c]) Q E s := by
  cases ty with
  | non => cases (show u = Value.none from rx); exact PySem.W.kia_one PySem.W.kitx_none I.kIn True.intro e (fun z => nomatch z) h
  | bl y => cases (show u = Value.bool y from rx); exact PySem.W.kia_one PySem.W.kitx_bool I.kIn True.intro e (fun z => nomatch z) h
  | int i => obtain ⟨t, q⟩ := (show ∃ t, u = Value.int i t from rx); cases q; exact PySem.W.kia_one PySem.W.kitx_int I.kIn True.intro e (fun z => nomatch z) h
  | str y => obtain ⟨t, q⟩ := (show ∃ t, u = Value.str y t from rx); cases q; exact PySem.W.kia_one PySem.W.kitx_str I.kIn True.intro e (fun z => nomatch z) h
  | flt y => obtain ⟨t, q⟩ := (show ∃ t, u = Value.float y t from rx); cases q; exact PySem.W.kia_one PySem.W.kitx_float I.kIn True.intro e (fun z => nomatch z) h
  | @lst a xs ea =>
    cases (show u = Value.ref a from rx)
    obtain ⟨_, _, n, _, h1⟩ := (show ObjOk X.prog X.w H s.heap a (.lst xs) from I.hok a _ ea)
    exact PySem.W.kia_one PySem.W.kitx_list I.kIn ⟨_, h1, rfl⟩ e (fun z => nomatch z) h
  | @frz a ob xs ea =>
    cases (show u = Value.ref a from rx)
    obtain ⟨_, _, _, n, _, h1⟩ := (show ObjOk X.prog X.w H s.heap a (.frz ob (.lst xs)) from I.hok a _ ea)
    exact PySem.W.kia_one PySem.W.kitx_list I.kIn ⟨_, h1, rfl⟩ e (fun z => nomatch z) h
  | @tup a xs ea =>
    cases (show u = Value.ref a from rx)
    obtain ⟨_, _, _, p⟩ := (show ObjOk X.prog X.w H s.heap a (.tup xs) from I.hok a _ ea)
    obtain ⟨o, h1, h2, _⟩ := p
    exact PySem.W.kia_one PySem.W.kitx_tuple I.kIn ⟨o, h1, h2⟩ e (fun z => nomatch z) h
  | @dK a kvs ea =>
    cases (show u = Value.ref a from rx)
    obtain ⟨_, _, vs, _, p⟩ := (show ObjOk X.prog X.w H s.heap a (.dK kvs) from I.hok a _ ea)
    obtain ⟨o, es, ep, h1, h2, _⟩ := p
    exact PySem.W.kia_one PySem.W.kitx_dict I.kIn ⟨o, h1, h2.1⟩ e (fun z => nomatch z) h
  | @dT a kvs ea =>
    cases (show u = Value.ref a from rx)
    obtain ⟨_, _, xs, _, o, es, ep, h1, h2, _⟩ := (show ObjOk X.prog X.w H s.heap a (.dT kvs) from I.hok a _ ea)
    exact PySem.W.kia_one PySem.W.kitx_dict I.kIn ⟨o, h1, h2.1⟩ e (fun z => nomatch z) h
  | @ins a C dx fs ea cl ha hn htk hm =>
    cases (show u = Value.ref a from rx)
    obtain ⟨mA, O, _⟩ := ins_get I.hok ea
    obtain ⟨od, J, _⟩ := O.look
    exact PySem.W.kia_one (PySem.W.kitx_own (cl.get _) cl.hd ha hn htk hm) I.kIn J e (fun z => nomatch z) h
end
end L2
namespace L2
open PySem PySem.Spec PyProof.Rows
structure Room (k : Nat) (A : Around) : Prop where
  hd : A.handled = none
  dp : A.depth + 3 * k + 5 < recursionLimit
  un : A.units + 16 * k + 200 < cLine
theorem Room.mono {j k : Nat} {A : Around} (r : Room k A) (h : j ≤ k) : Room j A := ⟨r.hd, by have := r.dp; omega, by have := r.un; omega⟩
theorem Room.deeper {k : Nat} {A : Around} (r : Room (k + 1) A) (env : Env) : Room k (A.deeper env) :=
  ⟨r.hd, by have := r.dp; show A.depth + 1 + 3 * k + 5 < _; omega, by have := r.un; show A.units + 3 + 16 * k + 200 < _; omega⟩
theorem Room.in1 {k : Nat} {A : Around} (r : Room (k + 1) A) : Room k A.in1 :=
  ⟨r.hd, by have := r.dp; show A.depth + 3 * k + 5 < _; omega, by have := r.un; show A.units + 1 + 16 * k + 200 < _; omega⟩
theorem Room.depth {k : Nat} {A : Around} (r : Room k A) : A.depth < recursionLimit := by have := r.dp; omega
theorem Room.units {k : Nat} {A : Around} (r : Room k A) : A.units + 64 < cLine := by have := r.un; omega
def tNil : TA := fun _ H Q => Q [] H
def tCons (ta : TE) (tr : TA) : TA := fun σ H Q => ta σ H fun x H1 => tr σ H1 fun xs H2 => Q (x :: xs) H2
section
variable {X : Cx} {e : Expr} {es : List Expr} {te : TE} {t : TA} {pos : Pos}
theorem pa_nil : PA X [] tNil := fun _ _ _ _ H Q I h => Calls.spliced_nil ⟨[], H, I, .nil, h⟩
theorem pa_cons (ha : PE X e te) (hr : PA X es t) (hs : starEach (e :: es) X.env = (false, eval e X.env) :: starEach es X.env := by rfl) : PA X (e :: es) (tCons te t) := by
  intro pos pins s σ H Q I h
  rw [hs]
  show wpAny _ _ (spliced ((false, eval e X.env) :: backTo pos (starEach es X.env))) _ _ s
  refine Calls.spliced_cons (thn (ha pins s σ H _ I h) fun u s1 ⟨x, H1, I1, r1, q1⟩ => ?_)
  exact thn (hr pos pins s1 σ H1 _ I1 q1) fun us s2 ⟨xs, H2, I2, r2, q2⟩ => ⟨x :: xs, H2, I2, .cons r1 r2, q2⟩
def tTup (t : TA) : TE := fun σ H Q => t σ H fun xs H1 => xs.length ≤ sizeLine ∧ ∀ p, H1 p = none → Q (.ref p) (upd H1 p (.tup xs))
def tLst (t : TA) : TE := fun σ H Q => t σ H fun xs H1 => xs.length ≤ sizeLine ∧ ∀ p, H1 p = none → Q (.ref p) (upd H1 p (.lst xs))
theorem pe_tup {x1} (h : PA X es t) : PE X (.Tuple es x1 pos) (tTup t) := by
  intro pins s σ H Q I hq
  refine wpAny_Tuple_spliced (thn (h pos pins s σ H _ I hq) fun us s1 ⟨xs, H1, I1, r, z, q⟩ => ⟨by rw [← r.length]; exact z, ?_⟩)
  have hf : H1 s1.heap.objs.size = none := I1.hok.fresh (Nat.le_refl _)
  refine ⟨.ref s1.heap.objs.size, upd H1 s1.heap.objs.size (.tup xs), I1.laid (t' := s1.toks) (fun b u e => Heap.get?_push_of_some _ e) (Nat.le_refl _) ?_, rfl, q _ hf⟩
  exact ⟨z, us, r, ⟨_, Heap.get?_push_size _ rfl, rfl, _, rfl⟩⟩
theorem pe_lst (h : PA X es t) : PE X (.List es pos) (tLst t) := by
  intro pins s σ H Q I hq
  refine wpAny_List_spliced (thn (h pos pins s σ H _ I hq) fun us s1 ⟨xs, H1, I1, r, z, q⟩ => ⟨by rw [← r.length]; exact z, ?_⟩)
  have hf : H1 s1.heap.objs.size = none := I1.hok.fresh (Nat.le_refl _)
  refine ⟨.ref s1.heap.objs.size, upd H1 s1.heap.objs.size (.lst xs), I1.laid (t' := s1.toks) (fun b u e => Heap.get?_push_of_some _ e) (Nat.le_refl _) ?_, rfl, q _ hf⟩
  exact ⟨z, us, 0, r, Heap.get?_push_size _ rfl⟩
end
abbrev Sp := List V → Hp → VK → XK → Prop
abbrev CXT := List Env → Hp → Shared → XK → Value → Shared → Prop
structure Env0 (P : Program) (w : World) (K : PySem.W.Frag) (mg : Str → Option Value) (base : Heap) (A : Around) (outer : List Env) (s : Shared) (H : Hp) : Prop where
  frames : A.frames = some outer
  mod : Mod K mg base
  bs : ∀ b o, base.get? b = some o → s.heap.get? b = some o ∧ H b = none
  bsz : base.objs.size ≤ s.heap.objs.size
  funs : s.heap.FunFrames base outer
  frf : ∀ b ∈ frs outer, H b = none
  hok : HOk P w H s.heap
  bare : AllBare s.gens
def CE (outer : List Env) (P : Program) (w : World) (H : Hp) (s : Shared) (Q : VK) (u : Value) (s' : Shared) : Prop :=
  ∃ v H', s'.os = s.os ∧ AllBare s'.gens ∧ Un (frs outer) [] H H' s.heap s'.heap ∧ HOk P w H' s'.heap ∧ RelV v u ∧ Q v H'
def CR (CX : CXT) (outer : List Env) (P : Program) (w : World) (H : Hp) (s : Shared) (Q : VK) (E : XK) (r : Result) (s' : Shared) : Prop :=
  match r with
  | .ok (.ret u) => CE outer P w H s Q u s'
  | .ok _ => False
  | .error e => CX outer H s E e s'
structure FnOk (P : Program) (w : World) (K : PySem.W.Frag) (mg : Str → Option Value) (base : Heap) (CX : CXT) (k : Nat) (f : Addr) (fd : FuncData) (ps : List Str) (sp : Sp) : Prop where
  len : ∀ vs H Q E, sp vs H Q E → vs.length = ps.length
  run : ∀ (A : Around) (outer : List Env) (s : Shared) (H : Hp) (args : Args) (us : List Value) (vs : List V) (Q : VK) (E : XK), Room k A → Env0 P w K mg base A outer s H → BindsTo s fd args (ps.zip us) → Vals vs us → sp vs H Q E →
    codeAny (model P w) A (.call (.ref f) args) (CR CX outer P w H s Q E) s
theorem FnOk.mono {P : Program} {w : World} {K : PySem.W.Frag} {mg : Str → Option Value} {base : Heap} {CX : CXT} {j k : Nat} {f : Addr} {fd : FuncData} {ps : List Str} {sp : Sp} (F : FnOk P w K mg base CX j f fd ps sp) (h : j ≤ k) :
    FnOk P w K mg base CX k f fd ps sp := ⟨F.len, fun A outer s H args us vs Q E hr => F.run A outer s H args us vs Q E (hr.mono h)⟩
theorem FnOk.imp {P : Program} {w : World} {K : PySem.W.Frag} {mg : Str → Option Value} {base : Heap} {CX : CXT} {k : Nat} {f : Addr} {fd : FuncData} {ps : List Str} {sp sp' : Sp} (F : FnOk P w K mg base CX k f fd ps sp)
    (h : ∀ vs H Q E, sp' vs H Q E → sp vs H Q E) : FnOk P w K mg base CX k f fd ps sp' :=
  ⟨fun vs H Q E q => F.len vs H Q E (h _ _ _ _ q), fun A outer s H args us vs Q E hr he hb hv hs => F.run A outer s H args us vs Q E hr he hb hv (h _ _ _ _ hs)⟩
theorem Env0.in1 {P : Program} {w : World} {K : PySem.W.Frag} {mg : Str → Option Value} {base : Heap} {A : Around} {outer : List Env} {s : Shared} {H : Hp} (e : Env0 P w K mg base A outer s H) :
    Env0 P w K mg base A.in1 outer s H := ⟨e.frames, e.mod, e.bs, e.bsz, e.funs, e.frf, e.hok, e.bare⟩
section
variable {X : Cx} {pins : List (Addr × Obj)} {σ : St} {H : Hp} {s s' : Shared}
theorem Inv.env0 (I : Inv X pins σ H s) : Env0 X.prog X.w X.K X.mg X.base X.A X.stack s H :=
  ⟨I.ok.frames, I.ok.mod, I.bs, Nat.le_trans I.ok.bsz I.sz, I.stack, I.stkFree, I.hok, I.bare⟩
theorem Inv.after {Q : VK} {u : Value} (I : Inv X pins σ H s) (h : CE X.stack X.prog X.w H s Q u s') : EP X pins σ Q u s' := by
  obtain ⟨v, H', os, bare, un, hok, r, q⟩ := h
  obtain ⟨hh, g, d, t, os'⟩ := s'
  obtain rfl : os' = s.os := os
  exact ⟨v, H', I.call (h' := hh) (g' := g) (d' := d) (t' := t) (ch := []) un hok bare (fun b z => absurd z (by simp)), r, q⟩
end
def tCall (sp : Sp) (dvs : List V) (E : XK) (t : TA) : TE := fun σ H Q => t σ H fun vs H1 => sp (vs ++ dvs) H1 Q E
def Binds (K : PySem.W.Frag) (fd : FuncData) (ps : List Str) (ds : List Value) : Prop :=
  ∀ (s : Shared) (us : List Value), K.In s.heap → (us ++ ds).length = ps.length → BindsTo s fd ⟨us, []⟩ (ps.zip (us ++ ds))
theorem Binds.all {K : PySem.W.Frag} {fd : FuncData} {ps : List Str} (h : ∀ us : List Value, us.length = ps.length → bindArgs fd ⟨us, []⟩ = pure (ps.zip us)) : Binds K fd ps [] := fun s us _ hl => by
  rw [List.append_nil] at hl ⊢
  exact .of_eq (h us hl)
def Passes (CX : CXT) (X : Cx) (E : XK) : Prop := ∀ (pins : List (Addr × Obj)) (σ : St) (H : Hp) (s : Shared) (e : Value) (s' : Shared), Inv X pins σ H s → CX X.stack H s E e s' → X.xe e s'
section
variable {X : Cx} {CX : CXT} {k : Nat} {f C : Addr} {fd : FuncData} {ps : List Str} {sp : Sp} {dvs : List V} {ds : List Value} {E : XK} {x m : Str} {p pos apos : Pos} {e o : Expr} {es : List Expr} {ta : TE} {t : TA}
theorem run_fn {pins : List (Addr × Obj)} {σ : St} {H : Hp} {s : Shared} {Q : VK} {us : List Value} {vs : List V} (F : FnOk X.prog X.w X.K X.mg X.base CX k f fd ps sp) (hr : Room k X.A) (hb : Binds X.K fd ps ds) (hd : Vals dvs ds) (hx : Passes CX X E)
    (I : Inv X pins σ H s) (r : Vals vs us) (h : sp (vs ++ dvs) H Q E) : wpAny (model X.prog X.w) X.A (call (.ref f) us) (EP X pins σ Q) X.xe s := by
  have r2 : Vals (vs ++ dvs) (us ++ ds) := r.append hd
  have hl : (us ++ ds).length = ps.length := by rw [← r2.length]; exact F.len _ _ _ _ h
  refine wpAny_call (codeAny_mono (F.run X.A X.stack s H ⟨us, []⟩ (us ++ ds) (vs ++ dvs) Q E hr I.env0 (hb s us I.kIn hl) r2 h) fun r s' hq => ?_)
  cases r with
  | error e => exact hx pins σ H s e s' I hq
  | ok fl =>
    cases fl with
    | ret u => exact I.after hq
    | next => exact False.elim hq
    | brk => exact False.elim hq
    | cont => exact False.elim hq
theorem pe_call (F : FnOk X.prog X.w X.K X.mg X.base CX k f fd ps sp) (hr : Room k X.A) (hg : Gl X x) (hm : X.mg x = some (.ref f)) (hk : PySem.W.keepIn X.K (.ref f) = true) (hb : Binds X.K fd ps ds) (hd : Vals dvs ds) (hx : Passes CX X E)
    (ha : PA X (e :: es) t) (hdb : (x == ("__debug__" : Str)) = false := by decide) (he : starEach (e :: es) X.env = (false, eval e X.env) :: starEach es X.env := by rfl) (hpl : (backTo pos (starEach es X.env)).any (·.1) = false := by rfl) :
    PE X (.Call (.Name x p) (e :: es) [] pos) (tCall sp dvs E t) := by
  intro pins s σ H Q I h
  refine wpAny_Call_Name_kw (ld_glob I hg hm ?_ hdb)
  refine PySem.W.callWith_K (h₀ := X.base) I.ok.mod.kin hk (thn (ha pos pins s σ H _ I h) fun us s1 ⟨vs, H1, I1, r, q⟩ => ⟨I1.kIn, ?_⟩) he hpl
  exact run_fn F hr hb hd hx I1 r q
end
section
variable {X : Cx} {CX : CXT} {k : Nat} {f C : Addr} {fd : FuncData} {ps ks : List Str} {sp : Sp} {E : XK} {x m : Str} {p pos apos kpos : Pos} {e o : Expr} {es : List Expr} {kws : List Keyword} {te ta : TE} {t tk : TA} {nm : Option Str}
variable {g : List Value → List Value → List Value} {gV : List V → List V → List V}
end
structure FnScope (N P : List Str) (sc : Scope) : Prop where
  kind : sc.kind = .function
  co : sc.isCoroutine = false
  gen : sc.isGenerator = false
  nd : N.Nodup
  pre : N.take P.length = P
  par : ∀ x ∈ P, sc.names.lookup x = some .local ∨ sc.names.lookup x = some .cell
  nofree : ∀ y ∈ sc.names, y.2 ≠ .free
theorem bindL_out {kindOf : Str → Option NameKind} {x : Str} : ∀ {binds : List (Str × Value)} {m : Str → Option Value}, (∀ v, (x, v) ∉ binds) → bindL kindOf binds m x = m x
  | [], _, _ => rfl
  | (n, v) :: r, m, h => by
    unfold bindL
    rw [bindL_out fun w hw => h w (List.mem_cons_of_mem _ hw)]
    split
    · have : x ≠ n := by rintro rfl; exact h v List.mem_cons_self
      simp [this]
    · rfl
theorem bindC_out {kindOf : Str → Option NameKind} {x : Str} : ∀ {binds : List (Str × Value)} {m : Str → Option Value}, (∀ v, (x, v) ∉ binds) → bindC kindOf binds m x = m x
  | [], _, _ => rfl
  | (n, v) :: r, m, h => by
    unfold bindC
    rw [bindC_out fun w hw => h w (List.mem_cons_of_mem _ hw)]
    split
    · rfl
    · have : x ≠ n := by rintro rfl; exact h v List.mem_cons_self
      simp [this]
theorem bindL_get {kindOf : Str → Option NameKind} {x : Str} {v : Value} : ∀ {P : List Str} {vs : List Value} {i : Nat} {m : Str → Option Value}, P.Nodup → P[i]? = some x → vs[i]? = some v → kindOf x = some .local →
    bindL kindOf (P.zip vs) m x = some v
  | [], _, _, _, _, h, _, _ => by simp at h
  | _ :: _, [], _, _, _, _, h, _ => by simp at h
  | p :: P, w :: vs, 0, m, nd, h1, h2, hk => by
    simp at h1 h2; subst h1; subst h2
    show bindL kindOf ((p, w) :: P.zip vs) m p = _
    unfold bindL
    rw [bindL_out fun v hv => (List.nodup_cons.mp nd).1 (List.of_mem_zip hv).1, if_pos hk]
    simp
  | p :: P, w :: vs, i + 1, m, nd, h1, h2, hk => by
    show bindL kindOf ((p, w) :: P.zip vs) m x = _
    unfold bindL
    exact bindL_get (i := i) (List.nodup_cons.mp nd).2 (by simpa using h1) (by simpa using h2) hk
theorem bindC_get {kindOf : Str → Option NameKind} {x : Str} {v : Value} : ∀ {P : List Str} {vs : List Value} {i : Nat} {m : Str → Option Value}, P.Nodup → P[i]? = some x → vs[i]? = some v → kindOf x ≠ some .local →
    bindC kindOf (P.zip vs) m x = some v
  | [], _, _, _, _, h, _, _ => by simp at h
  | _ :: _, [], _, _, _, _, h, _ => by simp at h
  | p :: P, w :: vs, 0, m, nd, h1, h2, hk => by
    simp at h1 h2; subst h1; subst h2
    show bindC kindOf ((p, w) :: P.zip vs) m p = _
    unfold bindC
    rw [bindC_out fun v hv => (List.nodup_cons.mp nd).1 (List.of_mem_zip hv).1, if_neg hk]
    simp
  | p :: P, w :: vs, i + 1, m, nd, h1, h2, hk => by
    show bindC kindOf ((p, w) :: P.zip vs) m x = _
    unfold bindC
    exact bindC_get (i := i) (List.nodup_cons.mp nd).2 (by simpa using h1) (by simpa using h2) hk
def start (N : List Str) (vs : List V) : St := vs.map some ++ List.replicate (N.length - vs.length) none
def cxOf (CX : CXT) (P : Program) (w : World) (K : PySem.W.Frag) (mg : Str → Option Value) (base : Heap) (N : List Str) (qual : Str) (scope : Scope) (f : Addr) (cd : Value) (A : Around) (outer : List Env) (s : Shared) (H : Hp) (E : XK) : Cx where
  prog := P
  w := w
  K := K
  mg := mg
  base := base
  A := A.deeper (envOfC qual scope s.heap.objs.size f cd)
  N := N
  s₀ := s
  H₀ := H
  env := envOfC qual scope s.heap.objs.size f cd
  outer := outer
  stack := envOfC qual scope s.heap.objs.size f cd :: outer
  ex := []
  calm := true
  fn := fun _ => true
  pn := []
  xe := fun e s' => wpAny (model P w) (A.deeper (envOfC qual scope s.heap.objs.size f cd)) (leaving (envOfC qual scope s.heap.objs.size f cd) e) (fun _ s'' => CX outer H s E e s'') (fun e' s'' => CX outer H s E e' s'') s'
theorem cell_has {sc : Scope} {n : Nat} {x : Str} (h : sc.names.lookup x = some .cell) : ∃ c, (cellsFrom n sc.names []).lookup x = some c := by
  have q := PySem.W.cellsFrom_some sc.names n [] (.inl h)
  exact Option.isSome_iff_exists.mp q
theorem inv_start {CX : CXT} {P : Program} {w : World} {K : PySem.W.Frag} {mg : Str → Option Value} {base : Heap} {N ps : List Str} {qual : Str} {scope : Scope} {f : Addr} {cd : Value} {A : Around} {outer : List Env} {s s1 : Shared} {H : Hp} {E : XK} {us : List Value} {vs : List V}
    (S : FnScope N ps scope) (hd : A.handled = none) (e0 : Env0 P w K mg base A outer s H) (hl : vs.length = ps.length) (r : Vals vs us)
    (x : InCallC s s.heap.objs.size (bindL (envOfC qual scope s.heap.objs.size f cd).kindOf (ps.zip us) fun _ => none) (cellsFrom (s.heap.objs.size + 1) scope.names []) (bindC (envOfC qual scope s.heap.objs.size f cd).kindOf (ps.zip us) fun _ => none) s1) :
    Inv (cxOf CX P w K mg base N qual scope f cd A outer s H E) [] (start N vs) H s1 := by
  have hpl : ps.length ≤ N.length := by have := congrArg List.length S.pre; rw [List.length_take] at this; omega
  obtain ⟨h1, tk, rfl, hk⟩ := x.done
  have noA : ∀ b : Addr, b ∉ (cxOf CX P w K mg base N qual scope f cd A outer s H E).ex := fun b z => absurd (show b ∈ ([] : List Addr) from z) (by simp)
  refine ⟨⟨e0.mod, S.kind, rfl, rfl, Nat.le_refl _, fun y z c h1 h2 => ?_, fun y hy => ?_, fun y c _ h => ?_, fun _ => hd, Around.frames_deeper e0.frames, .inr ⟨rfl, rfl⟩, fun b z => absurd z (noA b), e0.bs, e0.bsz, fun b _ _ => noA b, fun b z => absurd z (noA b), e0.funs, e0.frf⟩,
    rfl, e0.bare, Un.kept hk, ⟨_, x.toInCall.ns, fun i y v h1 h2 h3 => ?_⟩, fun y c h => ⟨_, x.cell y c h⟩, e0.hok.fresh (Nat.le_refl _), fun y c h => ?_, fun p hp => absurd (show p ∈ ([] : List (Addr × Obj)) from hp) (by simp), e0.hok.kept hk, ?_⟩
  · exact name_of_addr x.apart (PySem.mem_of_lookup h1) (PySem.mem_of_lookup h2)
  · have hy : scope.names.lookup y = some .cell ∨ scope.names.lookup y = some .free := hy
    rcases hy with hy | hy
    · exact cell_has hy
    · exact absurd rfl (S.nofree _ (PySem.mem_of_lookup hy))
  · exact Nat.le_of_lt (x.above y c (PySem.mem_of_lookup h))
  · have hi : i < vs.length := by
      unfold start at h2
      by_cases hi : i < vs.length
      · exact hi
      · rw [List.getElem?_append_right (by simpa using hi)] at h2
        rw [List.getElem?_replicate] at h2
        split at h2 <;> cases h2
    have ha : vs[i]? = some v := by
      unfold start at h2
      rw [List.getElem?_append_left (by simpa using hi), List.getElem?_map] at h2
      cases e : vs[i]? with
      | none => rw [e] at h2; cases h2
      | some a => rw [e] at h2; cases h2; rfl
    obtain ⟨u, hu, rv⟩ := r.get ha
    have hp : ps[i]? = some y := by
      rw [← S.pre, List.getElem?_take_of_lt (by omega)]; exact h1
    have ndP : ps.Nodup := by rw [← S.pre]; exact S.nd.sublist (List.take_sublist _ _)
    refine ⟨u, rv, ?_⟩
    rcases S.par y (List.mem_of_getElem? hp) with k | k
    · exact .inl ⟨k, bindL_get ndP hp hu k⟩
    · obtain ⟨c, e⟩ := cell_has (n := s.heap.objs.size + 1) k
      refine .inr ⟨.inl k, c, e, ?_⟩
      have q := x.cell y c e
      rw [bindC_get ndP hp hu (by show scope.names.lookup y ≠ _; rw [k]; decide)] at q
      exact q
  · exact e0.hok.fresh (Nat.le_of_lt (x.above y c (PySem.mem_of_lookup h)))
  · unfold start
    show _ = N.length
    rw [List.length_append, List.length_map, List.length_replicate]
    omega
theorem fn_of {CX : CXT} {P : Program} {w : World} {K : PySem.W.Frag} {mg : Str → Option Value} {base : Heap} {k : Nat} {f : Addr} {name qual : Str} {params : Arguments} {body : List Stmt} {scope : Scope} {dV kV doc pm cdv ct oc : Value} {an od : Option Addr}
    {osl : Array (Option Value)} {N ps : List Str} {sp : Sp} (lk : K.lookup f = some ⟨oc, od, .func (PySem.W.fnOf name qual params body scope dV kV doc pm an cdv ct), osl⟩) (hcd : PySem.W.codeIn K cdv qual = true) (S : FnScope N ps scope)
    (len : ∀ vs H Q E, sp vs H Q E → vs.length = ps.length)
    (hbody : ∀ (A : Around) (outer : List Env) (s : Shared) (H : Hp) (vs : List V) (Q : VK) (E : XK), Room k (A.deeper (envOfC qual scope s.heap.objs.size f cdv)) → sp vs H Q E →
      ∃ t, PSs (cxOf CX P w K mg base N qual scope f cdv A outer s H E) body t ∧ t { nx := fun _ H' => Q .non H', rt := Q } (start N vs) H) :
    FnOk P w K mg base CX (k + 1) f (PySem.W.fnOf name qual params body scope dV kV doc pm an cdv ct) ps sp := by
  refine ⟨len, fun A outer s H args us vs Q E hr e0 hb r hsp => ?_⟩
  have hl := len _ _ _ _ hsp
  have KX : K.In s.heap := e0.mod.kin.keeps fun b o e => (e0.bs b o e).1
  have lim : s.heap.NoLimit := e0.mod.nolimit.keeps fun b o e => (e0.bs b o e).1
  have hkind : ∀ y ∈ ps.zip us, scope.names.lookup y.1 = some .local ∨ (scope.names.lookup y.1 = some .cell ∧ ((cellsFrom (s.heap.objs.size + 1) scope.names []).lookup y.1).isSome = true) := fun ⟨n, v⟩ hy => by
    rcases S.par n (List.of_mem_zip hy).1 with q | q
    · exact .inl q
    · exact .inr ⟨q, PySem.W.cellsFrom_some _ _ _ (.inl q)⟩
  refine codeAny_call_function hr.depth (KX _ _ lk) rfl S.co S.gen rfl (PySem.W.codeRec_of KX hcd) (hb _ _ _ _ ?_)
  refine wpAny_newFunctionEnv_cells S.kind hkind fun env he s1 x => ?_
  subst he
  refine ⟨lim.keeps x.toInCall.keep, codeAny_func ?_⟩
  obtain ⟨t, ht, hq⟩ := hbody A outer s H vs Q E (hr.deeper _) hsp
  have I : Inv (cxOf CX P w K mg base N qual scope f cdv A outer s H E) [] (start N vs) H s1 := inv_start S hr.hd e0 hl r x
  refine wpAny_mono (ht [] s1 (start N vs) H _ I hq) (fun fl s' hs => ?_) fun e s' hs => hs
  have fin : ∀ {σ' : St} {H' : Hp} {v : V} {u : Value}, Inv (cxOf CX P w K mg base N qual scope f cdv A outer s H E) [] σ' H' s' → RelV v u → Q v H' → CE outer P w H s Q u s' :=
    fun {σ' H' v u} J rv q => ⟨v, H', J.os, J.bare, J.base, J.hok, rv, q⟩
  cases fl with
  | ret u =>
    obtain ⟨v, σ', H', J, rv, q⟩ := hs
    exact fin J rv q
  | next =>
    obtain ⟨σ', H', J, q⟩ := hs
    exact fin (v := V.non) (u := Value.none) J rfl q
  | brk =>
    obtain ⟨_, _, _, q⟩ := hs
    exact False.elim q
  | cont =>
    obtain ⟨_, _, _, q⟩ := hs
    exact False.elim q
end L2
namespace L2
open PySem PySem.Spec PyProof.Rows
section
variable {X : Cx} {x : Str} {p pos : Pos} {e : Expr} {es : List Expr} {t : TA} {id T : String} {r : List V → Hp → VK → Prop}
def tCB (r : List V → Hp → VK → Prop) (t : TA) : TE := fun σ H Q => t σ H fun vs H1 => r vs H1 Q
theorem pe_callB (hc : CallR X (.builtin id) r) (hg : Gl X x) (hm : X.mg x = none) (hv : bootBuiltins x = some (.builtin id)) (ha : PA X (e :: es) t) (hn : x ≠ "__name__" := by decide) (hdb : (x == ("__debug__" : Str)) = false := by decide)
    (he : starEach (e :: es) X.env = (false, eval e X.env) :: starEach es X.env := by rfl) (hpl : (backTo pos (starEach es X.env)).any (·.1) = false := by rfl) : PE X (.Call (.Name x p) (e :: es) [] pos) (tCB r t) := by
  intro pins s σ H Q I h
  refine wpAny_Call_Name_kw (ld_blt I hg hm hv ?_ hn hdb)
  exact PyProof.Rows.callWith_builtin1 (thn (ha pos pins s σ H _ I h) fun us s1 ⟨vs, H1, I1, r1, q1⟩ => hc pins s1 σ H1 vs us Q I1 r1 q1) he hpl
theorem pe_callTy (hc : CallR X (.type T) r) (hg : Gl X x) (hm : X.mg x = none) (hv : bootBuiltins x = some (.type T)) (ha : PA X (e :: es) t) (hn : x ≠ "__name__" := by decide) (hdb : (x == ("__debug__" : Str)) = false := by decide)
    (he : starEach (e :: es) X.env = (false, eval e X.env) :: starEach es X.env := by rfl) (hpl : (backTo pos (starEach es X.env)).any (·.1) = false := by rfl) : PE X (.Call (.Name x p) (e :: es) [] pos) (tCB r t) := by
  intro pins s σ H Q I h
  refine wpAny_Call_Name_kw (ld_blt I hg hm hv ?_ hn hdb)
  exact PyProof.Rows.callWith_type1 (thn (ha pos pins s σ H _ I h) fun us s1 ⟨vs, H1, I1, r1, q1⟩ => hc pins s1 σ H1 vs us Q I1 r1 q1) he hpl
end
end L2
namespace HT
open PySem PyProof.Rows
section
open PySem.SeqAt
open PySem.AutoSeq1 (wpAny_loadPart')
open PySem.MeetsSeq PySem.MeetsSeq2 PySem.MeetsSeq3
end
section
variable {prog : Program} {w : World} {A : Around} {E : Value → Shared → Prop} {s : Shared}
def sIx (n d : Nat) : Option Int → Nat
  | none => d
  | some v => if v < 0 then (v + (n : Int)).toNat else min v.toNat n
theorem sIx_none (n d : Nat) : sIx n d none = d := rfl
theorem sIx_nat (n d k : Nat) : sIx n d (some (k : Int)) = min k n := by
  show (if (k : Int) < 0 then ((k : Int) + (n : Int)).toNat else min (k : Int).toNat n) = min k n
  rw [if_neg (by omega), Int.toNat_natCast]
end
end HT
namespace L2
open PySem PySem.Spec PyProof.Rows
abbrev TO := St → Hp → (Option Int → Hp → Prop) → Prop
def PO (X : Cx) (e : Option Expr) (t : TO) : Prop :=
  ∀ (pins : List (Addr × Obj)) (s : Shared) (σ : St) (H : Hp) (Q : Option Int → Hp → Prop), Inv X pins σ H s → t σ H Q →
    wpAny (model X.prog X.w) X.A (evalPart e X.env) (fun u s' => ∃ o H', Inv X pins σ H' s' ∧ IsPart u o ∧ Q o H') X.xe s
def tNoPart : TO := fun _ H Q => Q none H
def tPart (t : TE) : TO := fun σ H Q => t σ H fun x H1 => ∃ i, x = .int i ∧ Q (some i) H1
section
variable {X : Cx} {e : Expr} {te : TE} {lo hi : Option Expr} {tl th : TO} {pos p2 : Pos}
theorem po_none : PO X none tNoPart := by
  intro pins s σ H Q I h
  rw [evalPart_none]
  exact wpAny_pure ⟨none, H, I, .none, h⟩
theorem po_some (h : PE X e te) : PO X (some e) (tPart te) := by
  intro pins s σ H Q I hw
  rw [evalPart_some]
  refine thn (h pins s σ H _ I hw) fun u s1 ⟨x, H1, I1, r1, q1⟩ => ?_
  obtain ⟨i, rfl, q⟩ := q1
  obtain ⟨t, rfl⟩ := r1
  exact ⟨some i, H1, I1, .int i t, q⟩
def SlR (X : Cx) (r : V → Option Int → Option Int → Hp → VK → Prop) : Prop :=
  ∀ (pins : List (Addr × Obj)) (s : Shared) (σ : St) (H : Hp) (x : V) (v vl vu : Value) (lo hi : Option Int) (sl : Addr) (Q : VK), Inv X pins σ H s → RelV x v → s.heap.IsSliceOf sl vl vu .none → IsPart vl lo → IsPart vu hi → r x lo hi H Q →
    ∃ T id, typeLookup (.type T) "__getitem__" = pure (some (.builtin id)) ∧ s.TypeIs v T ∧ wpAny (model X.prog X.w) X.A (getItem v (.ref sl)) (EP X pins σ Q) X.xe s
theorem SlR.or {r r' : V → Option Int → Option Int → Hp → VK → Prop} (h : SlR X r) (h' : SlR X r') : SlR X (fun x lo hi H Q => r x lo hi H Q ∨ r' x lo hi H Q) := by
  intro pins s σ H x v vl vu lo hi sl Q I rx hs pl pu q
  rcases q with q | q
  · exact h pins s σ H x v vl vu lo hi sl Q I rx hs pl pu q
  · exact h' pins s σ H x v vl vu lo hi sl Q I rx hs pl pu q
def tSl (r : V → Option Int → Option Int → Hp → VK → Prop) (te : TE) (tl th : TO) : TE := fun σ H Q => te σ H fun x H1 => tl σ H1 fun l H2 => th σ H2 fun u H3 => r x l u H3 Q
theorem pe_slice {r : V → Option Int → Option Int → Hp → VK → Prop} (hr : SlR X r) (he : PE X e te) (hl : PO X lo tl) (hu : PO X hi th) : PE X (.Subscript e (.Slice lo hi none p2) pos) (tSl r te tl th) := by
  intro pins s σ H Q I h
  refine Subscript_ (thn (he pins s σ H _ I h) fun v s1 ⟨x, H1, I1, r1, q1⟩ => ?_)
  refine wpAny_Slice (thn (hl pins s1 σ H1 _ I1 q1) fun vl s2 ⟨l, H2, I2, pl, q2⟩ => thn (hu pins s2 σ H2 _ I2 q2) fun vu s3 ⟨u, H3, I3, pu, q3⟩ => ?_)
  rw [evalPart_none]
  refine wpAny_pure ?_
  have I4 : Inv X pins σ H3 { s3 with heap := s3.heap.push { cls := .type "slice", data := .fields #[vl, vu, .none] } } := I3.kept (t' := s3.toks) fun b ob q => Heap.get?_push_of_some _ q
  obtain ⟨T, id, hT, ht, hg⟩ := hr pins { s3 with heap := s3.heap.push { cls := .type "slice", data := .fields #[vl, vu, .none] } } σ H3 x v vl vu l u s3.heap.objs.size Q I4 r1 (Heap.IsSliceOf.new ..) pl pu q3
  show wpAny (model X.prog X.w) X.A (subscriptTail e (.Slice lo hi none p2) v (.ref s3.heap.objs.size)) (EP X pins σ Q) X.xe { s3 with heap := s3.heap.push { cls := .type "slice", data := .fields #[vl, vu, .none] } }
  exact tail_any (ops := [.ref s3.heap.objs.size, v]) ht hT hg (by with_unfolding_all rfl)
def cutV (xs : List V) (lo hi : Option Int) : List V := (xs.drop (HT.sIx xs.length 0 lo)).take (HT.sIx xs.length xs.length hi - HT.sIx xs.length 0 lo)
theorem cutV_length (xs : List V) (lo hi : Option Int) : (cutV xs lo hi).length ≤ xs.length := by
  unfold cutV
  rw [List.length_take, List.length_drop]
  omega
end
end L2
namespace L2
open PySem PySem.Spec PyProof.Rows
def ixN (n : Nat) (i : Int) : Option Nat := if 0 ≤ i then (if i < n then some i.toNat else none) else if -(n : Int) ≤ i then some (i + n).toNat else none
def atI {α : Type} (xs : List α) (i : Int) : Option α := (ixN xs.length i).bind fun j => xs[j]?
theorem ixN_seq {n : Nat} {i : Int} {j : Nat} (h : ixN n i = some j) : seqIndex? i n = some j ∧ j < n ∧ -(n : Int) ≤ i ∧ i < n := by
  unfold ixN at h
  by_cases h0 : 0 ≤ i
  · rw [if_pos h0] at h
    by_cases h1 : i < n
    · rw [if_pos h1] at h
      have e : i.toNat = j := Option.some.inj h
      exact ⟨by rw [seqIndex_of h0 h1, e], by omega, by omega, h1⟩
    · rw [if_neg h1] at h; cases h
  · rw [if_neg h0] at h
    by_cases h1 : -(n : Int) ≤ i
    · rw [if_pos h1] at h
      have e : (i + n).toNat = j := Option.some.inj h
      exact ⟨by rw [seqIndex_neg (by omega) h1, e], by omega, h1, by omega⟩
    · rw [if_neg h1] at h; cases h
theorem atI_get {α : Type} {xs : List α} {i : Int} {v : α} (h : atI xs i = some v) : ∃ j, seqIndex? i xs.length = some j ∧ xs[j]? = some v ∧ j < xs.length ∧ -(xs.length : Int) ≤ i ∧ i < xs.length := by
  unfold atI at h
  cases e : ixN xs.length i with
  | none => rw [e] at h; cases h
  | some j =>
    rw [e] at h
    obtain ⟨h1, h2, h3, h4⟩ := ixN_seq e
    exact ⟨j, h1, h, h2, h3, h4⟩
theorem atI_nat {α : Type} {xs : List α} {j : Nat} {v : α} (h : xs[j]? = some v) : atI xs (j : Int) = some v := by
  have hj : j < xs.length := (List.getElem?_eq_some_iff.mp h).1
  have e : ixN xs.length (j : Int) = some j := by
    unfold ixN
    rw [if_pos (by omega), if_pos (by omega)]; simp
  unfold atI; rw [e]; exact h
def PlainIx (b : Expr) : Prop := ∀ o i, subscripted b false o i = operate [o, i] (getItem o i)
def IxR (X : Cx) (r : R2) : Prop :=
  ∀ (value slice : Expr) (pins : List (Addr × Obj)) (s : Shared) (σ : St) (H : Hp) (x y : V) (v u : Value) (Q : VK), Inv X pins σ H s → RelV x v → RelV y u → r x y H Q →
    subscripted slice false v u = operate [v, u] (getItem v u) → wpAny (model X.prog X.w) X.A (subscriptTail value slice v u) (EP X pins σ Q) X.xe s
def MtR (X : Cx) (id : String) (r : V → List V → Hp → VK → Prop) : Prop :=
  ∀ (pins : List (Addr × Obj)) (s : Shared) (σ : St) (H : Hp) (x : V) (xs : List V) (v : Value) (us : List Value) (Q : VK), Inv X pins σ H s → RelV x v → Vals xs us → r x xs H Q →
    wpAny (model X.prog X.w) X.A (call (.builtin id) (v :: us)) (EP X pins σ Q) X.xe s
section
variable {X : Cx} {a b : Expr} {ta tb : TE} {pos : Pos}
theorem IxR.or {r r' : R2} (h : IxR X r) (h' : IxR X r') : IxR X (fun x y H Q => r x y H Q ∨ r' x y H Q) := by
  intro value slice pins s σ H x y v u Q I rx ry q hs
  rcases q with q | q
  · exact h value slice pins s σ H x y v u Q I rx ry q hs
  · exact h' value slice pins s σ H x y v u Q I rx ry q hs
theorem MtR.or {id : String} {r r' : V → List V → Hp → VK → Prop} (h : MtR X id r) (h' : MtR X id r') : MtR X id (fun x xs H Q => r x xs H Q ∨ r' x xs H Q) := by
  intro pins s σ H x xs v us Q I rx rs q
  rcases q with q | q
  · exact h pins s σ H x xs v us Q I rx rs q
  · exact h' pins s σ H x xs v us Q I rx rs q
theorem pe_ix {r : R2} (hr : IxR X r) (ha : PE X a ta) (hb : PE X b tb) (hs : PlainIx b) : PE X (.Subscript a b pos) (tOp r ta tb) := by
  intro pins s σ H Q I h
  exact Subscript_ (binT ha hb I h fun v u s2 x y H2 I2 rx ry q => hr a b pins s2 σ H2 x y v u Q I2 rx ry q (hs _ _))
def rIxL (K : PySem.W.Frag) : R2 := fun x y H Q => ∃ p xs i v, x = .ref p ∧ y = .int i ∧ SqL K H p xs ∧ atI xs i = some v ∧ Q v H
def rIxT (K : PySem.W.Frag) : R2 := fun x y H Q => ∃ p xs i v, x = .ref p ∧ y = .int i ∧ SqT K H p xs ∧ atI xs i = some v ∧ Q v H
def rIxS : R2 := fun x y H Q => ∃ z i c, x = .str z ∧ y = .int i ∧ z.length ≤ sizeLine ∧ atI z.cps.toList i = some c ∧ Q (.str ⟨#[c]⟩) H
theorem ix_list : IxR X (rIxL X.K) := by
  intro value slice pins s σ H x y v u Q I rx ry h hs
  obtain ⟨p, xs, i, z, rfl, rfl, hq, he, q⟩ := h
  cases rx
  obtain ⟨t, rfl⟩ := ry
  obtain ⟨its, r, pl, hz⟩ := I.list hq
  obtain ⟨j, h1, h2, h3, h4, h5⟩ := atI_get he
  obtain ⟨w, ew, rw'⟩ := r.get h2
  have hl := r.length
  have hn := line63
  have fin : EP X pins σ Q w s := ⟨z, H, I, rw', q⟩
  by_cases h0 : 0 ≤ i
  · have hj : i.toNat = j := by
      rw [seqIndex_of h0 h5] at h1
      exact Option.some.inj h1
    exact item_listR pl.isList h0 (by omega) (by rw [hj]; simpa using ew) fin hs
  · have hj : (i + (its.toArray.size : Int)).toNat = j := by
      rw [seqIndex_neg (by omega) h4] at h1
      rw [List.size_toArray, ← hl]
      exact Option.some.inj h1
    exact subscriptTail_builtinR (x := w) pl.isList.typeIs slot_list_getitem.lookup
      (wpAny_getItem_list_neg (Q := fun r s' => r = w ∧ EP X pins σ Q r s') pl.isList (by omega) (by rw [List.size_toArray] <;> omega) (by omega) (by rw [hj]; simpa using ew) ⟨rfl, fin⟩) hs
theorem ix_tup : IxR X (rIxT X.K) := by
  intro value slice pins s σ H x y v u Q I rx ry h hs
  obtain ⟨p, xs, i, z, rfl, rfl, hq, he, q⟩ := h
  cases rx
  obtain ⟨t, rfl⟩ := ry
  obtain ⟨its, r, pl, hz⟩ := I.tuple hq
  obtain ⟨j, h1, h2, h3, h4, h5⟩ := atI_get he
  obtain ⟨w, ew, rw'⟩ := r.get h2
  have hl := r.length
  have hn := line63
  have fin : EP X pins σ Q w s := ⟨z, H, I, rw', q⟩
  exact subscriptTail_builtinR (x := w) pl.typeIs slot_tuple_getitem.lookup
    (getItem_tuple (j := j) (Q := fun r s' => r = w ∧ EP X pins σ Q r s') pl (by omega) (by omega) (by rw [List.size_toArray, ← hl]; exact h1) (by simpa using ew) ⟨rfl, fin⟩) hs
theorem ix_str : IxR X rIxS := by
  intro value slice pins s σ H x y v u Q I rx ry h hs
  obtain ⟨z, i, c, rfl, rfl, hz, he, q⟩ := h
  obtain ⟨t, rfl⟩ := rx
  obtain ⟨t', rfl⟩ := ry
  obtain ⟨j, h1, h2, h3, h4, h5⟩ := atI_get he
  have hl : z.cps.toList.length = z.length := by simp [Str.length]
  rw [hl] at h1 h4 h5
  have hn := line63
  exact tail_any (typeIs_str s z t) slot_str_getitem.lookup (getItem_str (c := c) (by
    have e1 : decide (i < -(2 ^ 63 : Int)) = false := decide_eq_false (by omega)
    have e2 : decide (i ≥ 2 ^ 63) = false := decide_eq_false (by omega)
    rw [e1, e2, Bool.or_false]) (by rw [h1]; simpa using h2) ⟨.str ⟨#[c]⟩, H, I.tok _, ⟨_, rfl⟩, q⟩) hs
theorem Inv.lst {pins : List (Addr × Obj)} {σ : St} {H : Hp} {s : Shared} {p : Addr} {xs : List V} (I : Inv X pins σ H s) (h : H p = some (.lst xs)) :
    ∃ (its : List Value) (n : Nat), Vals xs its ∧ s.heap.get? p = some { cls := .type "list", data := .seq its.toArray n } ∧ xs.length ≤ sizeLine := by
  obtain ⟨z, its, n, r, e⟩ := I.hok p _ h
  exact ⟨its, n, r, e, z⟩
def rSetL : V → V → V → Hp → (Hp → Prop) → Prop := fun o i v H Q => ∃ p xs k j, o = .ref p ∧ i = .int k ∧ H p = some (.lst xs) ∧ ixN xs.length k = some j ∧ Q (upd H p (.lst (xs.set j v)))
theorem slice_bounds (lo hi : Option Int) (n : Nat) : (sliceBounds lo hi none n).1 = ((HT.sIx n 0 lo : Nat) : Int) ∧ (sliceBounds lo hi none n).2.1 = ((HT.sIx n n hi : Nat) : Int) ∧ (sliceBounds lo hi none n).2.2 = 1 := by
  refine ⟨?_, ?_, rfl⟩
  · cases lo with
    | none => simp [sliceBounds, HT.sIx]
    | some i =>
      simp only [sliceBounds, HT.sIx, Option.getD_none, show (1 : Int) > 0 by decide, if_true]
      by_cases h : i < 0
      · simp only [h, if_true] <;> omega
      · simp only [h, if_false] <;> omega
  · cases hi with
    | none => simp [sliceBounds, HT.sIx]
    | some i =>
      simp only [sliceBounds, HT.sIx, Option.getD_none, show (1 : Int) > 0 by decide, if_true]
      by_cases h : i < 0
      · simp only [h, if_true] <;> omega
      · simp only [h, if_false] <;> omega
theorem slicePick_cut (its : List Value) (lo hi : Option Int) : slicePick its.toArray lo hi none = ((its.drop (HT.sIx its.length 0 lo)).take (HT.sIx its.length its.length hi - HT.sIx its.length 0 lo)).toArray := by
  obtain ⟨h1, h2, h3⟩ := slice_bounds lo hi its.toArray.size
  unfold slicePick
  rw [h1, h2, h3]
  simp only [sliceRange_one, pick_run, List.size_toArray] <;> rfl
def rSlL (K : PySem.W.Frag) : V → Option Int → Option Int → Hp → VK → Prop := fun x lo hi H Q => ∃ a xs, x = .ref a ∧ SqL K H a xs ∧ ∀ p, H p = none → Q (.ref p) (upd H p (.lst (cutV xs lo hi)))
theorem sl_list : SlR X (rSlL X.K) := by
  intro pins s σ H x v vl vu lo hi sl Q I rx hs pl pu h
  obtain ⟨a, xs, rfl, hx, q⟩ := h
  cases rx
  obtain ⟨its, r, ht, hz⟩ := I.list hx
  have hlen := r.length
  refine ⟨"list", _, slot_list_getitem.lookup, ht.isList.typeIs, ?_⟩
  refine wpAny_getItem_list_slice ht.isList hs pl pu .none (by simp) ?_ (by rw [List.size_toArray] <;> omega)
  rw [slicePick_cut, ← hlen]
  refine ⟨.ref s.heap.objs.size, _, I.laid (t' := s.toks) (o := .lst (cutV xs lo hi)) (fun b ob q => Heap.get?_push_of_some _ q) (Nat.le_refl _) ?_, rfl, q _ (I.hok.fresh (Nat.le_refl _))⟩
  exact ⟨Nat.le_trans (cutV_length xs lo hi) hz, _, 0, (r.drop (HT.sIx xs.length 0 lo)).take (HT.sIx xs.length xs.length hi - HT.sIx xs.length 0 lo), Heap.get?_push_size _ rfl⟩
def flatV : V → Bool
  | .non => true
  | .bl _ => true
  | .int _ => true
  | .str _ => true
  | _ => false
def eqV : V → V → Bool
  | .non, .non => true
  | .bl a, .bl b => a == b
  | .bl a, .int b => (if a then 1 else 0) == b
  | .int a, .bl b => a == (if b then 1 else 0)
  | .int a, .int b => a == b
  | .str a, .str b => a == b
  | _, _ => false
theorem eqAt_V {A : Around} {s : Shared} {y x : V} {u v : Value} (ry : RelV y u) (rx : RelV x v) (fy : flatV y = true) (fx : flatV x = true) : SeqAt.EqAt A s u v (eqV y x) := by
  cases y with
  | non =>
    cases ry
    cases x with
    | non => cases rx; exact SeqAt.EqAt.same _
    | bl b => cases rx; exact SeqAt.EqAt.none_bool b
    | int b => obtain ⟨t, rfl⟩ := rx; exact SeqAt.EqAt.none_int b t
    | str b => obtain ⟨t, rfl⟩ := rx; exact SeqAt.EqAt.none_str b t
    | _ => exact absurd (show false = true from fx) Bool.false_ne_true
  | bl a =>
    cases ry
    cases x with
    | non => cases rx; exact SeqAt.EqAt.bool_none a
    | bl b => cases rx; exact SeqAt.EqAt.bool_bool a b
    | int b => obtain ⟨t, rfl⟩ := rx; exact SeqAt.EqAt.bool_int a b t
    | str b => obtain ⟨t, rfl⟩ := rx; exact SeqAt.EqAt.bool_str a b t
    | _ => exact absurd (show false = true from fx) Bool.false_ne_true
  | int a =>
    obtain ⟨t', rfl⟩ := ry
    cases x with
    | non => cases rx; exact SeqAt.EqAt.int_none a t'
    | bl b => cases rx; exact SeqAt.EqAt.int_bool a t' b
    | int b => obtain ⟨t, rfl⟩ := rx; exact SeqAt.EqAt.int_int a t' b t
    | str b => obtain ⟨t, rfl⟩ := rx; exact SeqAt.EqAt.int_str a t' b t
    | _ => exact absurd (show false = true from fx) Bool.false_ne_true
  | str a =>
    obtain ⟨t', rfl⟩ := ry
    cases x with
    | non => cases rx; exact SeqAt.EqAt.str_none a t'
    | bl b => cases rx; exact SeqAt.EqAt.str_bool a t' b
    | int b => obtain ⟨t, rfl⟩ := rx; exact SeqAt.EqAt.str_int a t' b t
    | str b => obtain ⟨t, rfl⟩ := rx; exact SeqAt.EqAt.str_str a t' b t
    | _ => exact absurd (show false = true from fx) Bool.false_ne_true
  | _ => exact absurd (show false = true from fy) Bool.false_ne_true
def eqU (x : V) (u : Value) : Bool := match u with
  | .none => eqV .non x
  | .bool b => eqV (.bl b) x
  | .int i _ => eqV (.int i) x
  | .str z _ => eqV (.str z) x
  | _ => false
theorem eqU_of {x y : V} {u : Value} (r : RelV y u) (f : flatV y = true) : eqU x u = eqV y x := by
  cases y with
  | non => cases r; rfl
  | bl b => cases r; rfl
  | int i => obtain ⟨t, rfl⟩ := r; rfl
  | str z => obtain ⟨t, rfl⟩ := r; rfl
  | _ => exact absurd (show false = true from f) Bool.false_ne_true
theorem any_eqU {x : V} : ∀ {xs : List V} {us : List Value}, Vals xs us → xs.all flatV = true → us.any (eqU x) = xs.any fun y => eqV y x
  | _, _, .nil, _ => rfl
  | y :: xs, u :: us, .cons r t, f => by
    rw [List.all_cons, Bool.and_eq_true] at f
    rw [List.any_cons, List.any_cons, eqU_of r f.1, any_eqU t f.2]
theorem mem_eqAt {A : Around} {s : Shared} {x : V} {v : Value} (rx : RelV x v) (fx : flatV x = true) : ∀ {xs : List V} {us : List Value}, Vals xs us → xs.all flatV = true → ∀ u ∈ us, SeqAt.EqAt A s u v (eqU x u)
  | _, _, .nil, _ => fun u hu => by cases hu
  | y :: xs, u :: us, .cons r t, f => fun u' hu => by
    rw [List.all_cons, Bool.and_eq_true] at f
    rcases List.mem_cons.mp hu with rfl | hu
    · rw [eqU_of r f.1]; exact eqAt_V r rx f.1 fx
    · exact mem_eqAt rx fx t f.2 u' hu
def inV (x : V) (xs : List V) : Bool := xs.any fun y => eqV y x
def rIn (K : PySem.W.Frag) (neg : Bool) : R2 := fun x y H Q => ∃ p xs, y = .ref p ∧ (SqL K H p xs ∨ SqT K H p xs) ∧ flatV x = true ∧ xs.all flatV = true ∧ Q (.bl (if neg then !inV x xs else inV x xs)) H
theorem op_in_seq : OpR X (compareOp .In) (rIn X.K false) := by
  intro pins s σ H x y v u Q I rx ry h
  obtain ⟨p, xs, rfl, hq, fx, fs, q⟩ := h
  cases ry
  rcases hq with hq | hq
  · obtain ⟨its, r, pl, hz⟩ := I.list hq
    refine SeqAt.in_listAt (eqU x) pl.isList (fun w hw => mem_eqAt rx fx r fs w (by simpa using hw)) ⟨.bl _, H, I, rfl, ?_⟩
    rw [show its.toArray.any (eqU x) = its.any (eqU x) by simp, any_eqU r fs]
    exact q
  · obtain ⟨its, r, pl, hz⟩ := I.tuple hq
    refine SeqAt.in_tupleAt (eqU x) pl (fun w hw => mem_eqAt rx fx r fs w (by simpa using hw)) ⟨.bl _, H, I, rfl, ?_⟩
    rw [show its.toArray.any (eqU x) = its.any (eqU x) by simp, any_eqU r fs]
    exact q
theorem call_len_seq : CallR X (.builtin "len") (fun xs H Q => ∃ p ys, xs = [.ref p] ∧ (SqL X.K H p ys ∨ SqT X.K H p ys) ∧ Q (.int ys.length) H) := by
  intro pins s σ H xs us Q I r h
  obtain ⟨p, ys, rfl, hq, q⟩ := h
  obtain ⟨u, rfl, rx⟩ := vals1 r
  cases rx
  have hn := line63
  rcases hq with hq | hq
  · obtain ⟨its, r', pl, hz⟩ := I.list hq
    have hlen := r'.length
    exact Calls.call_len_list pl.isList (by simp only [List.size_toArray] <;> omega) ⟨.int ys.length, H, I.tok _, ⟨s.toks + 1, by rw [List.size_toArray, hlen]⟩, q⟩
  · obtain ⟨its, r', pl, hz⟩ := I.tuple hq
    have hlen := r'.length
    exact len_tuple pl (by simp only [List.size_toArray] <;> omega) ⟨.int ys.length, H, I.tok _, ⟨s.toks + 1, by rw [List.size_toArray, hlen]⟩, q⟩
theorem CallR.or {f : Value} {r r' : List V → Hp → VK → Prop} (h : CallR X f r) (h' : CallR X f r') : CallR X f (fun xs H Q => r xs H Q ∨ r' xs H Q) := by
  intro pins s σ H xs us Q I rs q
  rcases q with q | q
  · exact h pins s σ H xs us Q I rs q
  · exact h' pins s σ H xs us Q I rs q
theorem call_list_of : CallR X (.type "list") (fun xs H Q => ∃ p ys, xs = [.ref p] ∧ (SqL X.K H p ys ∨ SqT X.K H p ys) ∧ ∀ l, H l = none → Q (.ref l) (upd H l (.lst ys))) := by
  intro pins s σ H xs us Q I r h
  obtain ⟨p, ys, rfl, hq, q⟩ := h
  obtain ⟨u, rfl, rx⟩ := vals1 r
  cases rx
  have fin : ∀ (its : List Value), Vals ys its → ys.length ≤ sizeLine → ∀ (h' : Heap) (c' : Nat), (∀ b o', s.heap.get? b = some o' → h'.get? b = some o') →
      h'.get? s.heap.objs.size = some { cls := .type "list", dict := none, data := .seq its.toArray c', slots := #[] } → EP X pins σ Q (.ref s.heap.objs.size) { s with heap := h' } := fun its r' hz h' c' kp e =>
    ⟨.ref s.heap.objs.size, _, I.laid (t' := s.toks) kp (Nat.le_refl _) (show ObjOk X.prog X.w _ h' _ (.lst ys) from ⟨hz, its, c', r', e⟩), rfl, q _ (I.hok.fresh (Nat.le_refl _))⟩
  rcases hq with hq | hq
  · obtain ⟨its, r', pl, hz⟩ := I.list hq
    have hlen := r'.length
    obtain ⟨o, ho, hc, n, hd⟩ := pl.isList
    exact call_list_seq p (.inl rfl) ho hc hd (fun h' c' kp e => fin its r' hz h' c' kp e) (by simp only [List.size_toArray] <;> omega)
  · obtain ⟨its, r', pl, hz⟩ := I.tuple hq
    have hlen := r'.length
    obtain ⟨o, ho, hc, n, hd⟩ := pl
    exact call_list_seq p (.inr rfl) ho hc hd (fun h' c' kp e => fin its r' hz h' c' kp e) (by simp only [List.size_toArray] <;> omega)
theorem call_tuple_of : CallR X (.type "tuple") (fun xs H Q => ∃ p ys, xs = [.ref p] ∧ ((SqL X.K H p ys ∧ ∀ l, H l = none → Q (.ref l) (upd H l (.tup ys))) ∨ (SqT X.K H p ys ∧ Q (.ref p) H))) := by
  intro pins s σ H xs us Q I r h
  obtain ⟨p, ys, rfl, h⟩ := h
  obtain ⟨u, rfl, rx⟩ := vals1 r
  cases rx
  rcases h with ⟨hq, q⟩ | ⟨hq, q⟩
  · obtain ⟨its, r', pl, hz⟩ := I.list hq
    have hlen := r'.length
    refine call_tuple_list pl.isList (fun h' kp => ?_) (by simp only [List.size_toArray] <;> omega)
    have I1 : Inv X pins σ H { s with heap := h' } := I.kept (t' := s.toks) kp
    have I2 : Inv X pins σ (upd H h'.objs.size (.tup ys)) { s with heap := h'.push { cls := .type "tuple", data := .seq its.toArray } } :=
      I1.laid (t' := s.toks) (fun b o e => Heap.get?_push_of_some _ e) (Nat.le_refl _) (show ObjOk X.prog X.w _ _ _ (.tup ys) from ⟨hz, its, r', IsTup.new _ _⟩)
    exact ⟨.ref h'.objs.size, _, I2, rfl, q _ (I1.hok.fresh (Nat.le_refl _))⟩
  · obtain ⟨its, r', pl, hz⟩ := I.tuple hq
    exact call_tuple_same pl ⟨.ref p, H, I, rfl, q⟩
def tyV (K : PySem.W.Frag) (T : String) (x : V) (H : Hp) : Prop := match x with
  | .str _ => T = "str"
  | .int _ => T = "int"
  | .ref p => (T = "list" ∧ ∃ xs, SqL K H p xs) ∨ (T = "tuple" ∧ ∃ o, K.lookup p = some o ∧ o.cls = .type "tuple" ∧ o.dict = none) ∨
      (T = "dict" ∧ ((∃ kvs, H p = some (.dK kvs)) ∨ ∃ kvs, H p = some (.dT kvs))) ∨ (T = "set" ∧ ∃ S n, H p = some (.set S n))
  | _ => False
theorem tyV_is {pins : List (Addr × Obj)} {σ : St} {H : Hp} {s : Shared} {T : String} {x : V} {v : Value} (I : Inv X pins σ H s) (r : RelV x v) (ty : tyV X.K T x H) :
    s.TypeIs v T ∧ ∀ a, v = .ref a → ∃ ob, s.heap.get? a = some ob ∧ ob.dict = none := by
  cases x with
  | str z =>
    obtain ⟨t, rfl⟩ := r
    cases (show T = "str" from ty)
    exact ⟨typeIs_str s z t, fun _ e => nomatch e⟩
  | int i =>
    obtain ⟨t, rfl⟩ := r
    cases (show T = "int" from ty)
    exact ⟨typeIs_int s i t, fun _ e => nomatch e⟩
  | ref p =>
    cases r
    rcases ty with ⟨rfl, xs, hq⟩ | ⟨rfl, o, hk, hc, hd⟩ | ⟨rfl, hk⟩ | ⟨rfl, S, n, hk⟩
    · obtain ⟨its, _, pl, _⟩ := I.list hq
      refine ⟨pl.isList.typeIs, fun a e => ?_⟩
      cases e
      obtain ⟨o, n, e, c, hd, _⟩ := pl
      exact ⟨o, e, hd⟩
    · refine ⟨⟨o, I.kIn p o hk, hc⟩, fun a e => ?_⟩
      cases e
      exact ⟨o, I.kIn _ o hk, hd⟩
    · have z : ∃ o, s.heap.get? p = some o ∧ o.ExactDict := by
        rcases hk with ⟨kvs, hk⟩ | ⟨kvs, hk⟩
        · obtain ⟨_, _, _, _, o, _, _, e, ex, _⟩ := I.hok p _ hk
          exact ⟨o, e, ex⟩
        · obtain ⟨_, _, _, _, o, _, _, e, ex, _⟩ := I.hok p _ hk
          exact ⟨o, e, ex⟩
      obtain ⟨o, e, ex⟩ := z
      refine ⟨⟨o, e, ex.1⟩, fun a e2 => ?_⟩
      cases e2
      exact ⟨o, e, ex.2.1⟩
    · obtain ⟨o, _, _, _, e, ex, _⟩ := I.hok p _ hk
      refine ⟨⟨o, e, ex.1⟩, fun a e2 => ?_⟩
      cases e2
      exact ⟨o, e, ex.2.1⟩
  | _ => exact False.elim ty
def tBM0 (K : PySem.W.Frag) (T : String) (r : V → List V → Hp → VK → Prop) (to : TE) : TE := fun σ H Q => to σ H fun x H1 => tyV K T x H1 ∧ r x [] H1 Q
def tBM (K : PySem.W.Frag) (T : String) (r : V → List V → Hp → VK → Prop) (to : TE) (t : TA) : TE := fun σ H Q => to σ H fun x H1 => tyV K T x H1 ∧ t σ H1 fun xs H2 => r x xs H2 Q
variable {o e : Expr} {es : List Expr} {to : TE} {t : TA} {name : Str} {apos cpos : Pos} {T id : String} {r : V → List V → Hp → VK → Prop}
theorem pe_bm0 (pa : PlainAttrs T) (slot : Slot T name id) (hty : typeOf (.builtin id) = pure (.type "method_descriptor")) (hm : MtR X id r) (ho : PE X o to)
    (hbase : attributeBase o name X.env (eval o X.env) = eval o X.env := by rfl) (hline : (apos.endLine == cpos.line) = true := by rfl) : PE X (.Call (.Attribute o name apos) [] [] cpos) (tBM0 X.K T r to) := by
  intro pins s σ H Q I h
  refine wpAny_Call_method0_late hbase hline (thn (ho pins s σ H _ I h) fun v s1 ⟨x, H1, I1, r1, ty, q1⟩ => ?_)
  obtain ⟨h1, h2⟩ := tyV_is I1 r1 ty
  exact ⟨T, id, pa, slot, hty, h1, h2, Calls.callWith_builtin rfl (PySem.evalArgs_none (hm pins s1 σ H1 x [] v [] Q I1 r1 .nil q1))⟩
theorem pe_bm (pa : PlainAttrs T) (slot : Slot T name id) (hty : typeOf (.builtin id) = pure (.type "method_descriptor")) (hm : MtR X id r) (ho : PE X o to) (ha : PA X (e :: es) t)
    (hbase : attributeBase o name X.env (eval o X.env) = eval o X.env := by rfl)
    (hfew : ((backTo cpos (starEach (e :: es) X.env)).all (fun x => !x.1) && (backToKw cpos (keywordEach [] X.env)).all (fun x => x.1.isSome)
      && decide ((e :: es).length + ([] : List Keyword).length + (if ([] : List Keyword).isEmpty then 0 else 1) < 30)) = true := by rfl)
    (hline : (apos.endLine == cpos.line) = true := by rfl) (hs : starEach (e :: es) X.env = (false, eval e X.env) :: starEach es X.env := by rfl) (hplain : (backTo cpos (starEach es X.env)).any (·.1) = false := by rfl) :
    PE X (.Call (.Attribute o name apos) (e :: es) [] cpos) (tBM X.K T r to t) := by
  intro pins s σ H Q I h
  refine wpAny_Call_method_late hbase hfew hline rfl (thn (ho pins s σ H _ I h) fun v s1 ⟨x, H1, I1, r1, ty, q1⟩ => ?_)
  obtain ⟨h1, h2⟩ := tyV_is I1 r1 ty
  refine ⟨T, id, pa, slot, hty, h1, h2, ?_⟩
  have hA := ha cpos pins s1 σ H1 _ I1 q1
  rw [hs] at hA ⊢
  refine Calls.callWith_builtin (by show (false || (backTo cpos (starEach es X.env)).any (·.1)) = false; rw [hplain] <;> rfl) (Calls.evalArgs_plain ?_)
  exact thn hA fun us s2 ⟨vs, H2, I2, r2, q2⟩ => hm pins s2 σ H2 x vs v us Q I2 r1 r2 q2
end
end L2
namespace L2
open PySem PySem.Spec PyProof.Rows
def MtM (X : Cx) (id : String) (r : V → List V → Hp → VK → Prop) : Prop :=
  ∀ (pins : List (Addr × Obj)) (s : Shared) (σ : St) (H : Hp) (x : V) (xs : List V) (v : Value) (us : List Value) (Q : VK), Inv X pins σ H s → RelV x v → Vals xs us → r x xs H Q →
    wpAny (model X.prog X.w) X.A (call (.builtin id) (v :: us)) (EP X pins σ Q) X.xe s
theorem Vals.one : ∀ {x : V} {us : List Value}, Vals [x] us → ∃ u, us = [u] ∧ RelV x u
  | _, _, .cons r .nil => ⟨_, rfl, r⟩
theorem Vals.two : ∀ {x y : V} {us : List Value}, Vals [x, y] us → ∃ u v, us = [u, v] ∧ RelV x u ∧ RelV y v
  | _, _, _, .cons r (.cons q .nil) => ⟨_, _, rfl, r, q⟩
theorem Vals.zero : ∀ {us : List Value}, Vals [] us → us = []
  | _, .nil => rfl
theorem Vals.dropLast {xs : List V} {us : List Value} (h : Vals xs us) : Vals xs.dropLast us.dropLast := by
  induction h with
  | nil => exact .nil
  | cons r t ih =>
    cases t with
    | nil => exact .nil
    | cons q t' => exact .cons r ih
theorem Vals.eraseIdx : ∀ {xs : List V} {us : List Value} (i : Nat), Vals xs us → Vals (xs.eraseIdx i) (us.eraseIdx i)
  | _, _, _, .nil => .nil
  | _, _, 0, .cons _ t => t
  | _, _, i + 1, .cons r t => .cons r (Vals.eraseIdx i t)
theorem Vals.reverse {xs : List V} {us : List Value} (h : Vals xs us) : Vals xs.reverse us.reverse := by
  induction h with
  | nil => exact .nil
  | cons r t ih => rw [List.reverse_cons, List.reverse_cons]; exact Vals.append ih (.cons r .nil)
theorem erase_last {α : Type} (l : List α) : l.eraseIdx (l.length - 1) = l.dropLast := by
  induction l with
  | nil => rfl
  | cons a r ih =>
    cases r with
    | nil => rfl
    | cons b r =>
      have e : (a :: b :: r).length - 1 = ((b :: r).length - 1) + 1 := by
        have h1 : (a :: b :: r).length = r.length + 2 := rfl
        have h2 : (b :: r).length = r.length + 1 := rfl
        omega
      rw [e, List.eraseIdx_cons_succ, ih]
      all_goals rfl
section
variable {X : Cx} {pins : List (Addr × Obj)} {σ : St} {H : Hp} {s : Shared} {l b : Addr} {xs ys zs : List V}
theorem Inv.lset {its its' : List Value} {n : Nat} {f : Array Value → Array Value} {t' : Nat} (I : Inv X pins σ H s) (hH : H l = some (.lst xs))
    (e : s.heap.get? l = some { cls := .type "list", data := .seq its.toArray n }) (hf : f its.toArray = its'.toArray) (hv : Vals ys its') (hz : ys.length ≤ sizeLine) :
    Inv X pins σ (upd H l (.lst ys)) { s with heap := s.heap.update l (Obj.mapSeq f), toks := t' } := by
  have q := PySem.IsL.update e f
  rw [hf] at q
  refine I.write (x := l) (e := l) (by rw [hH]; exact trivial) (.inl rfl) (fun b' u hb hu => (Heap.get?_update_other s.heap (Obj.mapSeq f) (Ne.symm hb)).trans hu) ⟨_, q⟩ ?_
  exact ⟨hz, its', _, hv, q⟩
theorem Inv.lnew {its : List Value} {t' : Nat} (I : Inv X pins σ H s) (hv : Vals ys its) (hz : ys.length ≤ sizeLine) :
    Inv X pins σ (upd H s.heap.objs.size (.lst ys)) { s with heap := s.heap.push { cls := .type "list", data := .seq its.toArray }, toks := t' } :=
  I.laid (fun _ _ q => Heap.get?_push_of_some _ q) (Nat.le_refl _) ⟨hz, its, 0, hv, Heap.get?_push_size _ rfl⟩
theorem Inv.fresh (I : Inv X pins σ H s) : H s.heap.objs.size = none := I.hok.fresh (Nat.le_refl _)
theorem Inv.lstM (I : Inv X pins σ H s) (hH : H l = some (.lst xs)) : xs.length ≤ sizeLine ∧ ∃ (its : List Value) (n : Nat), Vals xs its ∧ xs.length = its.length ∧ s.heap.get? l = some { cls := .type "list", data := .seq its.toArray n } := by
  obtain ⟨z, its, n, r, e⟩ := I.hok l _ hH
  exact ⟨z, its, n, r, r.length, e⟩
theorem notLongL {n : Nat} (h : n ≤ sizeLine) : Builtin.List.listTooLong n = false := by
  unfold Builtin.List.listTooLong
  exact decide_eq_false (by omega)
end
section
variable {X : Cx}
def rAppend : V → List V → Hp → VK → Prop := fun x vs H Q => ∃ l xs y, x = .ref l ∧ vs = [y] ∧ H l = some (.lst xs) ∧ xs.length < sizeLine ∧ Q .non (upd H l (.lst (xs ++ [y])))
theorem mt_append : MtM X "list.append" rAppend := by
  intro pins s σ H x vs v us Q I rx rv h
  obtain ⟨l, xs, y, rfl, rfl, hH, hz, q⟩ := h
  cases rx
  obtain ⟨u, rfl, ru⟩ := rv.one
  obtain ⟨z, its, n, r, hl, e⟩ := I.lstM hH
  refine call_meets F.slot_list_append ⟨_, e, rfl⟩ F.entry_list_append (F.args_list_append_2 _ _) (PySem.list_append l its.toArray n u (by rw [List.size_toArray]; omega)) ⟨e, ?_⟩
  refine ⟨.non, _, I.lset (its' := its ++ [u]) hH e (by simp) (r.append (.cons ru .nil)) ?_, rfl, q⟩
  rw [List.length_append, List.length_singleton]
  omega
def rExtend : V → List V → Hp → VK → Prop := fun x vs H Q => ∃ l b xs zs, x = .ref l ∧ vs = [.ref b] ∧ H l = some (.lst xs) ∧ H b = some (.lst zs) ∧ xs.length + zs.length ≤ sizeLine ∧ Q .non (upd H l (.lst (xs ++ zs)))
theorem mt_extend : MtM X "list.extend" rExtend := by
  intro pins s σ H x vs v us Q I rx rv h
  obtain ⟨l, b, xs, zs, rfl, rfl, hH, hB, hz, q⟩ := h
  cases rx
  obtain ⟨u, rfl, ru⟩ := rv.one
  cases ru
  obtain ⟨z, its, n, r, hl, e⟩ := I.lstM hH
  obtain ⟨z2, its2, n2, r2, hl2, e2⟩ := I.lstM hB
  have hsz : its.toArray.size + its2.toArray.size ≤ sizeLine := by rw [List.size_toArray, List.size_toArray]; omega
  have hlong : ¬ (!its.toArray.isEmpty && Builtin.List.listTooLong (its.toArray.size + its2.toArray.size)) = true := by
    rw [notLongL hsz, Bool.and_false]
    exact Bool.false_ne_true
  refine call_meets F.slot_list_extend ⟨_, e, rfl⟩ F.entry_list_extend (F.args_list_extend_2 _ _)
    (AutoSeq1.list_extend_list_list_0 l its.toArray n b its2.toArray n2 hlong (by rw [List.size_toArray]; omega) (by omega)) ⟨e, e2, ?_⟩
  refine ⟨.non, _, I.lset (its' := its ++ its2) hH e (by simp) (r.append r2) ?_, rfl, q⟩
  rw [List.length_append]
  omega
def rPop : V → List V → Hp → VK → Prop := fun x vs H Q => ∃ l xs y, x = .ref l ∧ vs = [] ∧ H l = some (.lst xs) ∧ xs[xs.length - 1]? = some y ∧ Q y (upd H l (.lst xs.dropLast))
theorem mt_pop : MtM X "list.pop" rPop := by
  intro pins s σ H x vs v us Q I rx rv h
  obtain ⟨l, xs, y, rfl, rfl, hH, hy, q⟩ := h
  cases rx
  have hus := rv.zero
  subst hus
  obtain ⟨z, its, n, r, hl, e⟩ := I.lstM hH
  obtain ⟨u, hu, ru⟩ := r.get hy
  have hy' : its.toArray[its.toArray.size - 1]? = some u := by
    show its.toArray[its.length - 1]? = some u
    rw [← Array.getElem?_toList, ← hl]
    exact hu
  refine call_meets F.slot_list_pop ⟨_, e, rfl⟩ F.entry_list_pop (F.args_list_pop_1 _) (MeetsSeq.list_pop_last l its.toArray n u hy' (by rw [List.size_toArray]; omega)) ⟨e, ?_⟩
  refine ⟨y, _, I.lset (its' := its.dropLast) hH e ?_ r.dropLast ?_, ru, q⟩
  · show its.toArray.eraseIdxIfInBounds (its.toArray.size - 1) = its.dropLast.toArray
    rw [List.size_toArray, List.eraseIdxIfInBounds_toArray, erase_last]
  · rw [List.length_dropLast]
    omega
def rCat : R2 := fun x y H Q => ∃ l b xs zs, x = .ref l ∧ y = .ref b ∧ H l = some (.lst xs) ∧ H b = some (.lst zs) ∧ xs.length + zs.length ≤ sizeLine ∧ ∀ p, H p = none → Q (.ref p) (upd H p (.lst (xs ++ zs)))
theorem op_cat : OpR X (binaryOp .Add) rCat := by
  intro pins s σ H x y v u Q I rx ry h
  obtain ⟨l, b, xs, zs, rfl, rfl, hH, hB, hz, q⟩ := h
  cases rx
  cases ry
  obtain ⟨z, its, n, r, hl, e⟩ := I.lstM hH
  obtain ⟨z2, its2, n2, r2, hl2, e2⟩ := I.lstM hB
  refine PySem.P.add_list e e2 ?_ (by rw [List.size_toArray, List.size_toArray]; omega)
  have ea : its.toArray ++ its2.toArray = (its ++ its2).toArray := by simp
  rw [ea]
  exact ⟨.ref _, _, I.lnew (t' := s.toks) (r.append r2) (by rw [List.length_append]; omega), rfl, q _ I.fresh⟩
def rRep : R2 := fun x y H Q => ∃ l k xs, x = .ref l ∧ y = .int k ∧ H l = some (.lst xs) ∧ -(2 ^ 63) ≤ k ∧ k < 2 ^ 63 ∧ xs.length * k.toNat ≤ sizeLine ∧
  ∀ p, H p = none → Q (.ref p) (upd H p (.lst (List.replicate k.toNat xs).flatten))
end
section
variable {prog : Program} {w : World} {A : Around} {E : Value → Shared → Prop} {s : Shared}
end
section
variable {X : Cx}
end
end L2
namespace Att
open PySem PySem.W PySem.Calls PyProof.Rows
theorem ints_of_wellAll {P : Params} {h : Heap} : ∀ (ns : List Int) (vs : List Value), WellAll P h vs (ns.map WData.int) → IntsAre vs ns := by
  intro ns
  induction ns with
  | nil =>
    intro vs w
    rw [List.map_nil] at w
    cases w
    exact .nil
  | cons n ns ih =>
    intro vs w
    rw [List.map_cons] at w
    cases w with
    | cons a b =>
      cases a
      exact .cons _ _ (ih _ b)
theorem script_of {l : OpenLaw} {n : Nat} (hn : l.most = some n) {P : Params} {h : Heap} {args : List WData} {vals : List Value}
    (hpre : l.row.toRowW.claim.pre args = true) (hwl : WellAll P h vals args) :
    ∃ a vs ns, vals = [Value.ref a] ∧ args = [WData.list (ns.map WData.int)] ∧ h.get? a = some { cls := .type "list", data := .seq vs.toArray } ∧ IntsAre vs ns ∧ ns.length ≤ n := by
  have hsh : WShape.hasAll [] args [.list .int] = true := (pre_splitW hpre).1
  have hc : l.pre.holds [] { args := args } = true := (pre_splitW hpre).2
  obtain ⟨d, r, rfl, h1, h2⟩ := hasAllW_cons hsh
  obtain rfl := hasAllW_nil h2
  obtain ⟨xs, rfl, h3⟩ := hasW_list h1
  obtain ⟨ns, rfl⟩ := items_int h3
  have hlen : ns.length ≤ n := by
    unfold OpenLaw.pre at hc
    have h4 : (WTm.not (.lt (.lit (.int (n : Int))) (.len (.arg 0)))).holds [] { args := [.list (ns.map .int)] } = true := by
      have h4 := (holds_andW hc).1
      rw [hn] at h4
      exact h4
    have h5 := condW_of h4 (w_not (w_lt w_lit (w_len_list (w_arg rfl))))
    rw [List.length_map] at h5
    refine Nat.le_of_not_lt fun q => ?_
    have q' : (n : Int) < ((ns.length : Nat) : Int) := by omega
    first
      | (rw [decide_eq_true q'] at h5; exact absurd h5 (by decide))
      | (simp at h5; omega)
  cases hwl with
  | cons w1 w2 =>
    cases w2
    cases w1 with
    | list ho hall => exact ⟨_, _, ns, rfl, rfl, ho, ints_of_wellAll ns _ hall, hlen⟩
theorem post_true (l : OpenLaw) (args : List WData) : l.row.toRowW.claim.post args (.bool true) args = true :=
  postW_of (r := l.row.toRowW) (X := (true == true))
    (show WShape.has [] (.bool true) .bool = true by first | rfl | decide | simp [WShape.has, WShape.arms, WShape.armsAll])
    (show (WTm.eq .res (.lit (.bool true))).value [] { args := args, res := some (.bool true), after := args } = some (.bool (true == true)) from w_eq_bool (w_res rfl) w_lit) rfl
theorem attach_call {l : OpenLaw} {n : Nat} {q : Program} {loose : List Str} {XP : (Str → Option Value) → Heap → Prop} {YP : World → Heap → Prop} {d : DefRec}
    (hn : l.most = some n) (hdf : d.params.defaults = [])
    (call : ∀ (w : World) (s₀ s₁ : Shared) (mg mb : Str → Option Value) (fa : Addr) (o : Obj) (pm cd doc : Value) (a : Addr) (vs : List Value) (ns : List Int),
      Ground q loose [] XP w s₀ mg mb s₁.heap → YP w s₁.heap →
      s₁.heap.get? fa = some o → o.data = .func (docDef d.name d.params d.body d.scope pm cd doc) → s₁.heap.CodeRec cd d.name → mg d.name = some (.ref fa) →
      s₁.heap.get? a = some { cls := .type "list", data := .seq vs.toArray } → IntsAre vs ns → ns.length ≤ n → s₁.gens = #[] →
      codeAny (model l.prog w) callerA (.call (.ref fa) ⟨[.ref a], []⟩) (fun r s' => r = .ok (.ret (.bool true)) ∧ OldK s₁.heap s'.heap ∧ s'.os = s₁.os ∧ AllBare s'.gens) s₁) :
    WalkO q loose XP YP l.row.toRowW d [] (fun f vs => PySem.call f vs) := by
  intro w s₀ s₁ mg mb G Y fa o pm cd doc dV kV ho hd hcd hD hmg hg args vals as hpre hlay hrd hwl hlo
  obtain rfl : dV = .none := Dflts.none hD hdf
  obtain rfl : kV = .none := Dflts.noKw hD
  obtain ⟨a, vs, ns, rfl, rfl, hobj, hints, hlen⟩ := script_of hn hpre hwl
  refine enter_call (codeAny_mono (call w s₀ s₁ mg mb fa o pm cd doc a vs ns G Y ho (fd_plain hd) hcd hmg hobj hints hlen hg) fun r s' hq => ?_)
  obtain ⟨rfl, h2, h3, h4⟩ := hq
  exact ⟨.inl ⟨.bool true, .bool true, [], rfl, fun _ => rfl, .bool true, post_true l _, fun _ => ⟨List.Pairwise.nil, fun _ hm => (nomatch hm)⟩⟩, h2, h3, h4⟩
section
variable {prog : Program} {w : World} {A : Around} {E : Value → Shared → Prop} {s : Shared} {K : Frag}
def noObjs (h : Heap) : Heap := { h with objs := #[] }
theorem noObjs_get (h : Heap) (b : Addr) : (noObjs h).get? b = none := by
  cases e : (noObjs h).get? b with
  | none => rfl
  | some o => exact absurd (Heap.lt_size e) (Nat.not_lt_zero _)
def ledger (h : Heap) (L d : Addr) : List (Addr × Obj) := (List.range h.objs.size).filterMap fun a => if a = L ∨ a = d then none else (h.get? a).map fun o => (a, o)
theorem mem_ledger {h : Heap} {L d a : Addr} {o : Obj} : (a, o) ∈ ledger h L d ↔ a ≠ L ∧ a ≠ d ∧ h.get? a = some o := by
  unfold ledger
  rw [List.mem_filterMap]
  constructor
  · rintro ⟨b, _, e⟩
    split at e
    · cases e
    · rename_i hb
      obtain ⟨o', ho, e'⟩ := Option.map_eq_some_iff.mp e
      cases e'
      exact ⟨fun q => hb (.inl q), fun q => hb (.inr q), ho⟩
  · rintro ⟨n1, n2, ho⟩
    refine ⟨a, List.mem_range.mpr (Heap.lt_size ho), ?_⟩
    rw [if_neg (show ¬ (a = L ∨ a = d) from fun q => q.elim n1 n2), ho] <;> rfl
theorem news_ledger {h : Heap} {L d : Addr} {od : Obj} (hne : d ≠ L) (ho : h.get? d = some od) : News (noObjs h) L h ([] ++ (d, od) :: ledger h L d) := by
  rintro ⟨a, o⟩ hp
  rcases List.mem_cons.mp hp with e | hp
  · cases e
    exact ⟨ho, hne, noObjs_get _ _⟩
  · obtain ⟨n1, n2, e⟩ := mem_ledger.mp hp
    exact ⟨e, n1, noObjs_get _ _⟩
theorem fr_all {h : Heap} {L : Addr} {m : Str → Option Value} (n : h.Ns L m) : Fr (noObjs h) L h m :=
  ⟨n, fun b o e => (by rw [noObjs_get] at e; cases e), Nat.zero_le _⟩
end
end Att
namespace L2
open PySem PySem.Spec PyProof.Rows
theorem vals_ints : ∀ {vs : List Value} {ns : List Int}, IntsAre vs ns → Vals (ns.map V.int) vs
  | _, _, .nil => .nil
  | _, _, .cons n t h => .cons ⟨t, rfl⟩ (vals_ints h)
def Only (H : Hp) : Prop := ∀ b, H b = none ∨ ∃ o xs, H b = some (.frz o (.lst xs))
theorem law_call {P : Program} {w : World} {K : PySem.W.Frag} {mg mb : Str → Option Value} {CX : CXT} {k : Nat} {fa a : Addr} {fd : FuncData} {x : Str} {sp : Sp} {s₁ : Shared} {vs : List Value} {ns : List Int}
    (KX : K.In s₁.heap) (hns : s₁.heap.Ns mainGlobals mg) (hb : s₁.heap.Ns builtinsNs mb) (hbb : ∀ x : Str, x ≠ "__name__" → mb x = bootBuiltins x) (hlim : s₁.heap.NoLimit) (hg : s₁.gens = #[])
    (ha : s₁.heap.get? a = some { cls := .type "list", data := .seq vs.toArray }) (hi : IntsAre vs ns) (hl : ns.length ≤ sizeLine) (hr : Room k callerA)
    (F : ∀ base : Heap, K.In base → base.Ns mainGlobals mg → FnOk P w K mg base CX k fa fd [x] sp) (hbind : ∀ (s : Shared) (u : Value), BindsTo s fd ⟨[u], []⟩ [(x, u)])
    (hsp : ∀ H : Hp, Only H → SqL K H a (ns.map V.int) → sp [.ref a] H (fun v _ => v = .bl true) fun _ _ _ => False)
    (hCX : ∀ H e s', CX [] H s₁ (fun _ _ _ => False) e s' → False) :
    codeAny (model P w) callerA (.call (.ref fa) ⟨[.ref a], []⟩) (fun r s' => r = .ok (.ret (.bool true)) ∧ OldK s₁.heap s'.heap ∧ s'.os = s₁.os ∧ AllBare s'.gens) s₁ := by
  have rv := vals_ints hi
  have lenV := hi.length
  have core : ∀ H : Hp, Only H → SqL K H a (ns.map V.int) → HOk P w H s₁.heap → (∀ b, H b ≠ none → b = a) → (H a ≠ none → K.lookup a = none) →
      codeAny (model P w) callerA (.call (.ref fa) ⟨[.ref a], []⟩) (fun r s' => r = .ok (.ret (.bool true)) ∧ OldK s₁.heap s'.heap ∧ s'.os = s₁.os ∧ AllBare s'.gens) s₁ := by
    intro H hO hS hok hA hK
    have base_of : ∀ {b : Addr} {o : Obj}, s₁.heap.get? b = some o → H b = none → (hidT s₁.heap H).get? b = some o := fun e n => hidT_get e n
    have noA : ∀ {b : Addr} {o : Obj} {es : Array DictEntry} {ep : Nat}, s₁.heap.get? b = some o → o.data = .dict es ep → H b = none := fun {b o es ep} e d => by
      cases q : H b with
      | none => rfl
      | some u =>
        have e' : b = a := hA b (by rw [q]; simp)
        subst e'
        rw [ha] at e; cases e
        have d' : Data.seq vs.toArray _ = Data.dict es ep := d
        cases d'
    have nsK : ∀ {b : Addr} {m : Str → Option Value}, s₁.heap.Ns b m → (hidT s₁.heap H).Ns b m := fun {b m} ⟨o, es, ep, e, d, r⟩ => ⟨o, es, ep, base_of e (noA e d), d, r⟩
    have hKb : K.In (hidT s₁.heap H) := fun b o e => base_of (KX b o e) (by
      cases q : H b with
      | none => rfl
      | some u =>
        have e' : b = a := hA b (by rw [q]; simp)
        subst e'
        rw [hK (by rw [q]; simp)] at e; cases e)
    have hM : Mod K mg (hidT s₁.heap H) := ⟨hKb, nsK hns, ⟨mb, nsK hb, hbb⟩, let ⟨mc, h1, h2⟩ := hlim; ⟨mc, nsK h1, h2⟩⟩
    have e0 : Env0 P w K mg (hidT s₁.heap H) callerA [] s₁ H := ⟨rfl, hM, fun b o e => of_hidT e, Nat.le_of_eq (hidT_size _ _), trivial, fun b hb => absurd (show b ∈ ([] : List Addr) from hb) (by simp), hok, .of_eq hg⟩
    refine codeAny_mono ((F _ hKb (nsK hns)).run callerA [] s₁ H ⟨[.ref a], []⟩ [.ref a] [.ref a] _ _ hr e0 (hbind s₁ (.ref a)) (.cons rfl .nil) (hsp H hO hS)) fun r s' h => ?_
    cases r with
    | error e => exact (hCX H e s' h).elim
    | ok fl =>
      cases fl with
      | next => exact False.elim h
      | brk => exact False.elim h
      | cont => exact False.elim h
      | ret u =>
        obtain ⟨v, H', os, bare, un, hok', r', q⟩ := h
        have q' : v = .bl true := q
        subst q'
        obtain rfl : u = Value.bool true := r'
        refine ⟨rfl, OldK.of_keep fun b o e => ?_, os, bare⟩
        cases q : H b with
        | none => exact un.keep b o e q (by intro z; exact absurd (show b ∈ ([] : List Addr) from z) (by simp)) (by simp)
        | some u =>
          rcases hO b with z | ⟨ob, xs, z⟩
          · rw [q] at z; cases z
          · have z2 := un.frzs b ob _ z
            obtain ⟨e1, _⟩ := hok b _ z
            obtain ⟨e2, _⟩ := hok' b _ z2
            rw [e] at e1; cases e1
            exact e2
  cases hk : K.lookup a with
  | some o =>
    have e := KX a o hk
    rw [ha] at e
    cases e
    refine core (fun _ => none) (fun _ => .inl rfl) (.inr ⟨_, vs.toArray, _, hk, rfl, rfl, rfl, by rw [List.size_toArray, lenV]; exact hl, by simpa using rv⟩) (fun b u z => by have z' : (none : Option HO) = some u := z; cases z') (fun b z => absurd rfl z) fun z => absurd rfl z
  | none =>
    refine core (fun b => if b = a then some (.frz { cls := .type "list", data := .seq vs.toArray } (.lst (ns.map V.int))) else none) (fun b => ?_) (.inl (.inr ⟨{ cls := .type "list", data := .seq vs.toArray }, if_pos rfl⟩)) (fun b u z => ?_) (fun b z => ?_) fun _ => hk
    · by_cases hb : b = a
      · exact .inr ⟨_, _, if_pos hb⟩
      · exact .inl (if_neg hb)
    · by_cases hb : b = a
      · have z' := (if_pos hb).symm.trans z
        cases z'
        subst hb
        exact ⟨ha, by rw [List.length_map]; exact hl, vs, _, rv, ha⟩
      · have z' := (if_neg hb).symm.trans z
        cases z'
    · by_cases hb : b = a
      · exact hb
      · exact absurd (if_neg hb) z
end L2
namespace L2
open PySem PySem.Spec PyProof.Rows
theorem walk_of {l : PySem.W.OpenLaw} {n k : Nat} {q : Program} {loose : List Str} {XP : (Str → Option Value) → Heap → Prop} {YP : World → Heap → Prop} {d : DefRec} {K : Params → PySem.W.Frag} {CX : World → CXT} {sp : World → Sp} {x : Str}
    (hn : l.most = some n) (hn2 : n ≤ sizeLine) (hdf : d.params.defaults = []) (hr : Room k callerA)
    (hY : ∀ (w : World) (h : Heap), YP w h → (K w.params).In h)
    (F : ∀ (w : World) (mg : Str → Option Value) (fa : Addr) (h : Heap), (K w.params).In h → h.Ns mainGlobals mg → mg d.name = some (.ref fa) →
      ∃ fd : FuncData, (∀ (s : Shared) (u : Value), BindsTo s fd ⟨[u], []⟩ [(x, u)]) ∧
        ∀ base : Heap, (K w.params).In base → base.Ns mainGlobals mg → FnOk l.prog w (K w.params) mg base (CX w) k fa fd [x] (sp w))
    (hsp : ∀ (w : World) (H : Hp) (a : Addr) (ns : List Int), ns.length ≤ n → Only H → SqL (K w.params) H a (ns.map V.int) → sp w [.ref a] H (fun v _ => v = .bl true) fun _ _ _ => False)
    (hCX : ∀ (w : World) (H : Hp) (s : Shared) (e : Value) (s' : Shared), CX w [] H s (fun _ _ _ => False) e s' → False) :
    PySem.W.WalkO q loose XP YP l.row.toRowW d [] (fun f vs => PySem.call f vs) := by
  refine Att.attach_call hn hdf fun w s₀ s₁ mg mb fa o pm cd doc a vs ns G Y ho hd hcd hmg hobj hints hlen hg => ?_
  have KX := hY w _ Y
  obtain ⟨fd, hb, hF⟩ := F w mg fa _ KX G.T.g hmg
  exact law_call KX G.T.g G.T.b G.T.builtins G.T.nolimit hg hobj hints (Nat.le_trans hlen hn2) hr hF hb (fun H hO hS => hsp w H a ns hlen hO hS) fun H e s' => hCX w H s₁ e s'
end L2
namespace L2
open PySem PySem.Spec PyProof.Rows
def defArgs (s : Stmt) : Arguments := match s with
  | .FunctionDef _ a _ _ _ _ _ _ _ _ => a
  | _ => { posonlyargs := [], args := [], vararg := none, kwonlyargs := [], kw_defaults := [], kwarg := none, defaults := [] }
def defBody (s : Stmt) : List Stmt := match s with
  | .FunctionDef _ _ b _ _ _ _ _ _ _ => b
  | _ => []
def defScope (s : Stmt) : Scope := match s with
  | .FunctionDef _ _ _ _ _ _ sc _ _ _ => sc
  | _ => { kind := .function, names := [], isGenerator := false, isCoroutine := false }
abbrev CX0 : CXT := fun _ _ _ _ _ _ => False
abbrev E0 : XK := fun _ _ _ => False
theorem pass0 {X : Cx} : Passes CX0 X E0 := fun _ _ _ _ _ _ _ h => h.elim
structure Fun (K : PySem.W.Frag) (x qual : Str) (st : Stmt) (f : Addr) (fd : FuncData) : Prop where
  ex : ∃ (oc : Value) (od : Option Addr) (kV doc pm : Value) (an : Option Addr) (cdv ct : Value) (osl : Array (Option Value)),
    fd = PySem.W.fnOf x qual (defArgs st) (defBody st) (defScope st) .none kV doc pm an cdv ct ∧ K.lookup f = some ⟨oc, od, .func fd, osl⟩ ∧ PySem.W.codeIn K cdv qual = true
  kp : PySem.W.keepIn K (.ref f) = true
section
variable {P : Program} {w : World} {K : PySem.W.Frag} {mg : Str → Option Value} {base : Heap}
theorem Fun.ok {x qual : Str} {st : Stmt} {f : Addr} {fd : FuncData} {N ps : List Str} {k : Nat} {sp : Sp} (F : Fun K x qual st f fd) (S : FnScope N ps (defScope st)) (len : ∀ vs H Q E, sp vs H Q E → vs.length = ps.length)
    (hbody : ∀ (cdv : Value) (A : Around) (outer : List Env) (s : Shared) (H : Hp) (vs : List V) (Q : VK) (E : XK), Room k (A.deeper (envOfC qual (defScope st) s.heap.objs.size f cdv)) → sp vs H Q E →
      ∃ t, PSs (cxOf CX0 P w K mg base N qual (defScope st) f cdv A outer s H E).nox (defBody st) t ∧ t { nx := fun _ H' => Q .non H', rt := Q } (start N vs) H) : FnOk P w K mg base CX0 (k + 1) f fd ps sp := by
  obtain ⟨oc, od, kV, doc, pm, an, cdv, ct, osl, rfl, lk, hcd⟩ := F.ex
  refine fn_of lk hcd S len fun A outer s H vs Q E hr hsp => ?_
  obtain ⟨t, h, q⟩ := hbody cdv A outer s H vs Q E hr hsp
  exact ⟨t, h.nox, q⟩
theorem Fun.binds {x qual : Str} {st : Stmt} {f : Addr} {fd : FuncData} {ps : List Str} (F : Fun K x qual st f fd)
    (h : ∀ (kV doc pm : Value) (an : Option Addr) (cdv ct : Value) (us : List Value), us.length = ps.length → bindArgs (PySem.W.fnOf x qual (defArgs st) (defBody st) (defScope st) .none kV doc pm an cdv ct) ⟨us, []⟩ = pure (ps.zip us)) : Binds K fd ps [] := by
  obtain ⟨oc, od, kV, doc, pm, an, cdv, ct, osl, rfl, lk, hcd⟩ := F.ex
  exact .all (h kV doc pm an cdv ct)
theorem fun_mk {x qual : Str} {st : Stmt} {f : Addr} {oc : Value} {od an : Option Addr} {osl : Array (Option Value)} {kV doc pm cdv ct : Value} (l : K.lookup f = some ⟨oc, od, .func (PySem.W.fnOf x qual (defArgs st) (defBody st) (defScope st) .none kV doc pm an cdv ct), osl⟩)
    (c : PySem.W.codeIn K cdv qual = true) (k : PySem.W.keepIn K (.ref f) = true) : Fun K x qual st f (PySem.W.fnOf x qual (defArgs st) (defBody st) (defScope st) .none kV doc pm an cdv ct) := ⟨⟨oc, od, kV, doc, pm, an, cdv, ct, osl, rfl, l, c⟩, k⟩
end
theorem hu_of {A : Around} {k : Nat} (hr : Room k A) : A.units + 1 < cLine := Nat.lt_of_le_of_lt (Nat.add_le_add_left (by decide : 1 ≤ 64) _) hr.units
theorem small1000 {n : Nat} (h : n ≤ 1000) : n < sizeLine := Nat.lt_of_le_of_lt h (by decide)
section
variable {X : Cx}
theorem pv (i : Nat) {x : Str} {pos : Pos} (hN : X.N[i]? = some x := by rfl) (hv : Vis X.env.scope x := by first | exact Or.inl rfl | exact Or.inr (Or.inl rfl) | exact Or.inr (Or.inr rfl)) (hd : (x == ("__debug__" : Str)) = false := by decide)
    (hcd : (x == ("__classdict__" : Str)) = false := by decide) : PE X (.Name x pos) (tVar i) := pe_var hN hv hd hcd
end
theorem ite2 {c A B : Prop} [Decidable c] (h1 : c → A) (h2 : ¬ c → B) : if c then A else B := by
  by_cases h : c
  · rw [if_pos h]
    exact h1 h
  · rw [if_neg h]
    exact h2 h
def Same (H H' : Hp) : Prop := ∀ b o, H b = some o → H' b = some o
theorem Same.refl (H : Hp) : Same H H := fun _ _ h => h
theorem Same.trans {H H1 H2 : Hp} (a : Same H H1) (b : Same H1 H2) : Same H H2 := fun c o h => b c o (a c o h)
theorem Same.free {H H' : Hp} (e : Same H H') {l : Addr} (h : H' l = Option.none) : H l = Option.none := by
  cases q : H l with
  | none => rfl
  | some o =>
    rw [e l o q] at h
    cases h
theorem Same.seq {K : PySem.W.Frag} {H H' : Hp} {a : Addr} {xs : List V} (e : Same H H') (h : SqL K H a xs) : SqL K H' a xs := by
  rcases h with (h | ⟨o, h⟩) | h
  · exact .inl (.inl (e _ _ h))
  · exact .inl (.inr ⟨o, e _ _ h⟩)
  · exact .inr h
end L2
set_option Elab.async false
set_option linter.all false
set_option maxRecDepth 100000
namespace L2
open PySem PySem.Spec PyProof.Rows
section
variable {κ : Type} [DecidableEq κ]
def valV (kvs : List (κ × V)) (k : κ) : Option V := (kvs.find? fun kv => decide (kv.1 = k)).map (·.2)
def putK (kvs : List (κ × V)) (k : κ) (v : V) : List (κ × V) :=
  if (kvs.any fun kv => decide (kv.1 = k)) = true then kvs.map (fun kv => if kv.1 = k then (kv.1, v) else kv) else kvs ++ [(k, v)]
def dropK (kvs : List (κ × V)) (k : κ) : List (κ × V) := kvs.filter fun kv => decide (kv.1 ≠ k)
theorem valV_pos {p : κ × V} {r : List (κ × V)} {k : κ} (e : p.1 = k) : valV (p :: r) k = some p.2 := by simp [valV, List.find?_cons, e]
theorem valV_neg {p : κ × V} {r : List (κ × V)} {k : κ} (e : ¬ p.1 = k) : valV (p :: r) k = valV r k := by simp [valV, List.find?_cons, e]
theorem valV_any (k : κ) : ∀ kvs : List (κ × V), (kvs.any fun kv => decide (kv.1 = k)) = (valV kvs k).isSome
  | [] => rfl
  | p :: r => by
    rw [List.any_cons]
    by_cases e : p.1 = k
    · simp only [valV_pos e, decide_eq_true e, Bool.true_or, Option.isSome_some]
    · rw [valV_neg e, decide_eq_false e, Bool.false_or]; exact valV_any k r
theorem length_putK (kvs : List (κ × V)) (k : κ) (v : V) : (putK kvs k v).length ≤ kvs.length + 1 := by
  unfold putK
  split
  · rw [List.length_map]; omega
  · rw [List.length_append, List.length_cons, List.length_nil]; omega
theorem putK_new {kvs : List (κ × V)} {k : κ} (v : V) (h : valV kvs k = none) : putK kvs k v = kvs ++ [(k, v)] := by
  unfold putK
  rw [valV_any, h]
  exact if_neg (by decide)
theorem RelO.isSome_eq {o : Option V} {u : Option Value} (r : RelO o u) : o.isSome = u.isSome := by
  cases o with
  | none => cases u with
    | none => rfl
    | some _ => exact (show False from r).elim
  | some _ => cases u with
    | none => exact (show False from r).elim
    | some _ => rfl
theorem RelO.getD {o : Option V} {u : Option Value} {d : V} {d' : Value} (r : RelO o u) (rd : RelV d d') : RelV (o.getD d) (u.getD d') := by
  cases o with
  | none => cases u with
    | none => exact rd
    | some _ => exact (show False from r).elim
  | some _ => cases u with
    | none => exact (show False from r).elim
    | some _ => exact r
theorem KV.val {kvs : List (κ × V)} {vs : List (κ × Value)} (r : KV kvs vs) (k : κ) : RelO (valV kvs k) (valueAt vs k) := by
  unfold KV at r
  induction r with
  | nil => exact True.intro
  | @cons p q ps qs h t ih =>
    obtain ⟨h1, h2⟩ := h
    by_cases e : p.1 = k
    · have e' : q.1 = k := h1.symm.trans e
      have b : valueAt (q :: qs) k = some q.2 := by simp [valueAt, List.find?_cons, e']
      rw [valV_pos e, b]; exact h2
    · have e' : ¬ q.1 = k := fun z => e (h1.trans z)
      have b : valueAt (q :: qs) k = valueAt qs k := by simp [valueAt, List.find?_cons, e']
      rw [valV_neg e, b]; exact ih
theorem KV.any {kvs : List (κ × V)} {vs : List (κ × Value)} (r : KV kvs vs) (k : κ) : (kvs.any fun kv => decide (kv.1 = k)) = vs.any fun kv => decide (kv.1 = k) := by
  unfold KV at r
  induction r with
  | nil => rfl
  | cons h t ih => rw [List.any_cons, List.any_cons, ih, h.1]
theorem KV.repl {kvs : List (κ × V)} {vs : List (κ × Value)} (r : KV kvs vs) (k : κ) {y : V} {u : Value} (ry : RelV y u) :
    KV (kvs.map fun kv => if kv.1 = k then (kv.1, y) else kv) (vs.map fun kv => if kv.1 = k then (kv.1, u) else kv) := by
  unfold KV at r ⊢
  induction r with
  | nil => exact .nil
  | @cons p q ps qs h t ih =>
    rw [List.map_cons, List.map_cons]
    refine .cons ?_ ih
    obtain ⟨h1, h2⟩ := h
    by_cases e : p.1 = k
    · rw [if_pos e, if_pos (h1.symm.trans e)]; exact ⟨h1, ry⟩
    · rw [if_neg e, if_neg (fun z => e (h1.trans z))]; exact ⟨h1, h2⟩
theorem KV.put {kvs : List (κ × V)} {vs : List (κ × Value)} (r : KV kvs vs) (k : κ) {y : V} {u : Value} (ry : RelV y u) : KV (putK kvs k y) (stored vs k u) := by
  unfold putK stored
  rw [r.any k]
  by_cases e : (vs.any fun kv => decide (kv.1 = k)) = true
  · rw [if_pos e, if_pos e]; exact r.repl k ry
  · rw [if_neg e, if_neg e]; exact Paired.snoc r ⟨rfl, ry⟩
theorem KV.drop {kvs : List (κ × V)} {vs : List (κ × Value)} (r : KV kvs vs) (k : κ) : KV (dropK kvs k) (without vs k) := by
  unfold KV at r ⊢
  unfold dropK without
  induction r with
  | nil => exact .nil
  | @cons p q ps qs h t ih =>
    obtain ⟨h1, h2⟩ := h
    rw [List.filter_cons, List.filter_cons]
    by_cases e : p.1 = k
    · have a : ¬ decide (p.1 ≠ k) = true := by simp [e]
      have b : ¬ decide (q.1 ≠ k) = true := by simp [h1.symm.trans e]
      rw [if_neg a, if_neg b]; exact ih
    · have e' : ¬ q.1 = k := fun z => e (h1.trans z)
      have a : decide (p.1 ≠ k) = true := by simp [e]
      have b : decide (q.1 ≠ k) = true := by simp [e']
      rw [if_pos a, if_pos b]; exact .cons ⟨h1, h2⟩ ih
theorem KV.keys {kvs : List (κ × V)} {vs : List (κ × Value)} (r : KV kvs vs) : kvs.map (·.1) = vs.map (·.1) := by
  unfold KV at r
  induction r with
  | nil => rfl
  | cons h t ih => rw [List.map_cons, List.map_cons, ih, h.1]
theorem KV.length {kvs : List (κ × V)} {vs : List (κ × Value)} (r : KV kvs vs) : kvs.length = vs.length := Paired.length r
end
theorem kV_is {P : Program} {w : World} {k : Key} {u : Value} (r : RelV (kV k) u) : (mixKind P w).is k u = true := by
  cases k with
  | inl i => obtain ⟨t, e⟩ := (show ∃ t, u = Value.int i t from r); subst e; exact mixKind_int P w i t
  | inr x => obtain ⟨t, e⟩ := (show ∃ t, u = Value.str x t from r); subst e; exact mixKind_str P w x t
theorem items_are {P : Program} {w : World} : ∀ {ks : List Key} {us : List Value}, Vals (ks.map kV) us → ItemsAre (mixKind P w) ks us
  | [], _, r => by rw [List.map_nil] at r; cases r; exact .nil
  | k :: ks, _, r => by
    rw [List.map_cons] at r
    cases r with
    | cons h t => exact .cons (kV_is h) (items_are t)
abbrev KT (H : Hp) : List (List Key × V) → List (List Key × Addr × Value) → Prop := Paired fun p q => p.1 = q.1 ∧ H q.2.1 = some (.tup (p.1.map kV)) ∧ RelV p.2 q.2.2
theorem KT.val {H : Hp} {kvs : List (List Key × V)} {xs : List (List Key × Addr × Value)} (r : KT H kvs xs) (k : List Key) : RelO (valV kvs k) ((atKey xs k).map (·.2)) := by
  induction r with
  | nil => exact True.intro
  | @cons p q ps qs h t ih =>
    obtain ⟨h1, _, h2⟩ := h
    by_cases e : p.1 = k
    · have e' : q.1 = k := h1.symm.trans e
      have b : atKey (q :: qs) k = some q.2 := by simp [atKey, List.find?_cons, e']
      rw [valV_pos e, b]; exact h2
    · have e' : ¬ q.1 = k := fun z => e (h1.trans z)
      have b : atKey (q :: qs) k = atKey qs k := by simp [atKey, List.find?_cons, e']
      rw [valV_neg e, b]; exact ih
theorem KT.repl {H : Hp} {kvs : List (List Key × V)} {xs : List (List Key × Addr × Value)} (r : KT H kvs xs) (k : List Key) {y : V} {u : Value} (ry : RelV y u) :
    KT H (kvs.map fun kv => if kv.1 = k then (kv.1, y) else kv) (xs.map (putAt k u)) := by
  induction r with
  | nil => exact .nil
  | @cons p q ps qs h t ih =>
    rw [List.map_cons, List.map_cons]
    refine .cons ?_ ih
    obtain ⟨h1, h2, h3⟩ := h
    unfold putAt
    by_cases e : p.1 = k
    · rw [if_pos e, if_pos (h1.symm.trans e)]; exact ⟨h1, h2, ry⟩
    · rw [if_neg e, if_neg (fun z => e (h1.trans z))]; exact ⟨h1, h2, h3⟩
theorem KT.put {H : Hp} {kvs : List (List Key × V)} {xs : List (List Key × Addr × Value)} (r : KT H kvs xs) (k : List Key) {b : Addr} {y : V} {u : Value} (hb : H b = some (.tup (k.map kV))) (ry : RelV y u) :
    KT H (putK kvs k y) (storedH xs k b u) := by
  have e : (kvs.any fun kv => decide (kv.1 = k)) = (atKey xs k).isSome := by
    rw [valV_any, (r.val k).isSome_eq, Option.isSome_map]
  unfold putK storedH
  rw [e]
  by_cases q : (atKey xs k).isSome = true
  · rw [if_pos q, if_pos q]; exact r.repl k ry
  · rw [if_neg q, if_neg q]; exact Paired.snoc r ⟨rfl, hb, ry⟩
theorem KT.keeps {H H' : Hp} {kvs : List (List Key × V)} {xs : List (List Key × Addr × Value)} (r : KT H kvs xs) (ht : ∀ b ys, H b = some (.tup ys) → H' b = some (.tup ys)) : KT H' kvs xs :=
  Paired.mapP r fun _ _ z => ⟨z.1, ht _ _ z.2.1, z.2.2⟩
section
variable {P : Program} {w : World} {H : Hp} {h : Heap} {a : Addr}
theorem rd_of {u : HO} (ok : HOk P w H h) (e : Rd H a u) : ObjOk P w H h a u := e.ok ok
theorem dk_rd {kvs : List (Key × V)} (ok : HOk P w H h) (e : Rd H a (.dK kvs)) : kvs.length ≤ sizeLine ∧ (a == sysModules) = false ∧ ∃ vs, KV kvs vs ∧ h.DictOf (mixKind P w) a vs :=
  show ObjOk P w H h a (.dK kvs) from rd_of ok e
theorem dk_of {kvs : List (Key × V)} (ok : HOk P w H h) (e : H a = some (.dK kvs)) : kvs.length ≤ sizeLine ∧ (a == sysModules) = false ∧ ∃ vs, KV kvs vs ∧ h.DictOf (mixKind P w) a vs := dk_rd ok (.inl e)
theorem key_of {ks : List Key} (ok : HOk P w H h) (e : H a = some (.tup (ks.map kV))) : (tupleKind (mixKind P w)).is h ks a := by
  obtain ⟨_, its, r, o, h1, h2, n, h3⟩ := (show ObjOk P w H h a (.tup (ks.map kV)) from ok a _ e)
  exact ⟨o, its.toArray, n, h1, h2, h3, by simpa using items_are r⟩
theorem dt_rd {kvs : List (List Key × V)} (ok : HOk P w H h) (e : Rd H a (.dT kvs)) : kvs.length ≤ sizeLine ∧ (a == sysModules) = false ∧
    ∃ xs, KT H kvs xs ∧ h.DictOfH (tupleKind (mixKind P w)) a xs := by
  obtain ⟨z, y, xs, r, o, es, ep, h1, h2, h3, h4, h5⟩ := (show ObjOk P w H h a (.dT kvs) from rd_of ok e)
  refine ⟨z, y, xs, r, o, es, ep, h1, h2, h3, h4, fun x hx => ?_, h5⟩
  have all : ∀ {l : List (List Key × V)} {m : List (List Key × Addr × Value)}, KT H l m → ∀ x ∈ m, (tupleKind (mixKind P w)).is h x.1 x.2.1 := by
    intro l m q
    induction q with
    | nil => intro x hx; exact nomatch hx
    | @cons p q ps qs hq t ih =>
      intro x hx
      rcases List.mem_cons.mp hx with e | hx
      · subst e
        exact key_of ok (by rw [← hq.1]; exact hq.2.1)
      · exact ih x hx
  exact all r x hx
theorem dt_of {kvs : List (List Key × V)} (ok : HOk P w H h) (e : H a = some (.dT kvs)) : kvs.length ≤ sizeLine ∧ (a == sysModules) = false ∧
    ∃ xs, KT H kvs xs ∧ h.DictOfH (tupleKind (mixKind P w)) a xs := dt_rd ok (.inl e)
end
def DGet (H : Hp) (a : Addr) (y : V) (r : Option V) : Prop :=
  (∃ kvs k, Rd H a (.dK kvs) ∧ y = kV k ∧ r = valV kvs k) ∨ ∃ kvs k b, Rd H a (.dT kvs) ∧ y = .ref b ∧ H b = some (.tup (k.map kV)) ∧ r = valV kvs k
def DPut (H : Hp) (a : Addr) (y v : V) (H' : Hp) : Prop :=
  (∃ kvs k, H a = some (.dK kvs) ∧ y = kV k ∧ kvs.length < sizeLine ∧ H' = upd H a (.dK (putK kvs k v))) ∨
  ∃ kvs k b, H a = some (.dT kvs) ∧ y = .ref b ∧ H b = some (.tup (k.map kV)) ∧ kvs.length < sizeLine ∧ H' = upd H a (.dT (putK kvs k v))
theorem DGet.k {H : Hp} {a : Addr} {kvs : List (Key × V)} {k : Key} (e : H a = some (.dK kvs)) : DGet H a (kV k) (valV kvs k) := .inl ⟨kvs, k, .inl e, rfl, rfl⟩
theorem DGet.t {H : Hp} {a b : Addr} {kvs : List (List Key × V)} {k : List Key} (e : H a = some (.dT kvs)) (eb : H b = some (.tup (k.map kV))) : DGet H a (.ref b) (valV kvs k) := .inr ⟨kvs, k, b, .inl e, rfl, eb, rfl⟩
theorem DPut.k {H : Hp} {a : Addr} {kvs : List (Key × V)} {k : Key} {v : V} (e : H a = some (.dK kvs)) (hl : kvs.length < sizeLine) : DPut H a (kV k) v (upd H a (.dK (putK kvs k v))) := .inl ⟨kvs, k, e, rfl, hl, rfl⟩
theorem DPut.t {H : Hp} {a b : Addr} {kvs : List (List Key × V)} {k : List Key} {v : V} (e : H a = some (.dT kvs)) (eb : H b = some (.tup (k.map kV))) (hl : kvs.length < sizeLine) :
    DPut H a (.ref b) v (upd H a (.dT (putK kvs k v))) := .inr ⟨kvs, k, b, e, rfl, eb, hl, rfl⟩
section
variable {X : Cx} {pins : List (Addr × Obj)} {σ : St} {H : Hp} {s : Shared} {a : Addr} {y v : V} {u r : Value} {o : Option V} {A : Around} {E : Value → Shared → Prop}
theorem Inv.big (I : Inv X pins σ H s) : sysModules < s.heap.objs.size := by
  have h : mainGlobals < s.heap.objs.size := (I.mod.glob.keeps I.bk).lt
  exact Nat.lt_trans (by decide) h
theorem d_getItem {Q : Value → Shared → Prop} (hu : A.units + 1 < cLine) (I : Inv X pins σ H s) (g : DGet H a y (some v)) (ry : RelV y u) (h : ∀ w' s', Inv X pins σ H s' → RelV v w' → Q w' s') :
    wpAny (model X.prog X.w) A (getItem (.ref a) u) Q E s := by
  rcases g with ⟨kvs, k, e, ey, l⟩ | ⟨kvs, k, b, e, ey, eb, l⟩
  · subst ey
    obtain ⟨z, hd, vs, rel, dd⟩ := dk_rd I.hok e
    obtain ⟨w', hw, rw'⟩ := RelO.some_of (v := v) (o := valueAt vs k) (by rw [l]; exact rel.val k)
    exact wpAny_getItem_of (kV_is ry) dd.mapOf hw (h w' _ (I.tok _) rw')
  · subst ey
    cases (show u = Value.ref b from ry)
    obtain ⟨z, hd, xs, rel, dd⟩ := dt_rd I.hok e
    obtain ⟨w', hw, rw'⟩ := RelO.some_of (v := v) (o := (atKey xs k).map (·.2)) (by rw [l]; exact rel.val k)
    obtain ⟨p, hp, hp2⟩ := Option.map_eq_some_iff.mp hw
    refine wpAny_getItem_heap (tupleKind_room_in1 hu) (key_of I.hok eb) dd hp ?_
    rw [hp2]
    exact h w' _ (I.tok _) rw'
theorem d_write {h' : Heap} {t' : Nat} {ob : HO} (I : Inv X pins σ H s) (mu : Mut (H a)) (hs : Heap.SameBut a s.heap h') (he : ∃ q, h'.get? a = some q) (new : ObjOk X.prog X.w (upd H a ob) h' a ob) :
    Inv X pins σ (upd H a ob) { s with heap := h', toks := t' } :=
  I.write (x := a) (e := a) mu (.inl rfl) (fun b q hb z => (hs.2 b hb).trans z) he new
theorem dk_new {P : Program} {w : World} {H' : Hp} {h' : Heap} {kvs : List (Key × V)} {vs : List (Key × Value)} (z : kvs.length ≤ sizeLine) (hd : (a == sysModules) = false) (rel : KV kvs vs) (dd : h'.DictOf (mixKind P w) a vs) :
    ObjOk P w H' h' a (.dK kvs) := ⟨z, hd, vs, rel, dd⟩
end
section
variable {X : Cx} {pins : List (Addr × Obj)} {σ : St} {H : Hp} {s : Shared} {a : Addr} {kvs : List (Key × V)} {k : Key} {u : Value} {A : Around} {E : Value → Shared → Prop}
end
def NoSl (i : Expr) : Prop := ∀ ov iv, subscripted i false ov iv = operate [ov, iv] (getItem ov iv)
theorem subD_of {prog : Program} {w : World} {A : Around} {E : Value → Shared → Prop} {s : Shared} {env : Env} {value slice : Expr} {pos : Pos} {T id : String} {Q : Value → Shared → Prop}
    (hl : typeLookup (.type T) "__getitem__" = pure (some (.builtin id))) (hs : NoSl slice)
    (h : wpAny (model prog w) A (eval value env) (fun o s₁ => wpAny (model prog w) A (eval slice env) (fun i s₂ => s₂.TypeIs o T ∧ wpAny (model prog w) A (getItem o i) Q E s₂) E s₁) E s) :
    wpAny (model prog w) A (eval (.Subscript value slice pos) env) Q E s := by
  refine Subscript_ (wpAny_mono h (fun o s₁ h₁ => wpAny_mono h₁ (fun i s₂ h₂ => ?_) fun _ _ x => x) fun _ _ x => x)
  obtain ⟨hT, h₂⟩ := h₂
  unfold subscriptTail
  refine wpAny_bind ?_
  rw [getitemInPython_of_ne hT.not_modules]
  refine wpAny_bind (wpAny_specialOf hT hl ?_)
  have fin : wpAny (model prog w) A (subscripted slice false o i) (fun r s₃ => wpAny (model prog w) A (letTemporaryGo value o r >>= fun _ => pure r) Q E s₃) E s₂ := by
    rw [hs o i]
    exact wpAny_operating (wpAny_mono h₂ (fun r s₃ h₃ => wpAny_bind (wpAny_letTemporaryGo (wpAny_pure h₃))) fun _ _ x => x)
  first
    | exact wpAny_pure (wpAny_bind fin)
    | exact wpAny_bind (wpAny_pure (wpAny_bind fin))
    | exact wpAny_bind fin
theorem dict_typeIs {X : Cx} {pins : List (Addr × Obj)} {σ : St} {H : Hp} {s : Shared} {a : Addr} {y : V} {o : Option V} (I : Inv X pins σ H s) (g : DGet H a y o) : s.TypeIs (.ref a) "dict" := by
  rcases g with ⟨kvs, k, e, _, _⟩ | ⟨kvs, k, b, e, _, _, _⟩
  · obtain ⟨_, _, vs, _, dd⟩ := dk_rd I.hok e
    exact dd.typeIs
  · obtain ⟨_, _, xs, _, dd⟩ := dt_rd I.hok e
    exact dd.typeIs
def tDGet (td ty : TE) : TE := fun σ H Q => td σ H fun x H1 => ty σ H1 fun y H2 => ∃ a v, x = .ref a ∧ DGet H2 a y (some v) ∧ Q v H2
def tDIn (ty td : TE) : TE := fun σ H Q => ty σ H fun y H1 => td σ H1 fun x H2 => ∃ a o, x = .ref a ∧ DGet H2 a y o ∧ Q (.bl o.isSome) H2
def tDNotIn (ty td : TE) : TE := fun σ H Q => ty σ H fun y H1 => td σ H1 fun x H2 => ∃ a o, x = .ref a ∧ DGet H2 a y o ∧ Q (.bl (!o.isSome)) H2
def sDPut (td ty tv : TE) : TS := fun D σ H => tv σ H fun v H1 => td σ H1 fun x H2 => ty σ H2 fun y H3 => ∃ a H4, x = .ref a ∧ DPut H3 a y v H4 ∧ D.nx σ H4
section
variable {X : Cx} {o i e value : Expr} {pos pos' tpos : Pos} {td ty tv : TE}
theorem pe_dget (hu : X.A.units + 1 < cLine) (ho : PE X o td) (hi : PE X i ty) (hs : NoSl i) : PE X (.Subscript o i pos) (tDGet td ty) := by
  intro pins s σ H Q I h
  refine subD_of PySem.F.slot_dict_getitem.lookup hs (thn (ho pins s σ H _ I h) fun u s1 ⟨x, H1, I1, rx, q1⟩ => thn (hi pins s1 σ H1 _ I1 q1) fun iv s2 ⟨y, H2, I2, ry, a, v, ex, g, q2⟩ => ?_)
  subst ex
  obtain rfl : u = Value.ref a := rx
  exact ⟨dict_typeIs I2 g, d_getItem hu I2 g ry fun w' s3 I3 rw' => ⟨v, H2, I3, rw', q2⟩⟩
end
section
variable {X : Cx} {pos : Pos}
end
def tPairs : List (TE × TE) → St → Hp → (List (V × V) → Hp → Prop) → Prop
  | [], _, H, Q => Q [] H
  | (tk, tv) :: r, σ, H, Q => tk σ H fun x H1 => tv σ H1 fun y H2 => tPairs r σ H2 fun ps H3 => Q ((x, y) :: ps) H3
def mergeK (kvs more : List (Key × V)) : List (Key × V) := more.foldl (fun acc kv => putK acc kv.1 kv.2) kvs
def tDisp (trs : List (TE × TE)) : TE := fun σ H Q => ∀ p, H p = none → tPairs trs σ (upd H p (.dK [])) fun ps H2 => H2 p = some (.dK []) ∧ ∃ kvs : List (Key × V), ps = kvs.map (fun kv => (kV kv.1, kv.2)) ∧ kvs.length ≤ 15 ∧ Q (.ref p) (upd H2 p (.dK (mergeK [] kvs)))
structure M1 (X : Cx) (o : Expr) (m : Str) (apos : Pos) (e : Expr) (cpos : Pos) : Prop where
  base : attributeBase o m X.env (eval o X.env) = eval o X.env
  few : ((backTo cpos (starEach [e] X.env)).all (fun x => !x.1) && (backToKw cpos (keywordEach [] X.env)).all (fun x => x.1.isSome)
    && decide (([e] : List Expr).length + ([] : List Keyword).length + (if ([] : List Keyword).isEmpty then 0 else 1) < 30)) = true
  line : (apos.endLine == cpos.line) = true
  trees : backTo cpos (starEach [e] X.env) = [(false, eval e X.env)]
structure M2 (X : Cx) (o : Expr) (m : Str) (apos : Pos) (e f : Expr) (cpos : Pos) : Prop where
  base : attributeBase o m X.env (eval o X.env) = eval o X.env
  few : ((backTo cpos (starEach [e, f] X.env)).all (fun x => !x.1) && (backToKw cpos (keywordEach [] X.env)).all (fun x => x.1.isSome)
    && decide (([e, f] : List Expr).length + ([] : List Keyword).length + (if ([] : List Keyword).isEmpty then 0 else 1) < 30)) = true
  line : (apos.endLine == cpos.line) = true
  trees : backTo cpos (starEach [e, f] X.env) = [(false, eval e X.env), (false, eval f X.env)]
section
variable {X : Cx} {pins : List (Addr × Obj)} {σ : St} {H : Hp} {s : Shared} {a : Addr} {y d : V} {u r : Value} {o : Option V} {A : Around} {E : Value → Shared → Prop}
end
section
variable {X : Cx} {o e f : Expr} {apos cpos : Pos} {td ty tx : TE}
end
section
variable {X : Cx} {pins : List (Addr × Obj)} {σ : St} {H : Hp} {s : Shared} {a : Addr} {kvs : List (Key × V)} {A : Around} {E : Value → Shared → Prop}
end
section
variable {X : Cx} {pins : List (Addr × Obj)} {σ : St} {H : Hp} {s : Shared} {a : Addr} {y : V} {u : Value} {A : Around} {E : Value → Shared → Prop}
end
end L2
namespace L2
open PySem PySem.Spec PyProof.Rows
section
variable {X : Cx}
end
end L2
namespace L2
open PySem PySem.Spec PyProof.Rows
section
variable {κ : Type} [DecidableEq κ]
theorem nd_snoc : ∀ {l : List κ} {k : κ}, l.Nodup → ¬ k ∈ l → (l ++ [k]).Nodup
  | [], k, _, _ => by simp
  | a :: r, k, h, hk => by
    obtain ⟨h1, h2⟩ := List.nodup_cons.mp h
    show (a :: (r ++ [k])).Nodup
    refine List.nodup_cons.mpr ⟨fun m => ?_, nd_snoc h2 fun m => hk (List.mem_cons.mpr (Or.inr m))⟩
    rcases List.mem_append.mp m with q | q
    · exact h1 q
    · exact hk (List.mem_cons.mpr (Or.inl (List.mem_singleton.mp q).symm))
end
end L2
set_option Elab.async false
set_option linter.all false
set_option maxRecDepth 100000
set_option maxHeartbeats 1000000
namespace L2
open PySem PySem.Spec PyProof.Rows
section
variable {X : Cx}
inductive TyX (K : PySem.W.Frag) (H : Hp) : V → Value → Prop where
  | of {x : V} {t : Value} (h : TyOf K H x t) : TyX K H x t
  | tupK {a : Addr} {xs : List V} (h : SqT K H a xs) : TyX K H (.ref a) (.type "tuple")
  | lstK {a : Addr} {xs : List V} (h : SqL K H a xs) : TyX K H (.ref a) (.type "list")
def rIsi (K : PySem.W.Frag) : List V → Hp → VK → Prop := fun xs H Q => ∃ x T t b, xs = [x, .ty T] ∧ TyX K H x t ∧ PySem.W.kitOne K t (.type T) = some b ∧ Q (.bl b) H
theorem call_isi : CallR X (.builtin "isinstance") (rIsi X.K) := by
  intro pins s σ H xs us Q I r h
  obtain ⟨x, T, t, b, rfl, ty, e, q⟩ := h
  obtain ⟨u, c, rfl, rx, rc⟩ := vals2 r
  cases (show c = Value.type T from rc)
  cases ty with
  | of h => exact isinst_ok I rx h e fun tk => ⟨.bl b, H, I.tok tk, rfl, q⟩
  | @tupK a xs h =>
    cases (show u = Value.ref a from rx)
    obtain ⟨its, _, ⟨o, h1, h2, _⟩, _⟩ := I.tuple h
    exact PySem.W.kia_one PySem.W.kitx_tuple I.kIn ⟨o, h1, h2⟩ e (fun z => nomatch z) fun tk => ⟨.bl b, H, I.tok tk, rfl, q⟩
  | @lstK a xs h =>
    cases (show u = Value.ref a from rx)
    obtain ⟨its, _, ⟨o, n, h1, h2, _⟩, _⟩ := I.list h
    exact PySem.W.kia_one PySem.W.kitx_list I.kIn ⟨o, h1, h2⟩ e (fun z => nomatch z) fun tk => ⟨.bl b, H, I.tok tk, rfl, q⟩
theorem kit_same (K : PySem.W.Frag) (T : String) : PySem.W.kitOne K (.type T) (.type T) = some true := by
  unfold PySem.W.kitOne
  rw [if_pos (beq_self_eq_true _)]
def rMulS : R2 := fun x y H Q => ∃ z n, x = .str z ∧ y = .int n ∧ z.length ≤ 1000 ∧ -1000 ≤ n ∧ n ≤ 1000 ∧ Q (.str (Txt.mul z n)) H
theorem mulOk_small {z : Str} {n : Int} (h1 : z.length ≤ 1000) (h2 : -1000 ≤ n) (h3 : n ≤ 1000) : MulOk z n := by
  refine ⟨?_, fun h4 h5 => ?_, fun h4 h5 => ?_⟩
  · have a : ¬ n < -(2 ^ 63 : Int) := by omega
    have b : ¬ n ≥ 2 ^ 63 := by omega
    rw [decide_eq_false a, decide_eq_false b]; rfl
  · have : (1000 : Int) ≤ (2 ^ 63 - 1) / n := by
      rw [Int.le_ediv_iff_mul_le (by omega)]
      omega
    omega
  · have : z.length * n.toNat ≤ 1000 * 1000 := Nat.mul_le_mul h1 (by omega)
    unfold Builtin.Str.tooLong
    rw [decide_eq_false]
    have e := sizeLine_eq
    first | omega | (simp at *; omega)
theorem op_mulS : OpR X (binaryOp .Mult) rMulS := by
  intro pins s σ H x y v u Q I rx ry h
  obtain ⟨z, n, rfl, rfl, h1, h2, h3, q⟩ := h
  obtain ⟨t, rfl⟩ := rx
  obtain ⟨t', rfl⟩ := ry
  exact SB.mul (mulOk_small h1 h2 h3) fun t' k => ⟨.str _, H, I.tok k, ⟨_, rfl⟩, q⟩
def rSlS : V → Option Int → Option Int → Hp → VK → Prop := fun x lo hi H Q => ∃ z, x = .str z ∧ z.length ≤ sizeLine ∧ Q (.str (Txt.slice z lo hi)) H
theorem pick_rev (its : List Value) : slicePick its.toArray none none (some (-1)) = its.reverse.toArray := by
  unfold slicePick
  have e : sliceBounds none none (some (-1)) its.toArray.size = ((its.length : Int) - 1, -1, -1) := by
    simp [sliceBounds]
  rw [e]
  have e2 : sliceRange ((its.length : Int) - 1) (-1) (-1) = (List.range its.length).map fun k => its.length - 1 - k := by
    unfold sliceRange
    have c : (if (-1 : Int) > 0 then (if ((its.length : Int) - 1) < -1 then (-1 - ((its.length : Int) - 1) + -1 - 1) / -1 else 0) else (if ((its.length : Int) - 1) > -1 then (((its.length : Int) - 1) - -1 - -1 - 1) / (- -1) else 0)).toNat = its.length := by
      rw [if_neg (by decide)]
      by_cases h : ((its.length : Int) - 1) > -1
      · rw [if_pos h]
        have : (((its.length : Int) - 1) - -1 - -1 - 1) / (- -1) = its.length := by
          have : (- (-1 : Int)) = 1 := rfl
          rw [this, Int.ediv_one]; omega
        rw [this]; simp
      · rw [if_neg h]; simp; omega
    show (List.range (if (-1 : Int) > 0 then (if ((its.length : Int) - 1) < -1 then (-1 - ((its.length : Int) - 1) + -1 - 1) / -1 else 0) else (if ((its.length : Int) - 1) > -1 then (((its.length : Int) - 1) - -1 - -1 - 1) / (- -1) else 0)).toNat).map _ = _
    rw [c]
    apply List.map_congr_left
    intro k hk
    omega
  show ((sliceRange ((its.length : Int) - 1) (-1) (-1)).filterMap (its.toArray[·]?)).toArray = _
  rw [e2, List.filterMap_map]
  congr 1
  apply List.ext_getElem?
  intro i
  have all : (List.range its.length).filterMap ((its.toArray[·]?) ∘ fun k => its.length - 1 - k) = its.reverse := by
    have gen : ∀ (n : Nat) (f : Nat → Option Value) (g : Nat → Value), (∀ k, k < n → f k = some (g k)) → (List.range n).filterMap f = (List.range n).map g := by
      intro n f g hf
      have aux : ∀ l : List Nat, (∀ k ∈ l, f k = some (g k)) → l.filterMap f = l.map g := by
        intro l
        induction l with
        | nil => intro _; rfl
        | cons k l ih =>
          intro h
          rw [List.filterMap_cons, h k (List.mem_cons_self), List.map_cons, ih fun j hj => h j (List.mem_cons_of_mem _ hj)]
      exact aux _ fun k hk => hf k (List.mem_range.mp hk)
    rw [gen its.length _ (fun k => its.reverse.getD k .none) (fun k hk => by
      have h2 : its.length - 1 - k < its.length := by omega
      simp [h2, List.getElem?_reverse, hk])]
    apply List.ext_getElem
    · simp
    · intro k h1 h2
      simp at h1
      simp [List.getElem?_reverse, h1]
  rw [all]
def tRev (K : PySem.W.Frag) (te ts : TE) : TE := fun σ H Q => te σ H fun x H1 => ts σ H1 fun y H2 => ∃ a xs, x = .ref a ∧ y = .int (-1) ∧ SqL K H2 a xs ∧ ∀ p, H2 p = none → Q (.ref p) (upd H2 p (.lst xs.reverse))
theorem pe_rev {e st : Expr} {te ts : TE} {p2 pos : Pos} (he : PE X e te) (hst : PE X st ts) : PE X (.Subscript e (.Slice none none (some st) p2) pos) (tRev X.K te ts) := by
  intro pins s σ H Q I h
  refine Subscript_ (thn (he pins s σ H _ I h) fun v s1 ⟨x, H1, I1, r1, q1⟩ => ?_)
  refine wpAny_Slice ?_
  rw [evalPart_none, evalPart_some]
  refine wpAny_pure (wpAny_pure (thn (hst pins s1 σ H1 _ I1 q1) fun vs s2 ⟨y, H2, I2, r2, q2⟩ => ?_))
  obtain ⟨a, xs, rfl, rfl, hx, q⟩ := q2
  cases r1
  obtain ⟨t, rfl⟩ := r2
  have I4 : Inv X pins σ H2 { s2 with heap := s2.heap.push { cls := .type "slice", data := .fields #[.none, .none, .int (-1) t] } } := I2.kept (t' := s2.toks) fun b ob q => Heap.get?_push_of_some _ q
  obtain ⟨its, r, ht, hz⟩ := I4.list hx
  have hlen := r.length
  show wpAny (model X.prog X.w) X.A (subscriptTail e (.Slice none none (some st) p2) (.ref a) (.ref s2.heap.objs.size)) (EP X pins σ Q) X.xe { s2 with heap := s2.heap.push { cls := .type "slice", data := .fields #[.none, .none, .int (-1) t] } }
  refine tail_any (ops := [.ref a, .ref s2.heap.objs.size]) ht.isList.typeIs slot_list_getitem.lookup ?_ (by with_unfolding_all rfl)
  refine wpAny_getItem_list_slice ht.isList (Heap.IsSliceOf.new ..) .none .none (.int _ _) (by simp) ?_ (by rw [List.size_toArray] <;> omega)
  rw [pick_rev]
  refine ⟨.ref _, _, I4.laid (t' := s2.toks) (o := .lst xs.reverse) (fun b ob q => Heap.get?_push_of_some _ q) (Nat.le_refl _) ?_, rfl, q _ (I4.hok.fresh (Nat.le_refl _))⟩
  exact ⟨by rw [List.length_reverse]; exact hz, _, 0, r.reverse, Heap.get?_push_size _ rfl⟩
theorem strsAre_of : ∀ {ys : List Str} {us : List Value}, Vals (ys.map V.str) us → StrsAre us ys
  | [], _, r => by cases r; exact .nil
  | y :: ys, _, r => by
    cases r with
    | cons h t =>
      obtain ⟨tk, rfl⟩ := h
      exact .cons _ _ (strsAre_of t)
def rJoin (K : PySem.W.Frag) : V → List V → Hp → VK → Prop := fun x vs H Q => ∃ sep l ys, x = .str sep ∧ vs = [.ref l] ∧ SqL K H l (ys.map V.str) ∧ (ys.map (·.length)).sum + ys.length * sep.length ≤ 16777216 ∧ Q (.str (Txt.join sep ys)) H
abbrev TF := Str → St → Hp → VK → Prop
def tF0 : TF := fun out _ H Q => out.length ≤ sizeLine ∧ Q (.str out) H
def tFc (x : Str) (t : TF) : TF := fun out σ H Q => (out ++ x).length ≤ sizeLine ∧ t (out ++ x) σ H Q
def tFv (te : TE) (t : TF) : TF := fun out σ H Q => te σ H fun v H1 => ∃ y, v = .str y ∧ y.length ≤ sizeLine ∧ (out ++ y).length ≤ sizeLine ∧ t (out ++ y) σ H1 Q
def tFs (t : TF) : TE := fun σ H Q => t Str.empty σ H Q
end
end L2
set_option Elab.async false
set_option linter.all false
set_option maxRecDepth 100000
set_option maxHeartbeats 1000000
namespace L2
open PySem PySem.Spec PyProof.Rows
mutual
def Dn (K : PySem.W.Frag) (H : Hp) : V → PyData → Prop
  | v, .none => v = .non
  | v, .bool b => v = .bl b
  | v, .int i => v = .int i
  | v, .str x => v = .str x
  | v, .list ds => ∃ a xs, v = .ref a ∧ SqL K H a xs ∧ DnAll K H xs ds
  | v, .tuple ds => ∃ a xs, v = .ref a ∧ SqT K H a xs ∧ DnAll K H xs ds
  | _, .dict _ => False
def DnAll (K : PySem.W.Frag) (H : Hp) : List V → List PyData → Prop
  | xs, [] => xs = []
  | xs, d :: ds => ∃ x r, xs = x :: r ∧ Dn K H x d ∧ DnAll K H r ds
end
theorem DnAll.length {K : PySem.W.Frag} {H : Hp} : ∀ {xs : List V} {ds : List PyData}, DnAll K H xs ds → xs.length = ds.length
  | xs, [], h => by rw [DnAll] at h; rw [h]; rfl
  | xs, d :: ds, h => by
    rw [DnAll] at h
    obtain ⟨x, r, rfl, _, h⟩ := h
    simp [DnAll.length h]
def KeepT (K : PySem.W.Frag) (H H' : Hp) : Prop := ∀ a xs, SqT K H a xs → SqT K H' a xs
mutual
def noList : PyData → Bool
  | .list _ => false
  | .tuple ds => noLists ds
  | .dict _ => false
  | _ => true
def noLists : List PyData → Bool
  | [] => true
  | d :: ds => noList d && noLists ds
end
mutual
theorem Dn.keepT {K : PySem.W.Frag} {H H' : Hp} (k : KeepT K H H') : ∀ {d : PyData} {v : V}, noList d = true → Dn K H v d → Dn K H' v d
  | .none, v, _, h => by rw [Dn] at h ⊢; exact h
  | .bool _, v, _, h => by rw [Dn] at h ⊢; exact h
  | .int _, v, _, h => by rw [Dn] at h ⊢; exact h
  | .str _, v, _, h => by rw [Dn] at h ⊢; exact h
  | .list _, v, n, h => by rw [noList] at n; cases n
  | .dict _, v, n, h => by rw [noList] at n; cases n
  | .tuple ds, v, n, h => by
    rw [Dn] at h ⊢
    rw [noList] at n
    obtain ⟨a, xs, e, hs, hd⟩ := h
    exact ⟨a, xs, e, k a xs hs, DnAll.keepT k n hd⟩
theorem DnAll.keepT {K : PySem.W.Frag} {H H' : Hp} (k : KeepT K H H') : ∀ {ds : List PyData} {xs : List V}, noLists ds = true → DnAll K H xs ds → DnAll K H' xs ds
  | [], xs, _, h => by rw [DnAll] at h ⊢; exact h
  | d :: ds, xs, n, h => by
    rw [DnAll] at h ⊢
    rw [noLists, Bool.and_eq_true] at n
    obtain ⟨x, r, e, h1, h2⟩ := h
    exact ⟨x, r, e, Dn.keepT k n.1 h1, DnAll.keepT k n.2 h2⟩
end
mutual
theorem Dn.keep {K : PySem.W.Frag} {H H' : Hp} (k : KeepT K H H') (kl : ∀ a xs, SqL K H a xs → SqL K H' a xs) : ∀ {d : PyData} {v : V}, Dn K H v d → Dn K H' v d
  | .none, v, h => by rw [Dn] at h ⊢; exact h
  | .bool _, v, h => by rw [Dn] at h ⊢; exact h
  | .int _, v, h => by rw [Dn] at h ⊢; exact h
  | .str _, v, h => by rw [Dn] at h ⊢; exact h
  | .list ds, v, h => by
    rw [Dn] at h ⊢
    obtain ⟨a, xs, e, hs, hd⟩ := h
    exact ⟨a, xs, e, kl a xs hs, DnAll.keep k kl hd⟩
  | .dict _, v, h => by rw [Dn] at h; exact h.elim
  | .tuple ds, v, h => by
    rw [Dn] at h ⊢
    obtain ⟨a, xs, e, hs, hd⟩ := h
    exact ⟨a, xs, e, k a xs hs, DnAll.keep k kl hd⟩
theorem DnAll.keep {K : PySem.W.Frag} {H H' : Hp} (k : KeepT K H H') (kl : ∀ a xs, SqL K H a xs → SqL K H' a xs) : ∀ {ds : List PyData} {xs : List V}, DnAll K H xs ds → DnAll K H' xs ds
  | [], xs, h => by rw [DnAll] at h ⊢; exact h
  | d :: ds, xs, h => by
    rw [DnAll] at h ⊢
    obtain ⟨x, r, e, h1, h2⟩ := h
    exact ⟨x, r, e, Dn.keep k kl h1, DnAll.keep k kl h2⟩
end
section
variable {X : Cx} {pins : List (Addr × Obj)} {σ : St} {H : Hp} {s : Shared}
mutual
theorem Dn.reads (I : Inv X pins σ H s) : ∀ {d : PyData} {v : V} {u : Value}, Dn X.K H v d → RelV v u → ∃ as, Reads s.heap u d as
  | .none, v, u, h, r => by rw [Dn] at h; subst h; cases (show u = Value.none from r); exact ⟨_, .none⟩
  | .bool b, v, u, h, r => by rw [Dn] at h; subst h; cases (show u = Value.bool b from r); exact ⟨_, .bool b⟩
  | .int i, v, u, h, r => by rw [Dn] at h; subst h; obtain ⟨t, rfl⟩ := r; exact ⟨_, .int i t⟩
  | .str x, v, u, h, r => by rw [Dn] at h; subst h; obtain ⟨t, rfl⟩ := r; exact ⟨_, .str x t⟩
  | .dict _, v, u, h, r => by rw [Dn] at h; exact h.elim
  | .list ds, v, u, h, r => by
    rw [Dn] at h
    obtain ⟨a, xs, rfl, hs, hd⟩ := h
    cases (show u = Value.ref a from r)
    obtain ⟨its, rv, ⟨o, n, h1, h2, _, h3⟩, _⟩ := I.list hs
    obtain ⟨as, q⟩ := DnAll.reads I hd rv
    exact ⟨_, .list h1 h2 h3 (by simpa using q)⟩
  | .tuple ds, v, u, h, r => by
    rw [Dn] at h
    obtain ⟨a, xs, rfl, hs, hd⟩ := h
    cases (show u = Value.ref a from r)
    obtain ⟨its, rv, ⟨o, h1, h2, n, h3⟩, _⟩ := I.tuple hs
    obtain ⟨as, q⟩ := DnAll.reads I hd rv
    exact ⟨_, .tuple h1 h2 h3 (by simpa using q)⟩
theorem DnAll.reads (I : Inv X pins σ H s) : ∀ {ds : List PyData} {xs : List V} {us : List Value}, DnAll X.K H xs ds → Vals xs us → ∃ as, ReadsAll s.heap us ds as
  | [], xs, us, h, r => by rw [DnAll] at h; subst h; cases r; exact ⟨_, .nil⟩
  | d :: ds, xs, us, h, r => by
    rw [DnAll] at h
    obtain ⟨x, r', rfl, h1, h2⟩ := h
    cases r with
    | cons r1 r2 =>
      obtain ⟨as, q1⟩ := Dn.reads I h1 r1
      obtain ⟨bs, q2⟩ := DnAll.reads I h2 r2
      exact ⟨_, .cons q1 q2⟩
end
end
section
variable {X : Cx}
def rEqD (K : PySem.W.Frag) (neg : Bool) : R2 := fun x y H Q => ∃ d e, Dn K H x d ∧ Dn K H y e ∧ d.canLay0 = true ∧ e.canLay0 = true ∧ min d.depth e.depth ≤ 150 ∧ Q (.bl (if neg then !PyData.eqv d e else PyData.eqv d e)) H
theorem op_eqD (hu : X.A.units + 150 < cLine) : OpR X (compareOp .Eq) (rEqD X.K false) := by
  intro pins s σ H x y v u Q I rx ry h
  obtain ⟨d, e, h1, h2, l1, l2, hz, q⟩ := h
  obtain ⟨as, r1⟩ := h1.reads I rx
  obtain ⟨bs, r2⟩ := h2.reads I ry
  exact PySem.W.cmp_ofEq (SeqAt.rcAt_reads r1 r2 l1 l2 (by omega) _ _ _ _ ⟨.bl _, H, I, rfl, q⟩)
theorem op_neD (hu : X.A.units + 150 < cLine) : OpR X (compareOp .NotEq) (rEqD X.K true) := by
  intro pins s σ H x y v u Q I rx ry h
  obtain ⟨d, e, h1, h2, l1, l2, hz, q⟩ := h
  obtain ⟨as, r1⟩ := h1.reads I rx
  obtain ⟨bs, r2⟩ := h2.reads I ry
  exact PySem.W.cmp_ofNotEq (SeqAt.rcNeAt_reads r1 r2 l1 l2 (by omega) _ _ _ _ ⟨.bl _, H, I, rfl, q⟩)
end
theorem hu_150 {A : Around} {k : Nat} (hr : Room k A) : A.units + 150 < cLine := by have := hr.un; omega
end L2
set_option Elab.async false
set_option linter.all false
set_option maxRecDepth 100000
set_option maxHeartbeats 2000000
namespace L2
open PySem PySem.Spec PyProof.Rows
def blk (X : Cx) (N' : List Str) (scope : Scope) (cl : List (Str × Addr)) (s : Shared) (H : Hp) (C : Addr) (ex : List Addr) : Cx where
  prog := X.prog
  w := X.w
  K := X.K
  mg := X.mg
  base := X.base
  A := X.A
  N := N'
  s₀ := s
  H₀ := H
  env := compEnvC scope cl C X.env
  outer := X.stack
  stack := X.stack
  ex := ex
  fn := fun _ => false
  calm := X.calm
  pn := []
  xe := fun _ _ => False
structure BlkOk (X : Cx) (scope : Scope) (cl : List (Str × Addr)) (N' : List Str) (nt : Nat) (ci : List Nat) : Prop where
  clos : closureFor scope X.env = pure cl
  cell : ∀ y ∈ scope.names, y.2 ≠ .cell
  kind : scope.kind = .function
  names : ∀ y ∈ scope.names, y.2 = .local → scope.names.lookup y.1 = some .local
  sub : ∀ x c, cl.lookup x = some c → X.env.cells.lookup x = some c
  has : ∀ x, ((relabel scope X.env).names.lookup x = some .cell ∨ (relabel scope X.env).names.lookup x = some .free) → ∃ c, cl.lookup x = some c
  len : N'.length = nt + ci.length
  cap : ∀ (j i : Nat), ci[j]? = some i → ∃ x, N'[nt + j]? = some x ∧ X.N[i]? = some x ∧ X.env.scope.names.lookup x = some .cell ∧ ((relabel scope X.env).names.lookup x = some .cell ∨ (relabel scope X.env).names.lookup x = some .free)
def capt (nt : Nat) (ci : List Nat) (σ : St) : St := List.replicate nt none ++ ci.map fun i => (σ[i]?).join
section
variable {X : Cx} {scope : Scope} {cl : List (Str × Addr)} {N' : List Str} {nt : Nat} {ci : List Nat} {pins : List (Addr × Obj)} {σ : St} {H : Hp} {s : Shared}
theorem blk_start (B : BlkOk X scope cl N' nt ci) (I : Inv X pins σ H s) {fp : List Addr} (hf : ∀ b ∈ fp, FpOk X pins H b) (ho : ∀ b ∈ fp, ∃ o, s.heap.get? b = some o) {C acc : Addr} {h1 : Heap} {tk : Nat}
    (hacc : acc = s.heap.objs.size) (hC : C = s.heap.objs.size + 1) (k : ∀ b u, s.heap.get? b = some u → h1.get? b = some u) (ns : h1.Ns C fun _ => none) (ha : h1.get? acc = some { cls := .type "list", data := .seq #[] }) :
    Inv (blk X N' scope cl s H C fp) [] (capt nt ci σ) (upd H acc (.lst [])) { s with heap := h1, toks := tk } := by
  have hn : H acc = none := I.hok.fresh (by rw [hacc]; exact Nat.le_refl _)
  have hnC : H C = none := I.hok.fresh (by rw [hC]; exact Nat.le_succ _)
  have cellLt : ∀ x c, cl.lookup x = some c → c < s.heap.objs.size := fun x c e => by
    obtain ⟨v, q⟩ := I.cell x c (B.sub x c e)
    exact q.lt
  refine ⟨⟨I.ok.mod, B.kind, I.ok.glob, I.ok.blt, ?_, fun x y c e1 e2 => I.ok.inj x y c (B.sub _ _ e1) (B.sub _ _ e2), fun x hx => B.has x hx, fun x c (z : false = true) => Bool.noConfusion z, fun hc => I.ok.hd hc, I.ok.frames, .inl rfl, fun b hb => ?_, I.bs, ?_, fun b o e hb => ?_, fun b hb => ?_, I.stack, fun b hb => I.stkFree b hb⟩,
    rfl, I.bare, Un.laid (a := acc) (o := .lst []) k (by rw [hacc]; exact Nat.le_refl _) hn, ⟨_, ns, fun i x v e1 e2 e3 => ?_⟩, fun x c e => ?_, ?_, fun x c e => ?_, fun p hp => absurd (show p ∈ ([] : List (Addr × Obj)) from hp) (by simp), I.hok.laid k (by rw [hacc]; exact Nat.le_refl _) ⟨Nat.zero_le _, [], 0, .nil, ha⟩, ?_⟩
  · show s.heap.objs.size ≤ C
    rw [hC]; exact Nat.le_succ _
  · obtain ⟨f0, f1, f2, f3, f4, f5⟩ := hf b hb
    obtain ⟨o, e⟩ := ho b hb
    refine ⟨?_, fun x c e' => f4 x c (B.sub x c e')⟩
    show b ≠ C
    rw [hC]
    exact Nat.ne_of_lt (Nat.lt_succ_of_lt (Heap.lt_size e))
  · exact Nat.le_trans I.ok.bsz I.sz
  · obtain ⟨f0, f1, f2, f3, f4, f5⟩ := hf b hb
    rcases f3 with z | z
    · exact I.ok.noex b o e z
    · exact absurd (Nat.lt_of_lt_of_le (Heap.lt_size e) (Nat.le_trans I.ok.bsz z)) (Nat.lt_irrefl _)
  · intro z
    obtain ⟨f0, f1, f2, f3, f4, f5⟩ := hf b hb
    rcases List.mem_cons.mp (I.stkSub b z) with y | y
    · exact f1 y
    · exact f2 y
  · -- the names
    obtain ⟨m, hm, hl⟩ := I.loc
    unfold capt at e2
    by_cases hi : i < nt
    · rw [List.getElem?_append_left (by simpa using hi), List.getElem?_replicate] at e2
      split at e2 <;> cases e2
    · rw [List.getElem?_append_right (by simpa using hi), List.length_replicate, List.getElem?_map] at e2
      cases q : ci[i - nt]? with
      | none => rw [q] at e2; cases e2
      | some j =>
        rw [q] at e2
        have e2' : (σ[j]?).join = some v := Option.some.inj e2
        obtain ⟨y, a1, a2, a3, a4⟩ := B.cap _ j q
        have ei : nt + (i - nt) = i := by omega
        rw [ei, show N'[i]? = some x from e1] at a1
        cases a1
        have e2'' : σ[j]? = some (some v) := by
          cases z : σ[j]? with
          | none => rw [z] at e2'; cases e2'
          | some w => rw [z] at e2'; exact congrArg some e2'
        obtain ⟨u, r, l⟩ := hl j x v a2 e2'' (.inr (.inl a3))
        refine ⟨u, r, .inr ⟨a4, ?_⟩⟩
        rcases l with ⟨kk, _⟩ | ⟨_, c, c1, c2⟩
        · have kk' : X.env.scope.names.lookup x = some .local := kk
          rw [a3] at kk'; cases kk'
        · obtain ⟨c', ec⟩ := B.has x a4
          have := B.sub x c' ec
          rw [c1] at this; cases this
          exact ⟨c, ec, let ⟨o, e, d⟩ := c2; ⟨o, k _ _ e, d⟩⟩
  · obtain ⟨v, q⟩ := I.cell x c (B.sub x c e)
    exact ⟨v, let ⟨o, e, d⟩ := q; ⟨o, k _ _ e, d⟩⟩
  · show upd H acc (.lst []) C = none
    rw [upd_ne (by rw [hacc, hC]; exact Nat.succ_ne_self _)]; exact hnC
  · have lt := cellLt x c e
    rw [upd_ne (by rw [hacc]; exact Nat.ne_of_lt lt)]
    exact I.freeC x c (B.sub x c e)
  · show (capt nt ci σ).length = N'.length
    unfold capt
    rw [List.length_append, List.length_replicate, List.length_map, B.len]
def Wk (σ σ' : St) : Prop := σ'.length = σ.length ∧ ∀ (i : Nat) v, σ[i]? = some (some v) → σ'[i]? = some (some v)
theorem wk_set {σ : St} {i : Nat} {x : V} (h : σ[i]? = some none) : Wk σ (σ.set i (some x)) := by
  refine ⟨by simp, fun j v e => ?_⟩
  by_cases hj : j = i
  · subst hj; rw [h] at e; cases e
  · rw [List.getElem?_set_ne (Ne.symm hj)]; exact e
theorem wk_head {x : V} {r : St} : Wk (none :: r) (some x :: r) := wk_set (σ := none :: r) (i := 0) rfl
theorem Wk.trans {σ1 σ2 σ3 : St} (a : Wk σ1 σ2) (b : Wk σ2 σ3) : Wk σ1 σ3 := ⟨b.1.trans a.1, fun i v e => b.2 i v (a.2 i v e)⟩
theorem Wk.refl (σ : St) : Wk σ σ := ⟨rfl, fun _ _ e => e⟩
def lcW (K : PySem.W.Frag) (σ0 : St) (J : It) (acc : Addr) (g : TG) (te : TE) (Q : VK) (W : Nat → Nat → List V → Hp → Prop) : Prop :=
  ∀ i m ys H2, W i m ys H2 → H2 acc = some (.lst ys) ∧ ys.length < sizeLine ∧ ((J.stop i H2 ∧ Q (.ref acc) H2) ∨
    (J.go i H2 ∧ ∀ x H3, J.yld i H2 x H3 → g x σ0 H3 fun σ4 H4 => Wk σ0 σ4 ∧ te σ4 H4 fun y H5 => H5 acc = some (.lst ys) ∧ ∃ m', m' < m ∧ W (i + 1) m' (ys ++ [y]) (upd H5 acc (.lst (ys ++ [y])))))
def tLC (K : PySem.W.Frag) (nt : Nat) (ci : List Nat) (wi : TI) (g : TG) (te : TE) : TE := fun σ H Q => wi σ H fun J H1 => ∀ acc, H1 acc = none → ∃ W : Nat → Nat → List V → Hp → Prop, (∃ m, W 0 m [] (upd H1 acc (.lst []))) ∧ lcW K (capt nt ci σ) J acc g te Q W
theorem compTurn_one (elt target iter : Expr) (scope : Scope) (pos : Pos) (it acc : Value) (env : Env) :
    compTurn (.ListComp elt [⟨target, iter, [], 0⟩] scope pos) 0 it acc env = (standAt iter.pos >>= fun _ => pyNext it >>= fun r => match r with
      | none => pure (.done .next)
      | some v => letOwnedTupleGo target it v >>= fun _ => assign target env v >>= fun _ =>
        (eval elt env >>= fun x => call (.builtin "list.append") [acc, x] >>= fun _ => pure ()) >>= fun _ =>
          again (.compLoop (.ListComp elt [⟨target, iter, [], 0⟩] scope pos) 0 it acc env)) := by rfl
theorem noE {M : Model} {A : Around} {env : Env} {E : Value → Shared → Prop} : ∀ e s, (fun (_ : Value) (_ : Shared) => False) e s → notedBy M A env E e s := fun _ _ z => z.elim
theorem lc_loop {tg elt iter : Expr} {pos : Pos} {g : TG} {te : TE} {it acc C : Addr} {fp : List Addr} {tn : Nat → Heap → Prop} {J : It} {Q : VK} {s0 : Shared} {H0 : Hp} {σ0 : St} {R : Result → Shared → Prop} {s : Shared} {i0 m0 : Nat} {ys0 : List V} {H1 : Hp} {W : Nat → Nat → List V → Hp → Prop}
    (hc : X.calm = true) (hg : PG (blk X N' scope cl s0 H0 C fp) tg g) (he : PE (blk X N' scope cl s0 H0 C fp) elt te) (T : Turn X.prog X.w X.K tg J fp it tn)
    (hfp : ∀ (H' : Hp), (∀ b ∈ fp, H' b = none) → ∀ b ∈ fp, FpOk (blk X N' scope cl s0 H0 C fp) [] H' b) (hW : lcW X.K σ0 J acc g te Q W)
    (hR : ∀ s' H', Inv (blk X N' scope cl s0 H0 C fp) [] σ0 H' s' → Q (.ref acc) H' → R (.ok .next) s')
    (I : Inv (blk X N' scope cl s0 H0 C fp) [] σ0 H1 s) (hst : tn i0 s.heap) (hfr : ∀ b ∈ fp, H1 b = none) (w : W i0 m0 ys0 H1) :
    codeAny (model X.prog X.w) X.A (.compLoop (.ListComp elt [⟨tg, iter, [], 0⟩] scope pos) 0 (.ref it) (.ref acc) (compEnvC scope cl C X.env)) R s := by
  refine codeAny_loop rfl (fun n s => ∃ i ys H2, Inv (blk X N' scope cl s0 H0 C fp) [] σ0 H2 s ∧ tn i s.heap ∧ (∀ b ∈ fp, H2 b = none) ∧ W i n ys H2) (fun n s hI => ?_) m0 ⟨i0, ys0, H1, I, hst, hfr, w⟩
  obtain ⟨i, ys, H2, I2, st2, fr2, w2⟩ := hI
  show wpAny _ _ ((compTurn (.ListComp elt [⟨tg, iter, [], 0⟩] scope pos) 0 (.ref it) (.ref acc) (compEnvC scope cl C X.env)).onRaise (fun x => do noteFrame x (compEnvC scope cl C X.env); theTreesLotGoes x)) _ _ s
  refine wpAny_noted ?_
  rw [compTurn_one]
  refine wpAny_bind (wpAny_standAt (wpAny_bind ?_))
  obtain ⟨hacc, hlen, hcase⟩ := hW i n ys H2 w2
  rcases hcase with ⟨stop, q⟩ | ⟨go, step⟩
  · refine thn (T.done (blk X N' scope cl s0 H0 C fp) rfl rfl rfl hc i [] s σ0 H2 _ I2 (hfp H2 fr2) st2 stop) fun r s1 ⟨hr, I3⟩ => ?_
    subst hr
    exact wpAny_pure (hR s1 H2 I3 q)
  · refine thn (T.item (blk X N' scope cl s0 H0 C fp) rfl rfl rfl hc i [] s σ0 H2 _ I2 (hfp H2 fr2) st2 go) fun r s1 ⟨u, hr, h4⟩ => ?_
    subst hr
    refine wpAny_bind (thn h4 fun _ s5 ⟨x, H5, I5, r5, y5, st5, fr5⟩ => ?_)
    have I5' := I5.pinned (hfp H5 fr5) (T.obj _ _ st5)
    refine wpAny_bind (wpAny_mono (hg _ s5 σ0 H5 x u _ I5' r5 (step x H5 y5)) (fun _ s6 ⟨σ6, H6, I6, hw6, q6⟩ => ?_) noE)
    refine wpAny_bind (wpAny_bind (wpAny_mono (he _ s6 σ6 H6 _ I6 q6) (fun v s7 ⟨y, H7, I7, r7, ha7, m', hm', w7⟩ => ?_) noE))
    refine wpAny_bind (wpAny_mono (mt_append (X := blk X N' scope cl s0 H0 C fp) _ s7 σ6 H7 (.ref acc) [y] (.ref acc) [v] (fun _ H8 => H8 = upd H7 acc (.lst (ys ++ [y]))) I7 rfl (.cons r7 .nil) ⟨acc, ys, y, rfl, rfl, ha7, hlen, rfl⟩) (fun _ s8 ⟨_, H8, I8, _, e8⟩ => ?_) noE)
    subst e8
    refine wpAny_pure (wpAny_pure ⟨rfl, m', hm', i + 1, ys ++ [y], _, ?_, ?_, fun b hb => ?_, w7⟩)
    · exact I8.unpinned.weak hw6.1.symm hw6.2
    · exact T.keep _ _ _ st5 fun b hb o e => (I8.pin (b, o) (List.mem_append_right _ (List.mem_append_right _ (mem_pinsAt hb e)))).1
    · obtain ⟨o, e, d⟩ := T.obj _ _ st5 b hb
      exact (I8.pin (b, o) (List.mem_append_right _ (List.mem_append_right _ (mem_pinsAt hb e)))).2.1
theorem lc_core {tg elt iter : Expr} {pos pos' : Pos} {wi : TI} {g : TG} {te : TE} {use : Option (Value → Sem Unit)} {Q : VK} {Qf : Value → Shared → Prop} (B : BlkOk X scope cl N' nt ci) (hc : X.calm = true) (hi : PI X tg iter wi)
    (hg : ∀ s H C ex, PG (blk X N' scope cl s H C ex) tg g) (he : ∀ s H C ex, PE (blk X N' scope cl s H C ex) elt te) (hs : ∀ x, foldedSetIterable iter X.env x = pure x) (I : Inv X pins σ H s) (h : tLC X.K nt ci wi g te σ H Q)
    (fin : ∀ (acc C : Addr) (s' : Shared) (H' : Hp), Inv X pins σ H' s' → Q (.ref acc) H' → (∃ m, s'.heap.Ns C m) → FpOk X pins H' C → (∃ o, s'.heap.get? C = some o ∧ ∀ v, o.data ≠ .cell v) → compPost (model X.prog X.w) X.A X.xe use Qf (.ref acc) C (.ok .next) s') :
    wpAny (model X.prog X.w) X.A (comprehension (.ListComp elt [⟨tg, iter, [], 0⟩] scope pos) scope X.env pos' (newList []) false (eval iter X.env) use) Qf X.xe s := by
  refine wpAny_comprehension_free (use := use) rfl hs B.clos B.kind B.names (thn (hi pins s σ H _ I h) fun v s1 h1 => thn h1 fun itv s2 h2 => ?_)
  obtain ⟨it, fp, tn, J, H2, e, I2, T, st2, f2, q2⟩ := h2
  subst e
  have hacc : H2 s2.heap.objs.size = none := I2.hok.fresh (Nat.le_refl _)
  obtain ⟨W, ⟨m0, w0⟩, hW⟩ := q2 s2.heap.objs.size hacc
  refine wpAny_newObj_type (wpAny_newFunctionEnv B.cell (by intro y hy; simp at hy) (fun h₁ hns₁ hsb₁ => ?_) B.kind)
  dsimp only at hns₁ hsb₁ ⊢
  have hCs : (s2.heap.push { cls := .type "list", dict := none, data := .seq ([] : List Value).toArray }).objs.size = s2.heap.objs.size + 1 := Heap.size_push ..
  have k1 : ∀ b u, s2.heap.get? b = some u → h₁.get? b = some u := fun b u e => hsb₁.extBut b u (by rw [hCs]; exact Nat.ne_of_lt (Nat.lt_succ_of_lt (Heap.lt_size e))) (Heap.get?_push_of_some _ (Heap.get?_push_of_some _ e))
  have a1 : h₁.get? s2.heap.objs.size = some { cls := .type "list", data := .seq #[] } := hsb₁.extBut _ _ (by rw [hCs]; exact Nat.ne_of_lt (Nat.lt_succ_self _)) (Heap.get?_push_of_some _ (Heap.get?_push_size _ rfl))
  rw [hCs] at hns₁ ⊢
  have I3 := blk_start (tk := s2.toks + ([] : List (Str × Value)).length) B I2 f2 (fun b hb => let ⟨o, e, _⟩ := T.obj _ _ st2 b hb; ⟨o, e⟩) rfl rfl k1 (by simpa using hns₁) a1
  have hfpB : ∀ (H' : Hp), (∀ b ∈ fp, H' b = none) → ∀ b ∈ fp, FpOk (blk X N' scope cl s2 H2 (s2.heap.objs.size + 1) fp) [] H' b := fun H' hn b hb => by
    obtain ⟨f0, f1, f3, f4, f5, f6⟩ := f2 b hb
    obtain ⟨o, e, _⟩ := T.obj _ _ st2 b hb
    refine ⟨hn b hb, ?_, fun z => ?_, .inl hb, fun x c e' => f5 x c (B.sub x c e'), fun p hp => absurd (show p ∈ ([] : List (Addr × Obj)) from hp) (by simp)⟩
    · exact Nat.ne_of_lt (Nat.lt_succ_of_lt (Heap.lt_size e))
    · rcases List.mem_cons.mp (I2.stkSub b z) with y | y
      · exact f1 y
      · exact f3 y
  have hfr3 : ∀ b ∈ fp, upd H2 s2.heap.objs.size (.lst []) b = none := fun b hb => by
    obtain ⟨o, e, _⟩ := T.obj _ _ st2 b hb
    rw [upd_ne (Nat.ne_of_lt (Heap.lt_size e))]; exact (f2 b hb).1
  have st3 : tn 0 h₁ := T.keep _ _ _ st2 fun b _ o e => k1 b o e
  have loop : codeAny (model X.prog X.w) X.A (.compLoop (.ListComp elt [⟨tg, iter, [], 0⟩] scope pos) 0 (.ref it) (.ref s2.heap.objs.size) (compEnvC scope cl (s2.heap.objs.size + 1) X.env))
      (compPost (model X.prog X.w) X.A X.xe use Qf (.ref s2.heap.objs.size) (s2.heap.objs.size + 1)) { s2 with heap := h₁, toks := s2.toks + ([] : List (Str × Value)).length } := by
    refine lc_loop (Q := Q) hc (hg _ _ _ _) (he _ _ _ _) T hfpB hW (fun s' H' I' q => ?_) I3 st3 hfr3 w0
    have un := I'.base
    have ns := I'.loc
    have fC : H' (s2.heap.objs.size + 1) = none := I'.free
    have I4 : Inv X pins σ H' s' := I2.call' I'.os un I'.hok I'.bare fun b hb => by
      obtain ⟨f0, f1, f3, f4, f5, f6⟩ := f2 b hb
      exact ⟨f4, f1, f5, f6⟩
    obtain ⟨m, hm, _⟩ := ns
    have hm' : s'.heap.Ns (s2.heap.objs.size + 1) m := hm
    refine fin _ _ s' H' I4 q ⟨m, hm'⟩ (I2.fpOk (Nat.le_succ _) fC) ?_
    obtain ⟨o, es, ep, e, d, _⟩ := hm'
    exact ⟨o, e, fun v z => by rw [d] at z; cases z⟩
  exact codeAny_compStart_list loop (T.self _ _ _ _ _ st3 loop)
theorem pe_lc {tg elt iter : Expr} {pos : Pos} {wi : TI} {g : TG} {te : TE} (B : X.Ok → BlkOk X scope cl N' nt ci) (hc : X.calm = true) (hi : PI X tg iter wi)
    (hg : ∀ s H C ex, PG (blk X N' scope cl s H C ex) tg g) (he : ∀ s H C ex, PE (blk X N' scope cl s H C ex) elt te) (hs : ∀ x, foldedSetIterable iter X.env x = pure x := by intro _; rfl) :
    PE X (.ListComp elt [⟨tg, iter, [], 0⟩] scope pos) (tLC X.K nt ci wi g te) := by
  intro pins s σ H Q I h
  rw [eval_ListComp]
  refine lc_core (B I.ok) hc hi hg he hs I h fun acc C s' H' I' q hm hf ho => ?_
  obtain ⟨m, hm⟩ := hm
  obtain ⟨f0, f1, f2, f3, f4, f5⟩ := hf
  exact ⟨m, hm, fun h' sb => ⟨.ref acc, H', I'.turned (t' := s'.toks) (fun b o hb e => (sb.2 b hb).trans e) f0 f1 f3 f4 f5, rfl, q⟩⟩
theorem ps_setLC {i : Nat} {x : Str} {tg elt iter : Expr} {pos spos pos' : Pos} {wi : TI} {g : TG} {te : TE} (hN : X.N.Nodup) (hi : X.N[i]? = some x) (hx : Loc X.env.scope x) (B : X.Ok → BlkOk X scope cl N' nt ci) (hc : X.calm = true) (hit : PI X tg iter wi)
    (hg : ∀ s H C ex, PG (blk X N' scope cl s H C ex) tg g) (he : ∀ s H C ex, PE (blk X N' scope cl s H C ex) elt te) (hsw : swapsWith (.ListComp elt [⟨tg, iter, [], 0⟩] scope pos) (some (.Name x pos')) spos.line X.env = pure true)
    (hs : ∀ x, foldedSetIterable iter X.env x = pure x := by intro _; rfl) (hf : X.fn x = true ∨ X.env.scope.names.lookup x = some .local := by first | exact .inl rfl | exact .inr rfl | assumption) :
    PS X (.Assign [.Name x pos'] (.ListComp elt [⟨tg, iter, [], 0⟩] scope pos) spos) (tAsg (tLC X.K nt ci wi g te) (gName i)) := by
  intro pins s σ H D I h
  rw [exec_Assign_Name_used _ _ _ _ hsw]
  refine wpAny_bind (wpAny_standAt (wpAny_bind ?_))
  rw [arm_evalThenUse_ListComp]
  refine wpAny_bind (lc_core (B I.ok) hc hit hg he hs I h fun acc C s' H' I' q hm hfC ho => ?_)
  obtain ⟨f0, f1, f2, f3, f4, f5⟩ := hfC
  obtain ⟨m, hm⟩ := hm
  obtain ⟨o, e, d⟩ := ho
  have Ip : Inv X (pins ++ [(C, o)]) σ H' s' := I'.pins_of fun p hp => (List.mem_append.mp hp).elim (fun z => I'.pin p (List.mem_append_right _ z)) fun z => by
    have e' : p = (C, o) := by simpa using z
    subst e'
    exact ⟨e, f0, f1, f2, d⟩
  refine wpAny_assign_Name (store_ok Ip hN hi hx (show RelV (.ref acc) (Value.ref acc) from rfl) (fun s2 I2 => ?_) hf)
  have e2 := (I2.pin (C, o) (List.mem_append_right _ (List.mem_append_right _ (by simp)))).1
  obtain ⟨o', es, ep, h1, h2, h3⟩ := hm
  rw [e] at h1; cases h1
  refine ⟨m, ⟨o, es, ep, e2, h2, h3⟩, fun h' sb => wpAny_pure (wpAny_pure ?_)⟩
  have I3 : Inv X pins (σ.set i (some (.ref acc))) H' s2 := I2.unpinned
  exact ⟨_, H', I3.turned (t' := s2.toks) (fun b o hb e => (sb.2 b hb).trans e) f0 f1 f3 f4 f5, q⟩
end
end L2
set_option Elab.async false
set_option linter.all false
set_option maxRecDepth 100000
set_option maxHeartbeats 2000000
namespace L2
open PySem PySem.Spec PyProof.Rows
def Itz (K : PySem.W.Frag) (a b : Addr) : It :=
  ⟨fun i H => ∃ xs ys x y, SqL K H a xs ∧ SqL K H b ys ∧ xs[i]? = some x ∧ ys[i]? = some y,
   fun i H v H' => ∃ T x y, v = .ref T ∧ H T = none ∧ H' = upd H T (.tup [x, y]) ∧ (∀ xs, SqL K H a xs → xs[i]? = some x) ∧ ∀ ys, SqL K H b ys → ys[i]? = some y,
   fun i H => ∃ xs ys, SqL K H a xs ∧ SqL K H b ys ∧ (xs.length ≤ i ∨ ys.length ≤ i)⟩
def zipSt (z TI TO i1 i2 l1 l2 : Addr) (i : Nat) (h : Heap) : Prop :=
  IsZip h z TI TO .none ∧ IsPair h TI (.ref i1) (.ref i2) ∧ (∃ a b, IsPair h TO a b) ∧ h.IsListIter i1 l1 i ∧ h.IsListIter i2 l2 i
theorem turn_zip {P : Program} {w : World} {K : PySem.W.Frag} {elts : List Expr} {k0 : Nat} {tpos : Pos} (z TI TO i1 i2 l1 l2 : Addr) (D : ZipApart z TI TO i1 i2 l1 l2) :
    Turn P w K (.Tuple elts k0 tpos) (Itz K l1 l2) [z, TI, TO, i1, i2] z (zipSt z TI TO i1 i2 l1 l2) where
  mem := by simp
  obj := fun i h st b hb => by
    obtain ⟨hz, hTI, ⟨a, c, hTO⟩, ⟨o1, e1, c1, d1⟩, ⟨o2, e2, c2, d2⟩⟩ := st
    simp only [List.mem_cons, List.not_mem_nil, or_false] at hb
    rcases hb with rfl | rfl | rfl | rfl | rfl
    · exact ⟨_, hz, fun v q => by cases q⟩
    · exact ⟨_, hTI, fun v q => by cases q⟩
    · exact ⟨_, hTO, fun v q => by cases q⟩
    · exact ⟨o1, e1, fun v q => by rw [d1] at q; cases q⟩
    · exact ⟨o2, e2, fun v q => by rw [d2] at q; cases q⟩
  keep := fun i h h' st k => by
    obtain ⟨hz, hTI, ⟨a, c, hTO⟩, h1, h2⟩ := st
    exact ⟨k z (by simp) _ hz, k TI (by simp) _ hTI, ⟨a, c, k TO (by simp) _ hTO⟩, h1.at fun o e => k i1 (by simp) o e, h2.at fun o e => k i2 (by simp) o e⟩
  item := by
    intro X hP hw hK hc i pins s σ H E I hf st hg
    subst hP hw hK
    obtain ⟨hz, hTI, ⟨a, c, hTO⟩, h1, h2⟩ := st
    obtain ⟨xs, ys, x, y, q1, q2, hx, hy⟩ := hg
    obtain ⟨its1, rv1, p1, _⟩ := I.list q1
    obtain ⟨its2, rv2, p2, _⟩ := I.list q2
    obtain ⟨u1, hu1, ru1⟩ := rv1.get hx
    obtain ⟨u2, hu2, ru2⟩ := rv2.get hy
    refine wpAny_pyNext_zip_item D hz hTI hTO h1 h2 p1.isList p2.isList (x := u1) (y := u2) (by simpa using hu1) (by simpa using hu2) fun h' a1 a2 a3 a4 a5 a6 kk => ?_
    have hT : H s.heap.objs.size = none := I.hok.fresh (Nat.le_refl _)
    have nch : ∀ b u, H b = some u → b ∉ [z, TO, i1, i2] := fun b u e hb => by
      have hb' : b ∈ [z, TI, TO, i1, i2] := by
        simp only [List.mem_cons, List.not_mem_nil, or_false] at hb ⊢
        rcases hb with q | q | q | q
        · exact .inl q
        · exact .inr (.inr (.inl q))
        · exact .inr (.inr (.inr (.inl q)))
        · exact .inr (.inr (.inr (.inr q)))
      rw [(hf b hb').1] at e; cases e
    have kk' : ∀ b o, b ∉ [z, TO, i1, i2] → s.heap.get? b = some o → h'.get? b = some o := fun b o hb e => by
      simp only [List.mem_cons, List.not_mem_nil, or_false, not_or] at hb
      exact kk b o hb.1 hb.2.1 hb.2.2.1 hb.2.2.2 e
    have ltT : ∀ b o, s.heap.get? b = some o → b ≠ s.heap.objs.size := fun b o e => Nat.ne_of_lt (Heap.lt_size e)
    have hokT : HOk X.prog X.w (upd H s.heap.objs.size (.tup [x, y])) h' := fun b ob e => by
      by_cases hb : b = s.heap.objs.size
      · subst hb
        rw [upd_same] at e
        cases e
        exact ⟨by show 2 ≤ sizeLine; decide, [u1, u2], .cons ru1 (.cons ru2 .nil), _, a5, rfl, _, rfl⟩
      · rw [upd_ne hb] at e
        refine (I.hok b ob e).stay (fun c v hcv q => kk' c v ?_ q) (fun c q => by rw [upd_ne (ne_of_none q hT)]; exact q) fun c xs q => by rw [upd_ne (ne_of_none q hT)]; exact q
        rcases hcv with rfl | hcv
        · exact nch _ _ e
        · exact nch _ _ hcv
    have I1 : Inv X pins σ (upd H s.heap.objs.size (.tup [x, y])) { s with heap := h' } := by
      refine I.step (g' := s.gens) (d' := s.drawn) (t' := s.toks) (ch := [z, TO, i1, i2]) (fun b hb => ?_) (fun b o _ _ hb e _ => kk' b o hb e) (fun b o _ _ hb e _ => ⟨o.slots, kk' b o hb e⟩) (fun b o _ e n => by rw [upd_ne (ltT b o e)]; exact n) (fun b o hb e => ⟨o, kk' b o hb e⟩)
        (fun b xs q => by rw [upd_ne (ne_of_none q hT)]; exact q) (fun b o u q => by rw [upd_ne (ne_of_none q hT)]; exact q) (fun b ps q => ⟨#[], by rw [upd_ne (ne_of_none q hT), q]; simp⟩) (fun m hm => ?_) hokT I.bare
      · have hb' : b ∈ [z, TI, TO, i1, i2] := by
          simp only [List.mem_cons, List.not_mem_nil, or_false] at hb ⊢
          rcases hb with q | q | q | q
          · exact .inl q
          · exact .inr (.inr (.inl q))
          · exact .inr (.inr (.inr (.inl q)))
          · exact .inr (.inr (.inr (.inr q)))
        obtain ⟨f0, f1, f2, f3, f4, f5⟩ := hf b hb'
        exact ⟨f3, f1, f4, f5⟩
      · obtain ⟨o, es, ep, ho, r⟩ := hm
        refine ⟨o, es, ep, kk' _ o ?_ ho, r⟩
        simp only [List.mem_cons, List.not_mem_nil, or_false, not_or]
        exact ⟨((hf z (by simp)).2.1).symm, ((hf TO (by simp)).2.1).symm, ((hf i1 (by simp)).2.1).symm, ((hf i2 (by simp)).2.1).symm⟩
    refine ⟨_, rfl, wpAny_letOwnedTupleGo_zip a1 fun h'' hz'' sb => ?_⟩
    obtain ⟨f0, f1, f2, f3, f4, f5⟩ := hf z (by simp)
    have ltz : ∀ b ∈ [z, TI, TO, i1, i2], b ≠ s.heap.objs.size := fun b hb => by
      simp only [List.mem_cons, List.not_mem_nil, or_false] at hb
      obtain ⟨o1, e1, _⟩ := h1
      obtain ⟨o2, e2, _⟩ := h2
      rcases hb with rfl | rfl | rfl | rfl | rfl
      · exact ltT _ _ hz
      · exact ltT _ _ hTI
      · exact ltT _ _ hTO
      · exact ltT _ _ e1
      · exact ltT _ _ e2
    have fn : ∀ b ∈ [z, TI, TO, i1, i2], upd H s.heap.objs.size (.tup [x, y]) b = none := fun b hb => by rw [upd_ne (ltz b hb)]; exact (hf b hb).1
    have I2 : Inv X pins σ (upd H s.heap.objs.size (.tup [x, y])) { s with heap := h'' } := I1.turned (t' := s.toks) (fun b o hb e => (sb.2 b hb).trans e) (fn z (by simp)) f1 f3 f4 f5
    refine ⟨.ref s.heap.objs.size, _, I2, rfl, ⟨_, x, y, rfl, hT, rfl, fun ys hy' => by rw [I.list_inj hy' q1]; exact hx, fun ys hy' => by rw [I.list_inj hy' q2]; exact hy⟩, ⟨hz'', ?_, ⟨u1, u2, ?_⟩, ?_, ?_⟩, fn⟩
    · exact (sb.2 TI D.TIz).trans (kk' TI _ (by simp only [List.mem_cons, List.not_mem_nil, or_false, not_or]; exact ⟨D.TIz, D.TITO, D.TIi1, D.TIi2⟩) hTI)
    · exact (sb.2 TO D.TOz).trans a2
    · exact a3.extBut sb.extBut D.i1z
    · exact a4.extBut sb.extBut D.i2z
  done := by
    intro X hP hw hK hc i pins s σ H E I hf st hg
    subst hP hw hK
    obtain ⟨hz, hTI, ⟨a, c, hTO⟩, h1, h2⟩ := st
    obtain ⟨xs, ys, q1, q2, hend⟩ := hg
    obtain ⟨its1, rv1, p1, _⟩ := I.list q1
    obtain ⟨its2, rv2, p2, _⟩ := I.list q2
    have e1 := rv1.length
    have e2 := rv2.length
    refine wpAny_pyNext_zip_end (I.ok.hd hc) D hz hTI hTO h1 h2 p1.isList p2.isList ?_ fun h' kk => ⟨rfl, ?_⟩
    · rcases hend with q | q
      · exact .inl (by simp; omega)
      · exact .inr (by simp; omega)
    · have nch : ∀ b u, H b = some u → b ∉ [z, TO, i1, i2] := fun b u e hb => by
        have hb' : b ∈ [z, TI, TO, i1, i2] := by
          simp only [List.mem_cons, List.not_mem_nil, or_false] at hb ⊢
          rcases hb with q | q | q | q
          · exact .inl q
          · exact .inr (.inr (.inl q))
          · exact .inr (.inr (.inr (.inl q)))
          · exact .inr (.inr (.inr (.inr q)))
        rw [(hf b hb').1] at e; cases e
      have kk' : ∀ b o, b ∉ [z, TO, i1, i2] → s.heap.get? b = some o → h'.get? b = some o := fun b o hb e => by
        simp only [List.mem_cons, List.not_mem_nil, or_false, not_or] at hb
        exact kk b o hb.1 hb.2.1 hb.2.2.1 hb.2.2.2 e
      have hok' : HOk X.prog X.w H h' := fun b ob e => by
        refine (I.hok b ob e).stay (fun c v hcv q => kk' c v ?_ q) (fun c q => q) fun c xs q => q
        rcases hcv with rfl | hcv
        · exact nch _ _ e
        · exact nch _ _ hcv
      refine I.step (g' := s.gens) (d' := s.drawn) (t' := s.toks) (ch := [z, TO, i1, i2]) (fun b hb => ?_) (fun b o _ _ hb e _ => kk' b o hb e) (fun b o _ _ hb e _ => ⟨o.slots, kk' b o hb e⟩) (fun b o _ e n => n) (fun b o _ e => ?_)
        (fun b xs q => q) (fun b o u q => q) (fun b ps q => ⟨#[], by rw [q]; simp⟩) (fun m hm => ?_) hok' I.bare
      · have hb' : b ∈ [z, TI, TO, i1, i2] := by
          simp only [List.mem_cons, List.not_mem_nil, or_false] at hb ⊢
          rcases hb with q | q | q | q
          · exact .inl q
          · exact .inr (.inr (.inl q))
          · exact .inr (.inr (.inr (.inl q)))
          · exact .inr (.inr (.inr (.inr q)))
        obtain ⟨f0, f1, f2, f3, f4, f5⟩ := hf b hb'
        exact ⟨f3, f1, f4, f5⟩
      · rename_i hb
        exact ⟨o, kk' b o hb e⟩
      · obtain ⟨o, es, ep, ho, r⟩ := hm
        refine ⟨o, es, ep, kk' _ o ?_ ho, r⟩
        simp only [List.mem_cons, List.not_mem_nil, or_false, not_or]
        exact ⟨((hf z (by simp)).2.1).symm, ((hf TO (by simp)).2.1).symm, ((hf i1 (by simp)).2.1).symm, ((hf i2 (by simp)).2.1).symm⟩
  self := fun _ _ _ _ _ st h => wpAny_pyIter_zip st.1 h
section
variable {X : Cx}
def iZip (K : PySem.W.Frag) (ta : TA) : TI := fun σ H R => ta σ H fun vs H1 => ∃ a b, vs = [.ref a, .ref b] ∧ (∃ xs, SqL K H1 a xs) ∧ (∃ ys, SqL K H1 b ys) ∧ R (Itz K a b) H1
theorem pi_zip {a b : Expr} {ta : TA} {p pos : Pos} {elts : List Expr} {k0 : Nat} {tpos : Pos} (hg : Gl X "zip") (hm : X.mg "zip" = none) (ha : PA X [a, b] ta) (hs : starEach [a, b] X.env = [(false, eval a X.env), (false, eval b X.env)] := by rfl) (hs2 : starEach [b] X.env = [(false, eval b X.env)] := by rfl) :
    PI X (.Tuple elts k0 tpos) (.Call (.Name "zip" p) [a, b] [] pos) (iZip X.K ta) := by
  intro pins s σ H R I h
  refine Call_ (ld_blt I hg hm (by first | exact PySem.boot_zip | rfl) (PyProof.Rows.callWith_type1 (thn (ha pos pins s σ H _ I h) fun us s1 ⟨vs, H1, I1, r1, q1⟩ => ?_) (by rw [hs, hs2]) (by rw [hs2]; rfl)))
  obtain ⟨l1, l2, e, ⟨xs, q1⟩, ⟨ys, q2⟩, q⟩ := q1
  subst e
  obtain ⟨u1, u2, rfl, ru1, ru2⟩ := vals2 r1
  cases ru1
  cases ru2
  obtain ⟨its1, rv1, p1, _⟩ := I1.list q1
  obtain ⟨its2, rv2, p2, _⟩ := I1.list q2
  have a1 : l1 < s1.heap.objs.size := by obtain ⟨_, e, _⟩ := p1.isList; exact Heap.lt_size e
  have a2 : l2 < s1.heap.objs.size := by obtain ⟨_, e, _⟩ := p2.isList; exact Heap.lt_size e
  refine call_zip_2 p1.isList p2.isList fun h' hz hTI hTO hi1 hi2 _ hk => wpAny_pyIter_zip hz ?_
  have I2 : Inv X pins σ H1 { s1 with heap := h' } := I1.kept (t' := s1.toks) hk
  refine ⟨_, _, _, _, H1, rfl, I2, turn_zip _ _ _ _ _ l1 l2 (zipApart_new a1 a2), ⟨hz, hTI, ⟨_, _, hTO⟩, hi1, hi2⟩, fun b hb => ?_, q⟩
  have hb' : s1.heap.objs.size ≤ b := by
    simp only [List.mem_cons, List.not_mem_nil, or_false] at hb
    rcases hb with rfl | rfl | rfl | rfl | rfl <;> omega
  exact I1.fpOk hb' (I1.hok.fresh hb')
theorem for_zip {K : PySem.W.Frag} {a b : Addr} {xs ys : List V} {g : TG} {tb : TS} {D : Ends} {σ : St} {H : Hp} (Pv : Nat → St → Hp → Prop) (hxy : xs.length = ys.length) (h0 : Pv 0 σ H) (hl : ∀ i σ H, i ≤ xs.length → Pv i σ H → SqL K H a xs ∧ SqL K H b ys)
    (hs : ∀ i x y σ H T, xs[i]? = some x → ys[i]? = some y → H T = none → Pv i σ H → g (.ref T) σ (upd H T (.tup [x, y])) fun σ2 H2 => tb { D with nx := Pv (i + 1), ct := Pv (i + 1), bk := D.nx } σ2 H2) (hd : ∀ σ H, Pv xs.length σ H → D.nx σ H) :
    ∃ W : Nat → Nat → St → Hp → Prop, (∃ m, W 0 m σ H) ∧ ∀ i m σ H, W i m σ H →
      ((Itz K a b).stop i H ∧ D.nx σ H) ∨ ((Itz K a b).go i H ∧ ∃ N : St → Hp → Prop, (∀ σ' H', N σ' H' → ∃ m', m' < m ∧ W (i + 1) m' σ' H') ∧ ∀ x H', (Itz K a b).yld i H x H' → g x σ H' fun σ2 H2 => tb { D with nx := N, ct := N, bk := D.nx } σ2 H2) := by
  refine ⟨fun i m σ H => m = xs.length - i ∧ i ≤ xs.length ∧ Pv i σ H, ⟨xs.length, by simp, Nat.zero_le _, h0⟩, ?_⟩
  rintro i m σ H ⟨rfl, hi, p⟩
  obtain ⟨q1, q2⟩ := hl i σ H hi p
  by_cases hlt : i < xs.length
  · refine .inr ⟨⟨xs, ys, xs[i], ys[i], q1, q2, by simp [hlt], by simp [hxy ▸ hlt]⟩, Pv (i + 1), fun σ' H' p' => ⟨xs.length - (i + 1), by omega, rfl, hlt, p'⟩, fun v H' z => ?_⟩
    obtain ⟨T, x, y, rfl, hT, rfl, z1, z2⟩ := z
    exact hs i x y σ H T (z1 xs q1) (z2 ys q2) hT p
  · have e : i = xs.length := by omega
    subst e
    exact .inl ⟨⟨xs, ys, q1, q2, .inl (Nat.le_refl _)⟩, hd σ H p⟩
end
end L2
set_option Elab.async false
set_option linter.all false
set_option maxRecDepth 100000
set_option maxHeartbeats 2000000
namespace PySem
open Sem (wp)
namespace F
end F
section
variable {prog : Program} {w : World} {A : Around} {E : Value → Shared → Prop} {s : Shared}
end
end PySem
namespace L2
open PySem PySem.Spec PyProof.Rows
section
variable {X : Cx}
def rRevd (K : PySem.W.Frag) : List V → Hp → VK → Prop := fun vs H Q => ∃ a xs, vs = [.ref a] ∧ SqL K H a xs ∧ xs.length ≤ 8000000 ∧ ∀ p, H p = none → Q (.ref p) (upd H p (.lst xs.reverse))
end
end L2
set_option Elab.async false
set_option linter.all false
set_option maxRecDepth 100000
set_option maxHeartbeats 2000000
namespace L2
open PySem PySem.Spec PyProof.Rows
structure KDict (K : PySem.W.Frag) (w : World) (a : Addr) (kvs : List (Str × V)) : Prop where
  ex : ∃ (o : Obj) (es : Array DictEntry) (ep : Nat), K.lookup a = some o ∧ o.ExactDict ∧ o.data = .dict es ep ∧ Paired (fun (p : Str × V) (e : DictEntry) => (∃ tk, e.key = .str p.1 tk) ∧ e.hash = PyData.keyHash w.params p.1 ∧ RelV p.2 e.val) kvs es.toList
  nd : (kvs.map (·.1)).Nodup
  ns : (a == sysModules) = false
def kvK (kvs : List (Str × V)) : List (Key × V) := kvs.map fun p => (Sum.inr p.1, p.2)
section
variable {X : Cx} {pins : List (Addr × Obj)} {σ : St} {H : Hp} {s : Shared} {a : Addr} {kvs : List (Str × V)}
theorem kd_pairs {P : Program} {w : World} : ∀ {kvs : List (Str × V)} {es : List DictEntry}, Paired (fun (p : Str × V) (e : DictEntry) => (∃ tk, e.key = .str p.1 tk) ∧ e.hash = PyData.keyHash w.params p.1 ∧ RelV p.2 e.val) kvs es →
    (∀ e ∈ es, ∃ k, (mixKind P w).is k e.key = true ∧ e.hash = (mixKind P w).hash k) ∧ Pairs (mixKind P w) es (List.zip (kvs.map fun p => (Sum.inr p.1 : Key)) (es.map (·.val))) ∧ KV (kvK kvs) (List.zip (kvs.map fun p => (Sum.inr p.1 : Key)) (es.map (·.val)))
  | [], _, r => by cases r; exact ⟨(fun _ h => (nomatch h)), .nil, .nil⟩
  | p :: kvs, _, r => by
    cases r with
    | @cons _ e _ es h t =>
      obtain ⟨⟨tk, h1⟩, h2, h3⟩ := h
      obtain ⟨q1, q2, q3⟩ := kd_pairs (P := P) t
      have hi : (mixKind P w).is (Sum.inr p.1) e.key = true := by rw [h1]; exact mixKind_str P w p.1 tk
      refine ⟨fun e' he => ?_, .cons hi rfl q2, .cons ⟨rfl, h3⟩ q3⟩
      rcases List.mem_cons.mp he with rfl | he
      · exact ⟨Sum.inr p.1, hi, h2⟩
      · exact q1 e' he
theorem KDict.of (D : KDict X.K X.w a kvs) (I : Inv X pins σ H s) : ∃ vs, KV (kvK kvs) vs ∧ s.heap.DictOf (mixKind X.prog X.w) a vs := by
  obtain ⟨o, es, ep, lk, ex, d, pr⟩ := D.ex
  obtain ⟨q1, q2, q3⟩ := kd_pairs (P := X.prog) pr
  refine ⟨_, q3, o, es, ep, I.kIn a o lk, ex, d, fun e he => q1 e (by simpa using he), q2, ?_⟩
  have e : (List.zip (kvs.map fun p => (Sum.inr p.1 : Key)) (es.toList.map (·.val))).map (·.1) = kvs.map fun p => (Sum.inr p.1 : Key) := by
    rw [List.map_fst_zip]
    have := Paired.length pr
    simp only [List.length_map]; omega
  rw [e]
  have inj : ∀ l : List (Str × V), (l.map (·.1)).Nodup → (l.map fun p => (Sum.inr p.1 : Key)).Nodup := by
    intro l
    induction l with
    | nil => intro _; exact List.nodup_nil
    | cons p r ih =>
      intro h
      rw [List.map_cons, List.nodup_cons] at h
      rw [List.map_cons, List.nodup_cons]
      refine ⟨fun m => h.1 ?_, ih h.2⟩
      obtain ⟨q, hq, eq⟩ := List.mem_map.mp m
      exact List.mem_map.mpr ⟨q, hq, Sum.inr.inj eq⟩
  exact inj kvs D.nd
def tKD (kvs : List (Str × V)) (ti : TE) : TE := fun σ H Q => ti σ H fun y H1 => ∃ x v, y = .str x ∧ kvs.lookup x = some v ∧ Q v H1
def tKNotIn (kvs : List (Str × V)) (ti : TE) : TE := fun σ H Q => ti σ H fun y H1 => ∃ x, y = .str x ∧ Q (.bl (!(kvs.lookup x).isSome)) H1
end
end L2
set_option Elab.async false
set_option linter.all false
set_option maxRecDepth 100000
set_option maxHeartbeats 2000000
namespace L2
open PySem PySem.Spec PyProof.Rows
section
variable {X : Cx} {scope : Scope} {N' : List Str}
theorem relabel_nofree {scope : Scope} {env : Env} (h : ∀ y ∈ scope.names, y.2 ≠ .free) : (relabel scope env).names = scope.names := by
  unfold relabel
  simp only
  have aux : ∀ l : List (Str × NameKind), (∀ y ∈ l, y.2 ≠ .free) → l.map (fun (n, k) => if (k == NameKind.free && env.scope.kind == .function && env.kindOf n == some .cell) then (n, NameKind.cell) else (n, k)) = l := by
    intro l
    induction l with
    | nil => intro _; rfl
    | cons y r ih =>
      intro h
      rw [List.map_cons, ih fun z hz => h z (List.mem_cons_of_mem _ hz)]
      obtain ⟨n, k⟩ := y
      have : (k == NameKind.free) = false := by simpa using h (n, k) List.mem_cons_self
      simp [this]
  exact aux _ h
theorem blk0 (hc : ∀ y ∈ scope.names, y.2 ≠ .cell) (hf : ∀ y ∈ scope.names, y.2 ≠ .free) (hk : scope.kind = .function) (hn : ∀ y ∈ scope.names, y.2 = .local → scope.names.lookup y.1 = some .local) (_ : X.Ok) : BlkOk X scope [] N' N'.length [] where
  clos := closureFor_none hf
  cell := hc
  kind := hk
  names := hn
  sub := fun _ _ h => by cases h
  has := fun x h => by
    rw [relabel_nofree hf] at h
    rcases h with h | h
    · exact absurd rfl (hc _ (PySem.mem_of_lookup h))
    · exact absurd rfl (hf _ (PySem.mem_of_lookup h))
  len := by simp
  cap := fun j i h => by simp at h
def closL (cells : List (Str × Addr)) : List (Str × NameKind) → List (Str × Addr) → List (Str × Addr)
  | [], acc => acc
  | (n, k) :: r, acc => if k == .free then closL cells r ((n, (cells.lookup n).getD 0) :: acc) else closL cells r acc
theorem closL_eq {env : Env} : ∀ (names : List (Str × NameKind)) (acc : List (Str × Addr)), (∀ y ∈ names, y.2 = .free → ∃ c, env.cells.lookup y.1 = some c) →
    (forIn names acc fun (x : Str × NameKind) cs => (match x with | (name, kind) => if (kind == .free) = true then do let c ← cellOf env name; pure (ForInStep.yield ((name, c) :: cs)) else pure (ForInStep.yield cs) : Sem (ForInStep (List (Str × Addr))))) = pure (closL env.cells names acc)
  | [], acc, _ => rfl
  | (n, k) :: r, acc, h => by
    rw [List.forIn_cons]
    unfold closL
    by_cases hk : (k == NameKind.free) = true
    · obtain ⟨c, hc⟩ := h (n, k) List.mem_cons_self (by simpa using hk)
      have e : cellOf env n = pure c := by unfold cellOf; rw [show env.cells.lookup n = some c from hc]
      have hc' : env.cells.lookup n = some c := hc
      simp only [hk, if_true, e, pure_bind, hc', Option.getD_some]
      exact closL_eq r _ fun y hy => h y (List.mem_cons_of_mem _ hy)
    · simp only [hk, if_false, pure_bind]
      exact closL_eq r acc fun y hy => h y (List.mem_cons_of_mem _ hy)
theorem closureFor_eq {scope : Scope} {env : Env} (h : ∀ y ∈ scope.names, y.2 = .free → ∃ c, env.cells.lookup y.1 = some c) : closureFor scope env = pure (closL env.cells scope.names []) := by
  unfold closureFor
  have e := closL_eq (env := env) scope.names [] h
  simp only [bind_pure_comp] at e ⊢
  first
    | exact e
    | (rw [e]; rfl)
    | (refine Eq.trans ?_ e; rfl)
theorem closL_mem {cells : List (Str × Addr)} : ∀ {names : List (Str × NameKind)} {acc : List (Str × Addr)} {x : Str} {c : Addr}, (x, c) ∈ closL cells names acc → (x, c) ∈ acc ∨ ((x, NameKind.free) ∈ names ∧ c = (cells.lookup x).getD 0)
  | [], acc, x, c, h => .inl h
  | (n, k) :: r, acc, x, c, h => by
    unfold closL at h
    by_cases hk : (k == NameKind.free) = true
    · rw [if_pos hk] at h
      have hk' : k = .free := by simpa using hk
      rcases closL_mem h with h | ⟨h1, h2⟩
      · rcases List.mem_cons.mp h with e | h
        · cases e
          subst hk'
          exact .inr ⟨List.mem_cons_self, rfl⟩
        · exact .inl h
      · exact .inr ⟨List.mem_cons_of_mem _ h1, h2⟩
    · rw [if_neg hk] at h
      rcases closL_mem h with h | ⟨h1, h2⟩
      · exact .inl h
      · exact .inr ⟨List.mem_cons_of_mem _ h1, h2⟩
theorem closL_has {cells : List (Str × Addr)} : ∀ {names : List (Str × NameKind)} {acc : List (Str × Addr)} {x : Str}, (x, NameKind.free) ∈ names ∨ (∃ c, (x, c) ∈ acc) → ∃ c, (x, c) ∈ closL cells names acc
  | [], acc, x, h => by
    rcases h with h | h
    · cases h
    · exact h
  | (n, k) :: r, acc, x, h => by
    unfold closL
    by_cases hk : (k == NameKind.free) = true
    · rw [if_pos hk]
      refine closL_has ?_
      rcases h with h | ⟨c, h⟩
      · rcases List.mem_cons.mp h with e | h
        · cases e
          exact .inr ⟨_, List.mem_cons_self⟩
        · exact .inl h
      · exact .inr ⟨c, List.mem_cons_of_mem _ h⟩
    · rw [if_neg hk]
      refine closL_has ?_
      rcases h with h | h
      · rcases List.mem_cons.mp h with e | h
        · cases e
          exact absurd (beq_self_eq_true NameKind.free) hk
        · exact .inl h
      · exact .inr h
theorem lookup_of_mem {l : List (Str × Addr)} {x : Str} {c : Addr} (h : (x, c) ∈ l) : ∃ c', l.lookup x = some c' := by
  induction l with
  | nil => cases h
  | cons p r ih =>
    obtain ⟨n, a⟩ := p
    by_cases e : (x == n) = true
    · exact ⟨a, by simp [List.lookup_cons, e]⟩
    · have e' : (x == n) = false := by simpa using e
      rcases List.mem_cons.mp h with h | h
      · cases h; simp at e
      · obtain ⟨c', q⟩ := ih h
        exact ⟨c', by simp only [List.lookup_cons, e']; exact q⟩
theorem relabel_free {env : Env} : ∀ {names : List (Str × NameKind)} {x : Str} {k : NameKind}, (names.map fun (n, k) => if (k == NameKind.free && env.scope.kind == .function && env.kindOf n == some .cell) then (n, NameKind.cell) else (n, k)).lookup x = some k → (k = .cell ∨ k = .free) → (∀ y ∈ names, y.2 ≠ .cell) → (x, NameKind.free) ∈ names
  | [], x, k, h, _, _ => by cases h
  | (n, j) :: r, x, k, h, hk, hc => by
    rw [List.map_cons] at h
    by_cases e : (x == n) = true
    · have e' : x = n := by simpa using e
      subst e'
      have hj : j ≠ .cell := hc (x, j) List.mem_cons_self
      by_cases q : (j == NameKind.free && env.scope.kind == .function && env.kindOf x == some .cell) = true
      · have : j = .free := by
          rw [Bool.and_eq_true, Bool.and_eq_true] at q
          simpa using q.1.1
        subst this
        exact List.mem_cons_self
      · simp only [q, if_false, List.lookup_cons, beq_self_eq_true] at h
        have h' : j = k := by simpa using h
        subst h'
        rcases hk with z | z
        · exact absurd z hj
        · subst z; exact List.mem_cons_self
    · have e' : (x == n) = false := by simpa using e
      refine List.mem_cons_of_mem _ (relabel_free (env := env) (k := k) ?_ hk fun y hy => hc y (List.mem_cons_of_mem _ hy))
      have h' : List.lookup x ((if (j == NameKind.free && env.scope.kind == .function && env.kindOf n == some .cell) = true then (n, NameKind.cell) else (n, j)) :: _) = some k := h
      by_cases q : (j == NameKind.free && env.scope.kind == .function && env.kindOf n == some .cell) = true
      · rw [if_pos q, List.lookup_cons, e'] at h'; exact h'
      · rw [if_neg q, List.lookup_cons, e'] at h'; exact h'
theorem relabel_cell {env : Env} {x : Str} (h1 : env.scope.kind = .function) (h2 : env.kindOf x = some .cell) : ∀ {names : List (Str × NameKind)}, names.lookup x = some .free → (names.map fun (n, k) => if (k == NameKind.free && env.scope.kind == .function && env.kindOf n == some .cell) then (n, NameKind.cell) else (n, k)).lookup x = some .cell
  | [], h => by cases h
  | (n, j) :: r, h => by
    rw [List.map_cons]
    by_cases e : (x == n) = true
    · have e' : x = n := by simpa using e
      subst e'
      simp only [List.lookup_cons, beq_self_eq_true] at h
      have hj : j = .free := by simpa using h
      subst hj
      have q : ((NameKind.free == NameKind.free) && env.scope.kind == .function && env.kindOf x == some .cell) = true := by rw [h1, h2]; rfl
      show List.lookup x ((if ((NameKind.free == NameKind.free) && env.scope.kind == .function && env.kindOf x == some .cell) = true then (x, NameKind.cell) else (x, NameKind.free)) :: _) = _
      rw [if_pos q, List.lookup_cons, beq_self_eq_true]
    · have e' : (x == n) = false := by simpa using e
      simp only [List.lookup_cons, e'] at h
      by_cases q : (j == NameKind.free && env.scope.kind == .function && env.kindOf n == some .cell) = true
      · show List.lookup x ((if (j == NameKind.free && env.scope.kind == .function && env.kindOf n == some .cell) = true then (n, NameKind.cell) else (n, j)) :: _) = _
        rw [if_pos q, List.lookup_cons, e']; exact relabel_cell h1 h2 h
      · show List.lookup x ((if (j == NameKind.free && env.scope.kind == .function && env.kindOf n == some .cell) = true then (n, NameKind.cell) else (n, j)) :: _) = _
        rw [if_neg q, List.lookup_cons, e']; exact relabel_cell h1 h2 h
def capOk (N' : List Str) (nt : Nat) (ci : List Nat) (Xn : List Str) (fsc scope : Scope) : Bool :=
  (List.range ci.length).all fun j => match ci[j]?, N'[nt + j]? with
    | some i, some x => Xn[i]? == some x && fsc.names.lookup x == some .cell && scope.names.lookup x == some .free
    | _, _ => false
theorem blkC {nt : Nat} {ci : List Nat} (Xn : List Str) (fsc : Scope) (hN : X.N = Xn) (hs : X.env.scope = fsc) (hc : ∀ y ∈ scope.names, y.2 ≠ .cell) (hk : scope.kind = .function) (hn : ∀ y ∈ scope.names, y.2 = .local → scope.names.lookup y.1 = some .local)
    (hfr : ∀ y ∈ scope.names, y.2 = .free → fsc.names.lookup y.1 = some .cell) (hl : N'.length = nt + ci.length) (cap : capOk N' nt ci Xn fsc scope = true) (ok : X.Ok) : BlkOk X scope (closL X.env.cells scope.names []) N' nt ci := by
  have fr : ∀ y ∈ scope.names, y.2 = .free → ∃ c, X.env.cells.lookup y.1 = some c := fun y hy e => ok.has y.1 (.inl (by show X.env.scope.names.lookup y.1 = _; rw [hs]; exact hfr y hy e))
  have sub : ∀ x c, (closL X.env.cells scope.names []).lookup x = some c → X.env.cells.lookup x = some c := fun x c h => by
    rcases closL_mem (PySem.mem_of_lookup h) with z | ⟨z1, z2⟩
    · cases z
    · obtain ⟨c', e⟩ := fr _ z1 rfl
      rw [show X.env.cells.lookup x = some c' from e] at z2 ⊢
      rw [z2]; rfl
  refine ⟨closureFor_eq fr, hc, hk, hn, sub, fun x h => ?_, hl, fun j i h => ?_⟩
  · have hm : (x, NameKind.free) ∈ scope.names := by
      rcases h with h | h
      · exact relabel_free h (.inl rfl) hc
      · exact relabel_free h (.inr rfl) hc
    obtain ⟨c, q⟩ := closL_has (cells := X.env.cells) (acc := []) (.inl hm)
    exact lookup_of_mem q
  · unfold capOk at cap
    rw [List.all_eq_true] at cap
    have hj : j < ci.length := (List.getElem?_eq_some_iff.mp h).1
    have q := cap j (List.mem_range.mpr hj)
    rw [h] at q
    cases e : N'[nt + j]? with
    | none => rw [e] at q; cases q
    | some x =>
      rw [e] at q
      simp only [Bool.and_eq_true, beq_iff_eq] at q
      refine ⟨x, rfl, by rw [hN]; exact q.1.1, by rw [hs]; exact q.1.2, .inl (relabel_cell ok.kind ?_ q.2)⟩
      show X.env.scope.names.lookup x = _
      rw [hs]; exact q.1.2
end
theorem Same.sqt {K : PySem.W.Frag} {H H' : Hp} {a : Addr} {xs : List V} (e : Same H H') (h : SqT K H a xs) : SqT K H' a xs := by
  rcases h with (h | ⟨o, h⟩) | h
  · exact .inl (.inl (e _ _ h))
  · exact .inl (.inr ⟨o, e _ _ h⟩)
  · exact .inr h
theorem Same.keepT {K : PySem.W.Frag} {H H' : Hp} (e : Same H H') : KeepT K H H' := fun _ _ h => e.sqt h
theorem same_new {H : Hp} {p : Addr} (h : H p = none) (o : HO) : Same H (upd H p o) := fun b u q => by rw [upd_ne (ne_of_none q h)]; exact q
theorem KeepT.trans {K : PySem.W.Frag} {H H1 H2 : Hp} (a : KeepT K H H1) (b : KeepT K H1 H2) : KeepT K H H2 := fun x xs h => b x xs (a x xs h)
theorem KeepT.refl {K : PySem.W.Frag} (H : Hp) : KeepT K H H := fun _ _ h => h
theorem keepT_lst {K : PySem.W.Frag} {H : Hp} {l : Addr} {xs : List V} {o : HO} (h : H l = some (.lst xs)) : KeepT K H (upd H l o) := fun a ys q => by
  rcases q with (q | ⟨ob, q⟩) | q
  · exact .inl (.inl (by rw [upd_ne (ne_of q h (by intro z; cases z))]; exact q))
  · exact .inl (.inr ⟨ob, by rw [upd_ne (ne_of q h (by intro z; cases z))]; exact q⟩)
  · exact .inr q
theorem keepT_new {K : PySem.W.Frag} {H : Hp} {l : Addr} {o : HO} (h : H l = none) : KeepT K H (upd H l o) := (same_new h o).keepT
theorem Same.write {H0 H : Hp} {l : Addr} {o : HO} (e : Same H0 H) (h : H0 l = none) : Same H0 (upd H l o) := fun b u q => by
  rw [upd_ne (ne_of_none q h)]; exact e b u q
theorem sqL_ne {K : PySem.W.Frag} {H : Hp} {l a : Addr} {xs : List V} {o : HO} (q : SqL K H a xs) (h : a ≠ l) : SqL K (upd H l o) a xs := by
  rcases q with (q | ⟨ob, q⟩) | q
  · exact .inl (.inl (by rw [upd_ne h]; exact q))
  · exact .inl (.inr ⟨ob, by rw [upd_ne h]; exact q⟩)
  · exact .inr q
theorem cxOf_K (CX : CXT) (P : Program) (w : World) (K : PySem.W.Frag) (mg : Str → Option Value) (base : Heap) (N : List Str) (qual : Str) (scope : Scope) (f : Addr) (cd : Value) (A : Around) (outer : List Env) (s : Shared) (H : Hp) (E : XK) : (cxOf CX P w K mg base N qual scope f cd A outer s H E).K = K := rfl
theorem blk_K (X : Cx) (N' : List Str) (scope : Scope) (cl : List (Str × Addr)) (s : Shared) (H : Hp) (C : Addr) (ex : List Addr) : (blk X N' scope cl s H C ex).K = X.K := rfl
theorem scal_int (a b : Int) : scal (.int a) (.int b) = true := rfl
theorem scal_str (a b : Str) : scal (.str a) (.str b) = true := rfl
theorem scal_bl (a b : Bool) : scal (.bl a) (.bl b) = true := rfl
theorem mul_left {i j : Int} (h1 : -(2 ^ 64) < i) (h2 : i < 2 ^ 64) : CMul i j := .inl ⟨h1, h2⟩
theorem mul_right {i j : Int} (h1 : -(2 ^ 64) < j) (h2 : j < 2 ^ 64) : CMul i j := .inr ⟨h1, h2⟩
theorem seq_then {t u : TS} {D : Ends} {σ : St} {H : Hp} (R : St → Hp → Prop) (rest : ∀ σ' H', R σ' H' → u D σ' H') (first : ∀ C : St → Hp → Prop, (∀ σ' H', R σ' H' → C σ' H') → t { D with nx := C } σ H) : tSeq t u D σ H := first (u D) rest
theorem lcW_range {K : PySem.W.Frag} {σ0 : St} {n : Nat} {lo : Int} {acc : Addr} {g : TG} {te : TE} {Q : VK} {H : Hp} (Pv : Nat → List V → Hp → Prop) (h0 : Pv 0 [] (upd H acc (.lst []))) (hl : ∀ i ys H2, i ≤ n → Pv i ys H2 → H2 acc = some (.lst ys) ∧ ys.length < sizeLine)
    (hs : ∀ i ys H2, i < n → Pv i ys H2 → ∀ C : VK, (∀ y H5, H5 acc = some (.lst ys) → Pv (i + 1) (ys ++ [y]) (upd H5 acc (.lst (ys ++ [y]))) → C y H5) → g (.int (lo + i)) σ0 H2 fun σ4 H4 => Wk σ0 σ4 ∧ te σ4 H4 C) (hd : ∀ ys H2, Pv n ys H2 → Q (.ref acc) H2) :
    ∃ W : Nat → Nat → List V → Hp → Prop, (∃ m, W 0 m [] (upd H acc (.lst []))) ∧ lcW K σ0 (Itr lo n) acc g te Q W := by
  refine ⟨fun i m ys H2 => m = n - i ∧ i ≤ n ∧ Pv i ys H2, ⟨n, by simp, Nat.zero_le _, h0⟩, ?_⟩
  rintro i m ys H2 ⟨rfl, hi, p⟩
  obtain ⟨a, b⟩ := hl i ys H2 hi p
  refine ⟨a, b, ?_⟩
  by_cases hlt : i < n
  · refine .inr ⟨hlt, fun x H3 y => ?_⟩
    obtain ⟨e, y⟩ := y
    subst e y
    exact hs i ys _ hlt p _ fun v H5 z1 z2 => ⟨z1, n - (i + 1), by omega, rfl, hlt, z2⟩
  · have e : i = n := by omega
    subst e
    exact .inl ⟨Nat.le_refl _, hd ys H2 p⟩
theorem lcW_list {K : PySem.W.Frag} {σ0 : St} {a : Addr} {xs : List V} {acc : Addr} {g : TG} {te : TE} {Q : VK} {H : Hp} (Pv : Nat → List V → Hp → Prop) (h0 : Pv 0 [] (upd H acc (.lst []))) (hl : ∀ i ys H2, i ≤ xs.length → Pv i ys H2 → H2 acc = some (.lst ys) ∧ ys.length < sizeLine ∧ SqL K H2 a xs)
    (hs : ∀ i x ys H2, xs[i]? = some x → Pv i ys H2 → ∀ C : VK, (∀ y H5, H5 acc = some (.lst ys) → Pv (i + 1) (ys ++ [y]) (upd H5 acc (.lst (ys ++ [y]))) → C y H5) → g x σ0 H2 fun σ4 H4 => Wk σ0 σ4 ∧ te σ4 H4 C) (hd : ∀ ys H2, Pv xs.length ys H2 → Q (.ref acc) H2) :
    ∃ W : Nat → Nat → List V → Hp → Prop, (∃ m, W 0 m [] (upd H acc (.lst []))) ∧ lcW K σ0 (Itl K a) acc g te Q W := by
  refine ⟨fun i m ys H2 => m = xs.length - i ∧ i ≤ xs.length ∧ Pv i ys H2, ⟨xs.length, by simp, Nat.zero_le _, h0⟩, ?_⟩
  rintro i m ys H2 ⟨rfl, hi, p⟩
  obtain ⟨e1, e2, q⟩ := hl i ys H2 hi p
  refine ⟨e1, e2, ?_⟩
  by_cases hlt : i < xs.length
  · refine .inr ⟨⟨xs, xs[i], q, by simp [hlt]⟩, fun x H3 y => ?_⟩
    obtain ⟨e, y⟩ := y
    subst e
    exact hs i x ys _ (y xs q) p _ fun v H5 z1 z2 => ⟨z1, xs.length - (i + 1), by omega, rfl, hlt, z2⟩
  · have e : i = xs.length := by omega
    subst e
    exact .inl ⟨⟨xs, q, Nat.le_refl _⟩, hd ys H2 p⟩
theorem str_ext {x y : Str} (h : x.cps.toList = y.cps.toList) : x = y := by
  obtain ⟨a⟩ := x
  obtain ⟨b⟩ := y
  have : a = b := by simpa using congrArg List.toArray h
  rw [this]
theorem cps_append (x y : Str) : (x ++ y).cps.toList = x.cps.toList ++ y.cps.toList := by
  show (x.cps ++ y.cps).toList = _
  simp
theorem len_cps (x : Str) : x.length = x.cps.toList.length := by simp [Str.length]
end L2
set_option Elab.async false
set_option linter.all false
set_option maxRecDepth 100000
set_option maxHeartbeats 2000000
namespace Ken
open PySem L2
theorem boot_len : bootBuiltins "len" = some (.builtin "len") := by decide +kernel
theorem boot_isinstance : bootBuiltins "isinstance" = some (.builtin "isinstance") := by decide +kernel
theorem boot_max : bootBuiltins "max" = some (.builtin "max") := by decide +kernel
theorem boot_min : bootBuiltins "min" = some (.builtin "min") := by decide +kernel
theorem boot_sorted : bootBuiltins "sorted" = some (.builtin "sorted") := by decide +kernel
theorem boot_str : bootBuiltins "str" = some (.type "str") := by decide +kernel
theorem boot_int : bootBuiltins "int" = some (.type "int") := by decide +kernel
theorem boot_bool : bootBuiltins "bool" = some (.type "bool") := by decide +kernel
theorem boot_tuple : bootBuiltins "tuple" = some (.type "tuple") := by decide +kernel
theorem boot_list : bootBuiltins "list" = some (.type "list") := by decide +kernel
theorem boot_set : bootBuiltins "set" = some (.type "set") := by decide +kernel
theorem boot_range : bootBuiltins "range" = some (.type "range") := by decide +kernel
theorem boot_zip : bootBuiltins "zip" = some (.type "zip") := by decide +kernel
theorem kit_ts (K : PySem.W.Frag) : PySem.W.kitOne K (.type "tuple") (.type "str") = some false := rfl
inductive Kd where
  | both | one | thn
  deriving DecidableEq
def Kd.str : Kd → Str
  | .both => "both"
  | .one => "one"
  | .thn => "then"
inductive Tm where
  | low
  | ltr (w : Str)
  | nd (k : Kd) (a b : Tm)
  deriving DecidableEq
def Tm.data : Tm → PyData
  | .low => .tuple [.str "low"]
  | .ltr w => .tuple [.str "letter", .str w]
  | .nd k a b => .tuple [.str k.str, a.data, b.data]
def Tm.parts : Tm → Nat
  | .low => 1
  | .ltr _ => 1
  | .nd _ a b => 1 + a.parts + b.parts
def Tm.deep : Tm → Nat
  | .low => 1
  | .ltr _ => 1
  | .nd _ a b => 1 + max a.deep b.deep
theorem Tm.parts_pos : ∀ t : Tm, 1 ≤ t.parts
  | .low => Nat.le_refl _
  | .ltr _ => Nat.le_refl _
  | .nd _ a b => by show 1 ≤ 1 + a.parts + b.parts; omega
def Word (x : Str) : Prop := 1 ≤ x.cps.toList.length ∧ x.cps.toList.length ≤ 8 ∧ ∀ c ∈ x.cps.toList, 97 ≤ c ∧ c ≤ 122
theorem Word.strOk {x : Str} (h : Word x) : PySem.PyData.strOk x = true := by
  unfold PySem.PyData.strOk
  rw [Array.all_eq_true_iff_forall_mem]
  intro c hc
  have := h.2.2 c (by simpa using hc)
  exact decide_eq_true (by omega)
def Tm.ok : Tm → Prop
  | .low => True
  | .ltr w => Word w
  | .nd _ a b => a.ok ∧ b.ok
abbrev IsT (K : PySem.W.Frag) (H : Hp) (v : V) (t : Tm) : Prop := Dn K H v t.data
theorem Tm.noList : ∀ t : Tm, L2.noList t.data = true
  | .low => rfl
  | .ltr _ => rfl
  | .nd k a b => by
    show (true && (L2.noList a.data && (L2.noList b.data && true))) = true
    rw [a.noList, b.noList]; rfl
theorem Tm.lay : ∀ t : Tm, t.ok → t.data.canLay0 = true
  | .low, _ => by
    show (PySem.PyData.strOk "low" && true) = true
    decide +kernel
  | .ltr w, h => by
    show (PySem.PyData.strOk "letter" && (PySem.PyData.strOk w && true)) = true
    rw [Word.strOk h]; decide +kernel
  | .nd k a b, h => by
    show (PySem.PyData.strOk k.str && (a.data.canLay0 && (b.data.canLay0 && true))) = true
    rw [a.lay h.1, b.lay h.2]
    cases k <;> decide +kernel
theorem Tm.depth : ∀ t : Tm, t.data.depth = t.deep
  | .low => rfl
  | .ltr _ => rfl
  | .nd k a b => by
    show max 0 (max a.data.depth (max b.data.depth 0)) + 1 = 1 + max a.deep b.deep
    rw [a.depth, b.depth]; omega
section
variable {K : PySem.W.Frag} {H H' : Hp} {v : V}
theorem IsT.keep {t : Tm} (h : IsT K H v t) (k : KeepT K H H') : IsT K H' v t := Dn.keepT k t.noList h
theorem isT_low : IsT K H v .low ↔ ∃ a, v = .ref a ∧ SqT K H a [.str "low"] := by
  show Dn K H v (.tuple [.str "low"]) ↔ _
  rw [Dn]
  constructor
  · rintro ⟨a, xs, rfl, hs, hd⟩
    rw [DnAll] at hd
    obtain ⟨x, r, rfl, h1, h2⟩ := hd
    rw [Dn] at h1
    rw [DnAll] at h2
    subst h1; subst h2
    exact ⟨a, rfl, hs⟩
  · rintro ⟨a, rfl, hs⟩
    refine ⟨a, _, rfl, hs, ?_⟩
    rw [DnAll]
    exact ⟨_, _, rfl, by rw [Dn], by rw [DnAll]⟩
theorem isT_ltr {w : Str} : IsT K H v (.ltr w) ↔ ∃ a, v = .ref a ∧ SqT K H a [.str "letter", .str w] := by
  show Dn K H v (.tuple [.str "letter", .str w]) ↔ _
  rw [Dn]
  constructor
  · rintro ⟨a, xs, rfl, hs, hd⟩
    rw [DnAll] at hd
    obtain ⟨x, r, rfl, h1, h2⟩ := hd
    rw [DnAll] at h2
    obtain ⟨y, r, rfl, h3, h4⟩ := h2
    rw [Dn] at h1 h3
    rw [DnAll] at h4
    subst h1; subst h3; subst h4
    exact ⟨a, rfl, hs⟩
  · rintro ⟨a, rfl, hs⟩
    refine ⟨a, _, rfl, hs, ?_⟩
    rw [DnAll]
    refine ⟨_, _, rfl, by rw [Dn], ?_⟩
    rw [DnAll]
    exact ⟨_, _, rfl, by rw [Dn], by rw [DnAll]⟩
theorem isT_nd {k : Kd} {a b : Tm} : IsT K H v (.nd k a b) ↔ ∃ p x y, v = .ref p ∧ SqT K H p [.str k.str, x, y] ∧ IsT K H x a ∧ IsT K H y b := by
  show Dn K H v (.tuple [.str k.str, a.data, b.data]) ↔ _
  rw [Dn]
  constructor
  · rintro ⟨p, xs, rfl, hs, hd⟩
    rw [DnAll] at hd
    obtain ⟨x, r, rfl, h1, h2⟩ := hd
    rw [DnAll] at h2
    obtain ⟨y, r, rfl, h3, h4⟩ := h2
    rw [DnAll] at h4
    obtain ⟨z, r, rfl, h5, h6⟩ := h4
    rw [Dn] at h1
    rw [DnAll] at h6
    subst h1; subst h6
    exact ⟨p, y, z, rfl, hs, h3, h5⟩
  · rintro ⟨p, x, y, rfl, hs, h1, h2⟩
    refine ⟨p, _, rfl, hs, ?_⟩
    rw [DnAll]
    refine ⟨_, _, rfl, by rw [Dn], ?_⟩
    rw [DnAll]
    refine ⟨_, _, rfl, h1, ?_⟩
    rw [DnAll]
    exact ⟨_, _, rfl, h2, by rw [DnAll]⟩
end
theorem eqvAll3 (a b c d e f : PyData) : PyData.eqvAll [a, b, c] [d, e, f] = (PyData.eqv a d && (PyData.eqv b e && PyData.eqv c f)) := by
  simp [PyData.eqvAll]
theorem Kd.str_inj {a b : Kd} (h : a.str = b.str) : a = b := by
  cases a <;> cases b <;> first | rfl | exact absurd h (by decide)
theorem Tm.eqv : ∀ s t : Tm, PyData.eqv s.data t.data = decide (s = t)
  | .low, .low => by decide
  | .low, .ltr w => by
    show PyData.eqvAll [.str "low"] [.str "letter", .str w] = _
    simp [PyData.eqvAll]
  | .low, .nd k a b => by
    show PyData.eqvAll [.str "low"] [.str k.str, a.data, b.data] = _
    simp [PyData.eqvAll]
  | .ltr w, .low => by
    show PyData.eqvAll [.str "letter", .str w] [.str "low"] = _
    simp [PyData.eqvAll]
  | .ltr w, .ltr v => by
    show (PyData.eqv (.str "letter") (.str "letter") && (PyData.eqv (.str w) (.str v) && true)) = _
    simp [PyData.eqv]
    rfl
  | .ltr w, .nd k a b => by
    show PyData.eqvAll [.str "letter", .str w] [.str k.str, a.data, b.data] = _
    simp [PyData.eqvAll]
  | .nd k a b, .low => by
    show PyData.eqvAll [.str k.str, a.data, b.data] [.str "low"] = _
    simp [PyData.eqvAll]
  | .nd k a b, .ltr w => by
    show PyData.eqvAll [.str k.str, a.data, b.data] [.str "letter", .str w] = _
    simp [PyData.eqvAll]
  | .nd k a b, .nd l c d => by
    show PyData.eqvAll [.str k.str, a.data, b.data] [.str l.str, c.data, d.data] = _
    rw [eqvAll3, a.eqv c, b.eqv d]
    have e : PyData.eqv (.str k.str) (.str l.str) = decide (k = l) := by
      show (k.str == l.str) = _
      by_cases h : k = l
      · subst h; simp
      · have : ¬ k.str = l.str := fun z => h (Kd.str_inj z)
        rw [decide_eq_false h]; exact beq_eq_false_iff_ne.mpr this
    rw [e]
    by_cases h1 : k = l <;> by_cases h2 : a = c <;> by_cases h3 : b = d <;> simp [h1, h2, h3]
end Ken
set_option Elab.async false
set_option linter.all false
set_option maxRecDepth 100000
set_option maxHeartbeats 2000000
namespace Ken
open PySem L2
def mix (c k : Int) : Int := ((c + 1) * (48271 + 118 * k) % 2147483629 / 977 * 16807 + (c + 1) * (48271 + 118 * k) % 2147483629 * (k * k + 7) + k) % 2147483587
theorem mix_nn (c k : Int) : 0 ≤ mix c k := by unfold mix; exact Int.emod_nonneg _ (by decide)
def sp_mix : Sp := fun vs H Q _ => ∃ c k : Int, vs = [.int c, .int k] ∧ 0 ≤ k ∧ k ≤ 100000 ∧ Q (.int (mix c k)) H
def cellOf (ns : List Int) (k : Int) : Int := mix (if k < (ns.length : Int) then (ns[k.toNat]?.getD 0) % 2147483647 else 0) (k + 101)
theorem cell_nn (ns : List Int) (k : Int) : 0 ≤ cellOf ns k := mix_nn _ _
def sp_cell (K : PySem.W.Frag) : Sp := fun vs H Q _ => ∃ (a : Addr) (ns : List Int) (k : Int), vs = [.ref a, .int k] ∧ SqL K H a (ns.map V.int) ∧ ns.length ≤ 63 ∧ 0 ≤ k ∧ k ≤ 1000 ∧ Q (.int (cellOf ns k)) H
def Words (ws : List Str) : Prop := 2 ≤ ws.length ∧ ws.length ≤ 6 ∧ ∀ w ∈ ws, Word w
def sp_words : Sp := fun vs H Q _ => ∃ c m : Int, vs = [.int c, .int m] ∧ 0 ≤ c ∧ 2 ≤ m ∧ m ≤ 6 ∧
  ∀ (r : Addr) (H' : Hp) (ws : List Str), Same H H' → H r = none → H' r = some (.lst (ws.map V.str)) → Words ws → Q (.ref r) H'
def Tm.inW (ws : List Str) : Tm → Prop
  | .low => True
  | .ltr w => w ∈ ws
  | .nd _ a b => a.inW ws ∧ b.inW ws
theorem Tm.inW.ok {ws : List Str} (hw : ∀ w ∈ ws, Word w) : ∀ {t : Tm}, t.inW ws → t.ok
  | .low, _ => trivial
  | .ltr w, h => hw w h
  | .nd _ a b, h => ⟨Tm.inW.ok hw h.1, Tm.inW.ok hw h.2⟩
def Made (K : PySem.W.Frag) (H : Hp) (ws : List Str) (p d : Nat) (r : V) (t : Tm) : Prop := IsT K H r t ∧ t.inW ws ∧ t.parts ≤ p ∧ t.deep ≤ d
theorem Made.mono {K : PySem.W.Frag} {H H' : Hp} {ws : List Str} {p d p' d' : Nat} {r : V} {t : Tm} (h : Made K H ws p d r t) (k : KeepT K H H') (hp : p ≤ p') (hd : d ≤ d') : Made K H' ws p' d' r t :=
  ⟨h.1.keep k, h.2.1, Nat.le_trans h.2.2.1 hp, Nat.le_trans h.2.2.2 hd⟩
def sp_leaf (K : PySem.W.Frag) : Sp := fun vs H Q _ => ∃ (c : Int) (wa : Addr) (ws : List Str), vs = [.int c, .ref wa] ∧ SqL K H wa (ws.map V.str) ∧ Words ws ∧
  ∀ (r : V) (H' : Hp) (t : Tm), Same H H' → Made K H' ws 1 1 r t → Q r H'
def rk (n : Int) : Nat := if n < 40 then n.toNat else if n ≤ 53 then 40 else if n ≤ 71 then 41 else if n ≤ 95 then 42 else if n ≤ 127 then 43 else if n ≤ 170 then 44 else if n ≤ 227 then 45 else 46
theorem rk_le (n : Int) : rk n ≤ 46 := by
  unfold rk
  repeat' split
  all_goals omega
theorem rk_two {n : Int} (h0 : 3 ≤ n) (h1 : n < 40) : rk (n - 2) < rk n := by
  unfold rk
  rw [if_pos (by omega), if_pos (by omega)]
  omega
theorem rk_less {n m : Int} (h0 : 3 ≤ n) (h1 : n < 40) (h2 : m ≤ n - 1) : rk m < rk n := by
  unfold rk
  rw [if_pos (by omega), if_pos (by omega)]
  omega
theorem rk_big {n m : Int} (h0 : 40 ≤ n) (h1 : n ≤ 300) (h2 : m ≤ n - 1 - (n - 1) / 4) : rk m < rk n := by
  unfold rk
  rw [if_neg (show ¬ n < 40 by omega)]
  repeat' split
  all_goals omega
def sp_stm (K : PySem.W.Frag) (n : Nat) : Sp := fun vs H Q _ => ∃ (c size : Int) (wa : Addr) (ws : List Str), vs = [.int c, .int size, .ref wa] ∧ 0 ≤ c ∧ 0 ≤ size ∧ size ≤ 300 ∧ rk size < n ∧ SqL K H wa (ws.map V.str) ∧ Words ws ∧
  ∀ (r : V) (H' : Hp) (t : Tm), Same H H' → Made K H' ws (max 1 size.toNat) (rk size + 1) r t → Q r H'
def sp_comb (K : PySem.W.Frag) : Sp := fun vs H Q _ => ∃ (c many : Int) (wa : Addr) (ws : List Str), vs = [.int c, .int many, .ref wa] ∧ 0 ≤ c ∧ 0 ≤ many ∧ many ≤ 100 ∧ SqL K H wa (ws.map V.str) ∧ Words ws ∧
  ∀ (r : V) (H' : Hp) (t : Tm), Same H H' → Made K H' ws (1 + 2 * many.toNat) (1 + many.toNat) r t → Q r H'
def sp_drawn (K : PySem.W.Frag) : Sp := fun vs H Q _ => ∃ (c most : Int) (wa : Addr) (ws : List Str), vs = [.int c, .int most, .ref wa] ∧ 0 ≤ c ∧ 1 ≤ most ∧ most ≤ 40 ∧ SqL K H wa (ws.map V.str) ∧ Words ws ∧
  ∀ (r : V) (H' : Hp) (t : Tm), Same H H' → Made K H' ws 300 47 r t → Q r H'
section
variable {K : PySem.W.Frag} {H : Hp} {p : Addr}
theorem made_low (ws : List Str) (hp : H p = none) : Made K (upd H p (.tup [.str "low"])) ws 1 1 (.ref p) .low :=
  ⟨isT_low.mpr ⟨p, rfl, .inl (.inl upd_same)⟩, trivial, Nat.le_refl _, Nat.le_refl _⟩
theorem made_ltr {ws : List Str} {w : Str} (hw : w ∈ ws) (hp : H p = none) : Made K (upd H p (.tup [.str "letter", .str w])) ws 1 1 (.ref p) (.ltr w) :=
  ⟨isT_ltr.mpr ⟨p, rfl, .inl (.inl upd_same)⟩, hw, Nat.le_refl _, Nat.le_refl _⟩
theorem made_nd {ws : List Str} {k : Kd} {x y : V} {a b : Tm} {pa da pb db : Nat} (ha : Made K H ws pa da x a) (hb : Made K H ws pb db y b) (hp : H p = none) :
    Made K (upd H p (.tup [.str k.str, x, y])) ws (1 + pa + pb) (1 + max da db) (.ref p) (.nd k a b) := by
  refine ⟨isT_nd.mpr ⟨p, x, y, rfl, .inl (.inl upd_same), ha.1.keep (keepT_new hp), hb.1.keep (keepT_new hp)⟩, ⟨ha.2.1, hb.2.1⟩, ?_, ?_⟩
  · show 1 + a.parts + b.parts ≤ _
    have := ha.2.2.1
    have := hb.2.2.1
    omega
  · show 1 + max a.deep b.deep ≤ _
    have := ha.2.2.2
    have := hb.2.2.2
    omega
end
theorem word_mul {c : Nat} {n : Int} (h1 : 97 ≤ c) (h2 : c ≤ 122) (h3 : 1 ≤ n) (h4 : n ≤ 8) : Word (Txt.mul ⟨#[c]⟩ n) := by
  unfold Word
  rw [PyProof.Rows.mul_one_list]
  refine ⟨by rw [List.length_replicate]; omega, by rw [List.length_replicate]; omega, fun d hd => ?_⟩
  rw [List.mem_replicate] at hd
  omega
theorem word_mid {c d : Nat} {a b : Int} (h1 : 97 ≤ c) (h2 : c ≤ 122) (h3 : 97 ≤ d) (h4 : d ≤ 122) (h5 : 0 ≤ a) (h6 : 0 ≤ b) (h7 : a + b ≤ 7) : Word (Txt.mul ⟨#[c]⟩ a ++ ⟨#[d]⟩ ++ Txt.mul ⟨#[c]⟩ b) := by
  unfold Word
  rw [cps_append, cps_append, PyProof.Rows.mul_one_list, PyProof.Rows.mul_one_list]
  refine ⟨by simp only [List.length_append, List.length_replicate, List.length_cons, List.length_nil]; omega, by simp only [List.length_append, List.length_replicate, List.length_cons, List.length_nil]; omega, fun e he => ?_⟩
  simp only [List.mem_append, List.mem_replicate, List.mem_cons, List.not_mem_nil, or_false] at he
  omega
theorem mul_len {c : Nat} {n : Int} : (Txt.mul ⟨#[c]⟩ n).length = n.toNat := by rw [len_cps, PyProof.Rows.mul_one_list, List.length_replicate]
def wordB (x : Str) : Bool := decide (1 ≤ x.cps.toList.length) && decide (x.cps.toList.length ≤ 8) && x.cps.toList.all fun c => decide (97 ≤ c) && decide (c ≤ 122)
theorem word_of {x : Str} (h : wordB x = true) : Word x := by
  unfold wordB at h
  simp only [Bool.and_eq_true, decide_eq_true_eq, List.all_eq_true] at h
  exact ⟨h.1.1, h.1.2, fun c hc => by have := h.2 c hc; simpa using this⟩
def Six (H0 H : Hp) (p : Addr) (ws : List Str) : Prop := Same H0 H ∧ H0 p = none ∧ H p = some (.lst (ws.map V.str)) ∧ ws.length = 6 ∧ ∀ w ∈ ws, Word w
theorem cut_map (ws : List Str) (lo hi : Option Int) : cutV (ws.map V.str) lo hi = ((ws.drop (HT.sIx ws.length 0 lo)).take (HT.sIx ws.length ws.length hi - HT.sIx ws.length 0 lo)).map V.str := by
  unfold cutV
  rw [List.length_map, ← List.map_drop, ← List.map_take]
def kd4 (i : Int) : Kd := if i = 0 then .both else if i = 1 then .one else .thn
theorem at_kd4 {i : Int} (h0 : 0 ≤ i) (h1 : i < 4) : atI [V.str "both", V.str "one", V.str "then", V.str "then"] i = some (.str (kd4 i).str) := by
  have : i = 0 ∨ i = 1 ∨ i = 2 ∨ i = 3 := by omega
  rcases this with rfl | rfl | rfl | rfl <;> rfl
theorem at_list {α : Type} {xs : List α} {i : Int} (h0 : 0 ≤ i) (h1 : i < (xs.length : Int)) : ∃ v, v ∈ xs ∧ atI xs i = some v := by
  obtain ⟨j, rfl⟩ := Int.eq_ofNat_of_zero_le h0
  have hj : j < xs.length := by omega
  exact ⟨xs[j], List.getElem_mem hj, atI_nat (List.getElem?_eq_getElem hj)⟩
end Ken
set_option Elab.async false
set_option linter.all false
set_option maxRecDepth 100000
set_option maxHeartbeats 2000000
namespace Ken
open PySem L2
theorem small1M {n : Nat} (h : n ≤ 1000000) : n < sizeLine := Nat.lt_of_le_of_lt h (by rw [sizeLine_eq]; decide)
def Kd.sgn : Kd → Nat
  | .both => 38
  | .one => 124
  | .thn => 62
def Tm.text : Tm → List Nat
  | .low => [48]
  | .ltr w => w.cps.toList
  | .nd k a b => if k = .thn ∧ b = .low then 126 :: a.text else 40 :: (a.text ++ (32 :: k.sgn :: 32 :: (b.text ++ [41])))
abbrev Itm := Str ⊕ Tm
def DIt (K : PySem.W.Frag) (H : Hp) : V → Itm → Prop
  | v, .inl x => v = .str x
  | v, .inr t => IsT K H v t ∧ t.ok
abbrev DIts (K : PySem.W.Frag) (H : Hp) : List V → List Itm → Prop := Paired (DIt K H)
theorem DIt.keep {K : PySem.W.Frag} {H H' : Hp} (k : KeepT K H H') : ∀ {v : V} {i : Itm}, DIt K H v i → DIt K H' v i
  | _, .inl _, h => h
  | _, .inr _, h => ⟨h.1.keep k, h.2⟩
theorem DIts.keep {K : PySem.W.Frag} {H H' : Hp} (k : KeepT K H H') {vs : List V} {is : List Itm} (h : DIts K H vs is) : DIts K H' vs is := Paired.mapP h fun _ _ q => q.keep k
theorem DIts.append {K : PySem.W.Frag} {H : Hp} : ∀ {a b : List V} {c d : List Itm}, DIts K H a c → DIts K H b d → DIts K H (a ++ b) (c ++ d)
  | _, _, _, _, .nil, q => q
  | _, _, _, _, .cons h t, q => .cons h (DIts.append t q)
theorem isT_tup {K : PySem.W.Frag} {H : Hp} {v : V} {t : Tm} (h : IsT K H v t) : ∃ a xs, v = .ref a ∧ SqT K H a xs := by
  cases t with
  | low => obtain ⟨a, rfl, hs⟩ := isT_low.mp h; exact ⟨a, _, rfl, hs⟩
  | ltr w => obtain ⟨a, rfl, hs⟩ := isT_ltr.mp h; exact ⟨a, _, rfl, hs⟩
  | nd k x y => obtain ⟨a, vx, vy, rfl, hs, _, _⟩ := isT_nd.mp h; exact ⟨a, _, rfl, hs⟩
theorem canLay_list {ds : List PyData} (h : ∀ d ∈ ds, d.canLay0 = true) : (PyData.list ds).canLay0 = true := by
  show PyData.canLayAll0 ds = true
  induction ds with
  | nil => rfl
  | cons d ds ih =>
    show (d.canLay0 && PyData.canLayAll0 ds) = true
    rw [h d List.mem_cons_self, ih fun e he => h e (List.mem_cons_of_mem _ he)]; rfl
end Ken
set_option Elab.async false
set_option linter.all false
set_option maxRecDepth 100000
set_option maxHeartbeats 2000000
namespace Ken
open PySem L2
def sp_law (K : PySem.W.Frag) : Sp := fun vs H Q _ => ∃ (a : Addr) (ns : List Int), vs = [.ref a] ∧ SqL K H a (ns.map V.int) ∧ ns.length ≤ 63 ∧ ∀ H', Q (.bl true) H'
abbrev IsTs (K : PySem.W.Frag) (H : Hp) (n : Nat) : List V → List Tm → Prop := Paired fun v t => IsT K H v t ∧ t.ok ∧ t.parts ≤ n
theorem IsTs.keep {K : PySem.W.Frag} {H H' : Hp} {n : Nat} (k : KeepT K H H') {vs : List V} {ts : List Tm} (h : IsTs K H n vs ts) : IsTs K H' n vs ts := Paired.mapP h fun _ _ q => ⟨q.1.keep k, q.2⟩
theorem paired_get {α β : Type} {F : α → β → Prop} : ∀ {l : List α} {m : List β} {i : Nat} {x : α}, Paired F l m → l[i]? = some x → ∃ y, m[i]? = some y ∧ F x y
  | _, _, 0, _, .cons h t, e => by cases e; exact ⟨_, rfl, h⟩
  | _, _, i + 1, _, .cons h t, e => paired_get (i := i) t (by simpa using e)
end Ken
set_option Elab.async false
set_option linter.all false
set_option maxRecDepth 100000
set_option maxHeartbeats 2000000
namespace L2
open PySem PySem.Spec PyProof.Rows
def Ite (K : PySem.W.Frag) (l : Addr) : It :=
  ⟨fun i H => ∃ xs x, SqL K H l xs ∧ xs[i]? = some x,
   fun i H v H' => ∃ T x, v = .ref T ∧ H T = none ∧ H' = upd H T (.tup [.int i, x]) ∧ ∀ xs, SqL K H l xs → xs[i]? = some x,
   fun i H => ∃ xs, SqL K H l xs ∧ xs.length ≤ i⟩
def Its (x : Str) : It := ⟨fun i _ => i < x.length, fun i H v H' => H' = H ∧ ∃ c, x.cps.toList[i]? = some c ∧ v = .str ⟨#[c]⟩, fun i _ => x.length ≤ i⟩
section
variable {X : Cx}
def iEnum (K : PySem.W.Frag) (ta : TA) : TI := fun σ H R => ta σ H fun vs H1 => ∃ a, vs = [.ref a] ∧ (∃ xs, SqL K H1 a xs) ∧ R (Ite K a) H1
def iStr (te : TE) : TI := fun σ H R => te σ H fun v H1 => ∃ x : Str, v = .str x ∧ (x.cps.all fun c => decide (c < 128)) = true ∧ R (Its x) H1
end
end L2
set_option Elab.async false
set_option linter.all false
set_option maxRecDepth 100000
set_option maxHeartbeats 2000000
namespace Ken
open PySem L2
inductive Wr : Tm → List Nat → Prop where
  | low : Wr .low [48]
  | ltr (w : Str) : Wr (.ltr w) w.cps.toList
  | neg {a : Tm} {x : List Nat} : Wr a x → Wr (.nd .thn a .low) (126 :: x)
  | nd {k : Kd} {a b : Tm} {x y : List Nat} : Wr a x → Wr b y → Wr (.nd k a b) (40 :: (x ++ (32 :: k.sgn :: 32 :: (y ++ [41]))))
theorem Wr.len : ∀ {t : Tm} {x : List Nat}, Wr t x → t.ok → x.length ≤ 10 * t.parts
  | _, _, .low, _ => by decide
  | _, _, .ltr w, h => by
    show w.cps.toList.length ≤ 10
    have := h.2.1
    omega
  | _, _, .neg (a := a) (x := x) ha, h => by
    have := ha.len h.1
    show x.length + 1 ≤ 10 * (1 + a.parts + 1)
    omega
  | _, _, .nd (k := k) (a := a) (b := b) (x := x) (y := y) ha hb, h => by
    have h1 := ha.len h.1
    have h2 := hb.len h.2
    show (40 :: (x ++ (32 :: k.sgn :: 32 :: (y ++ [41])))).length ≤ 10 * (1 + a.parts + b.parts)
    simp
    omega
inductive Fr where
  | ng
  | op (k : Kd) (b : Tm) (y : List Nat)
  | sn (k : Kd) (a : Tm)
def Fr.ok : Fr → Prop
  | .ng => True
  | .op _ b y => Wr b y ∧ b.ok
  | .sn _ a => a.ok
def restF : List Fr → List Nat
  | [] => []
  | .ng :: fs => restF fs
  | .op k _ y :: fs => 32 :: k.sgn :: 32 :: (y ++ (41 :: restF fs))
  | .sn _ _ :: fs => 41 :: restF fs
def plug : List Fr → Tm → Tm
  | [], t => t
  | .ng :: fs, t => plug fs (.nd .thn t .low)
  | .op k b _ :: fs, t => plug fs (.nd k t b)
  | .sn k a :: fs, t => plug fs (.nd k a t)
def simple : Tm → Prop
  | .nd _ _ _ => False
  | _ => True
def frSign : Fr → Nat
  | .ng => 126
  | _ => 40
def newFr : Fr → Prop
  | .sn _ _ => False
  | _ => True
theorem Wr.open : ∀ {t : Tm} {x : List Nat}, Wr t x → t.ok → ∃ (gs : List Fr) (u : Tm), simple u ∧ u.ok ∧ (∀ g ∈ gs, g.ok ∧ newFr g) ∧ ∀ fs : List Fr, x ++ restF fs = (gs.map frSign) ++ (u.text ++ restF (gs.reverse ++ fs)) ∧ plug (gs.reverse ++ fs) u = plug fs t
  | _, _, .low, _ => ⟨[], .low, trivial, trivial, by simp, fun fs => ⟨rfl, rfl⟩⟩
  | _, _, .ltr w, h => ⟨[], .ltr w, trivial, h, by simp, fun fs => ⟨rfl, rfl⟩⟩
  | _, _, .neg (a := a) (x := x) ha, h => by
    obtain ⟨gs, u, h1, h2, h3, h4⟩ := ha.open h.1
    refine ⟨.ng :: gs, u, h1, h2, ?_, fun fs => ?_⟩
    · intro g hg
      rcases List.mem_cons.mp hg with rfl | hg
      · exact ⟨trivial, trivial⟩
      · exact h3 g hg
    · obtain ⟨e1, e2⟩ := h4 (.ng :: fs)
      rw [List.reverse_cons, List.append_assoc]
      refine ⟨?_, e2⟩
      show 126 :: (x ++ restF fs) = 126 :: (gs.map frSign ++ (u.text ++ restF (gs.reverse ++ (.ng :: fs))))
      rw [← e1]; rfl
  | _, _, .nd (k := k) (a := a) (b := b) (x := x) (y := y) ha hb, h => by
    obtain ⟨gs, u, h1, h2, h3, h4⟩ := ha.open h.1
    refine ⟨.op k b y :: gs, u, h1, h2, ?_, fun fs => ?_⟩
    · intro g hg
      rcases List.mem_cons.mp hg with rfl | hg
      · exact ⟨⟨hb, h.2⟩, trivial⟩
      · exact h3 g hg
    · obtain ⟨e1, e2⟩ := h4 (.op k b y :: fs)
      rw [List.reverse_cons, List.append_assoc]
      refine ⟨?_, e2⟩
      show 40 :: ((x ++ (32 :: k.sgn :: 32 :: (y ++ [41]))) ++ restF fs) = 40 :: (gs.map frSign ++ (u.text ++ restF (gs.reverse ++ (.op k b y :: fs))))
      rw [← e1]
      show 40 :: ((x ++ (32 :: k.sgn :: 32 :: (y ++ [41]))) ++ restF fs) = 40 :: (x ++ (32 :: k.sgn :: 32 :: (y ++ (41 :: restF fs))))
      simp
def DFr (K : PySem.W.Frag) (H : Hp) (v : V) : Fr → Prop
  | .ng => ∃ p, v = .ref p ∧ SqT K H p [.str "~", .non]
  | .op _ _ _ => ∃ p, v = .ref p ∧ SqT K H p [.str "(", .non]
  | .sn k a => ∃ p x, v = .ref p ∧ SqT K H p [.str k.str, x] ∧ IsT K H x a
theorem DFr.keep {K : PySem.W.Frag} {H H' : Hp} (k : KeepT K H H') : ∀ {v : V} {f : Fr}, DFr K H v f → DFr K H' v f
  | _, .ng, ⟨p, e, h⟩ => ⟨p, e, k _ _ h⟩
  | _, .op _ _ _, ⟨p, e, h⟩ => ⟨p, e, k _ _ h⟩
  | _, .sn _ _, ⟨p, x, e, h, i⟩ => ⟨p, x, e, k _ _ h, i.keep k⟩
abbrev DFrs (K : PySem.W.Frag) (H : Hp) : List V → List Fr → Prop := Paired (DFr K H)
theorem DFrs.keep {K : PySem.W.Frag} {H H' : Hp} (k : KeepT K H H') {vs : List V} {fs : List Fr} (h : DFrs K H vs fs) : DFrs K H' vs fs := Paired.mapP h fun _ _ q => q.keep k
theorem drop_add {α : Type} {l : List α} {a : Nat} {p q : List α} (h : l.drop a = p ++ q) : l.drop (a + p.length) = q := by
  rw [← List.drop_drop, h, List.drop_left]
theorem drop_lt {α : Type} {l : List α} {a : Nat} {p q : List α} (ha : a ≤ l.length) (h : l.drop a = p ++ q) : a + p.length ≤ l.length := by
  have := congrArg List.length h
  rw [List.length_drop, List.length_append] at this
  omega
def At (x : Str) (a : Nat) (cs : List Nat) : Prop := x.length ≤ 5000 ∧ a ≤ x.length ∧ x.cps.toList.drop a = cs
theorem At.move {x : Str} {a : Nat} {p q : List Nat} (h : At x a (p ++ q)) : At x (a + p.length) q := by
  refine ⟨h.1, ?_, drop_add h.2.2⟩
  have := drop_lt (by rw [← len_cps]; exact h.2.1) h.2.2
  rw [len_cps]; exact this
theorem At.step {x : Str} {a c : Nat} {q : List Nat} (h : At x a (c :: q)) : At x (a + 1) q := At.move (p := [c]) h
def sp_neg (K : PySem.W.Frag) : Sp := fun vs H Q _ => ∃ v t, vs = [v] ∧ IsT K H v t ∧ ∀ (r : V) (H' : Hp), Same H H' → IsT K H' r (.nd .thn t .low) → Q r H'
theorem paired_app {α β : Type} {F : α → β → Prop} : ∀ {l l' : List α} {m m' : List β}, Paired F l m → Paired F l' m' → Paired F (l ++ l') (m ++ m')
  | _, _, _, _, .nil, q => q
  | _, _, _, _, .cons h t, q => .cons h (paired_app t q)
end Ken
set_option Elab.async false
set_option linter.all false
set_option maxRecDepth 100000
set_option maxHeartbeats 2000000
namespace Ken
open PySem L2
def DIx (K : PySem.W.Frag) (H : Hp) : V → Itm → Prop
  | v, .inl x => v = .str x
  | v, .inr t => IsT K H v t
theorem DIx.keep {K : PySem.W.Frag} {H H' : Hp} (k : KeepT K H H') : ∀ {v : V} {i : Itm}, DIx K H v i → DIx K H' v i
  | _, .inl _, h => h
  | _, .inr _, h => IsT.keep h k
def itDeep : Itm → Nat
  | .inl _ => 0
  | .inr t => t.deep
def sp_same (K : PySem.W.Frag) (n : Nat) : Sp := fun vs H Q _ => ∃ (v u : V) (i : Itm), vs = [v, u] ∧ DIx K H v i ∧ DIx K H u i ∧ itDeep i < n ∧ Q (.bl true) H
def subs : Tm → List Itm
  | .low => [.inl "low"]
  | .ltr w => [.inl "letter", .inl w]
  | .nd k a b => [.inl k.str, .inr a, .inr b]
theorem isT_subs {K : PySem.W.Frag} {H : Hp} {v : V} {t : Tm} (h : IsT K H v t) : ∃ p xs, v = .ref p ∧ SqT K H p xs ∧ Paired (DIx K H) xs (subs t) := by
  cases t with
  | low => obtain ⟨a, rfl, hs⟩ := isT_low.mp h; exact ⟨a, _, rfl, hs, .cons rfl .nil⟩
  | ltr w => obtain ⟨a, rfl, hs⟩ := isT_ltr.mp h; exact ⟨a, _, rfl, hs, .cons rfl (.cons rfl .nil)⟩
  | nd k x y => obtain ⟨a, vx, vy, rfl, hs, hx, hy⟩ := isT_nd.mp h; exact ⟨a, _, rfl, hs, .cons rfl (.cons hx (.cons hy .nil))⟩
theorem subs_deep {t : Tm} : ∀ i ∈ subs t, itDeep i < t.deep := by
  intro i hi
  cases t with
  | low => simp [subs] at hi; subst hi; decide
  | ltr w => simp [subs] at hi; rcases hi with rfl | rfl <;> exact Nat.one_pos
  | nd k a b =>
    simp [subs] at hi
    rcases hi with rfl | rfl | rfl
    · show 0 < 1 + max a.deep b.deep; omega
    · show a.deep < 1 + max a.deep b.deep; omega
    · show b.deep < 1 + max a.deep b.deep; omega
theorem subs_len (t : Tm) : (subs t).length ≤ 3 := by cases t <;> simp [subs]
abbrev IsTd (K : PySem.W.Frag) (H : Hp) : List V → List Tm → Prop := Paired fun v t => IsT K H v t ∧ t.ok ∧ t.parts ≤ 300 ∧ t.deep ≤ 47
theorem IsTd.keep {K : PySem.W.Frag} {H H' : Hp} (k : KeepT K H H') {vs : List V} {ts : List Tm} (h : IsTd K H vs ts) : IsTd K H' vs ts := Paired.mapP h fun _ _ q => ⟨q.1.keep k, q.2⟩
end Ken
set_option Elab.async false
set_option linter.all false
set_option maxRecDepth 100000
set_option maxHeartbeats 2000000
namespace L2
open PySem PySem.Spec PyProof.Rows
section
variable {X : Cx}
theorem vals_of_strs : ∀ {us : List Value} {ys : List Str}, StrsAre us ys → Vals (ys.map V.str) us
  | _, _, .nil => .nil
  | _, _, .cons _ _ t => .cons ⟨_, rfl⟩ (vals_of_strs t)
theorem ix_tupK {K : PySem.W.Frag} (hK : X.K = K) : IxR X (rIxT K) := hK ▸ ix_tup
end
end L2
set_option Elab.async false
set_option linter.all false
set_option maxRecDepth 100000
set_option maxHeartbeats 2000000
namespace L2
open PySem PySem.Spec PyProof.Rows
abbrev TK := St → Hp → (Hp → Prop) → Prop
def compW (σ0 : St) (J : It) (g : TG) (tk : TK) (Q : Hp → Prop) (W : Nat → Nat → Hp → Prop) : Prop :=
  ∀ i m H2, W i m H2 → (J.stop i H2 ∧ Q H2) ∨ (J.go i H2 ∧ ∀ x H3, J.yld i H2 x H3 → g x σ0 H3 fun σ4 H4 => Wk σ0 σ4 ∧ tk σ4 H4 fun H5 => ∃ m', m' < m ∧ W (i + 1) m' H5)
def PTn (Y : Cx) (body : Sem Unit) (tk : TK) : Prop := ∀ (pins : List (Addr × Obj)) (s : Shared) (σ : St) (H : Hp) (N : Hp → Prop), Inv Y pins σ H s → tk σ H N →
  wpAny (model Y.prog Y.w) Y.A body (fun _ s' => ∃ σ' H', Inv Y pins σ' H' s' ∧ Wk σ σ' ∧ N H') Y.xe s
def TurnIs (e : Expr) (d : Nat) (tg : Expr) (p : Pos) (acc : Value) (env : Env) (body : Sem Unit) : Prop := ∀ it, compTurn e d it acc env = (standAt p >>= fun _ => pyNext it >>= fun r => match r with
      | none => pure (.done .next)
      | some v => letOwnedTupleGo tg it v >>= fun _ => assign tg env v >>= fun _ => body >>= fun _ => again (.compLoop e d it acc env))
def DenIs (prog : Program) (w : World) (A : Around) (e : Expr) (d : Nat) (acc : Value) (env : Env) : Prop := ∀ it,
  (model prog w).den (.compLoop e d it acc env) = (compTurn e d it acc env).onRaise (fun x => do noteFrame x env; theTreesLotGoes x) ∧ A.under (.compLoop e d it acc env) = A ∧
  (∃ p, (model prog w).den (.compStart e d it acc env) = (compStart e d it acc env).onRaise (fun x => do noteFrame x env; standAt p)) ∧ A.under (.compStart e d it acc env) = A
theorem comp_loop {Y : Cx} {e tg : Expr} {d : Nat} {p : Pos} {g : TG} {tk : TK} {it : Addr} {acc : Value} {body : Sem Unit} {fp : List Addr} {tn : Nat → Heap → Prop} {J : It} {Q : Hp → Prop} {σ0 : St} {R : Result → Shared → Prop} {s : Shared} {i0 m0 : Nat} {H1 : Hp} {W : Nat → Nat → Hp → Prop} {pins : List (Addr × Obj)}
    (hc : Y.calm = true) (hxe : Y.xe = fun _ _ => False) (hden : DenIs Y.prog Y.w Y.A e d acc Y.env) (eq : TurnIs e d tg p acc Y.env body) (hg : PG Y tg g) (hb : PTn Y body tk) (T : Turn Y.prog Y.w Y.K tg J fp it tn)
    (hfp : ∀ (H' : Hp), (∀ b ∈ fp, H' b = none) → ∀ b ∈ fp, FpOk Y pins H' b) (hW : compW σ0 J g tk Q W)
    (hR : ∀ s' H', Inv Y pins σ0 H' s' → Q H' → R (.ok .next) s')
    (I : Inv Y pins σ0 H1 s) (hst : tn i0 s.heap) (hfr : ∀ b ∈ fp, H1 b = none) (w : W i0 m0 H1) :
    codeAny (model Y.prog Y.w) Y.A (.compLoop e d (.ref it) acc Y.env) R s := by
  have nE : ∀ {M : Model} {A : Around} {env : Env} {E : Value → Shared → Prop} (x : Value) (s : Shared), Y.xe x s → notedBy M A env E x s := fun x s z => by rw [hxe] at z; exact z.elim
  refine codeAny_loop rfl (fun n s => ∃ i H2, Inv Y pins σ0 H2 s ∧ tn i s.heap ∧ (∀ b ∈ fp, H2 b = none) ∧ W i n H2) (fun n s hI => ?_) m0 ⟨i0, H1, I, hst, hfr, w⟩
  obtain ⟨i, H2, I2, st2, fr2, w2⟩ := hI
  rw [(hden (.ref it)).1, (hden (.ref it)).2.1]
  refine wpAny_noted ?_
  rw [eq]
  refine wpAny_bind (wpAny_standAt (wpAny_bind ?_))
  rcases hW i n H2 w2 with ⟨stop, q⟩ | ⟨go, step⟩
  · refine thn (T.done Y rfl rfl rfl hc i pins s σ0 H2 _ I2 (hfp H2 fr2) st2 stop) fun r s1 ⟨hr, I3⟩ => ?_
    subst hr
    exact wpAny_pure (hR s1 H2 I3 q)
  · refine thn (T.item Y rfl rfl rfl hc i pins s σ0 H2 _ I2 (hfp H2 fr2) st2 go) fun r s1 ⟨u, hr, h4⟩ => ?_
    subst hr
    refine wpAny_bind (thn h4 fun _ s5 ⟨x, H5, I5, r5, y5, st5, fr5⟩ => ?_)
    have I5' := I5.pinned (hfp H5 fr5) (T.obj _ _ st5)
    refine wpAny_bind (wpAny_mono (hg _ s5 σ0 H5 x u _ I5' r5 (step x H5 y5)) (fun _ s6 ⟨σ6, H6, I6, hw6, q6⟩ => ?_) nE)
    refine wpAny_bind (wpAny_mono (hb _ s6 σ6 H6 _ I6 q6) (fun _ s8 ⟨σ8, H8, I8, hw8, m', hm', w7⟩ => ?_) nE)
    refine wpAny_pure ⟨rfl, m', hm', i + 1, H8, ?_, ?_, fun b hb => ?_, w7⟩
    · have := hw6.trans hw8
      exact I8.unpinned.weak this.1.symm this.2
    · exact T.keep _ _ _ st5 fun b hb o e => (I8.pin (b, o) (List.mem_append_right _ (List.mem_append_right _ (mem_pinsAt hb e)))).1
    · obtain ⟨o, e, dd⟩ := T.obj _ _ st5 b hb
      exact (I8.pin (b, o) (List.mem_append_right _ (List.mem_append_right _ (mem_pinsAt hb e)))).2.1
theorem codeAny_compStart_gen {prog : Program} {w : World} {A : Around} {R : Result → Shared → Prop} {s : Shared} {e : Expr} {d : Nat} {g : Comprehension} {it acc : Value} {env : Env} (hden : DenIs prog w A e d acc env) (hcl : (clausesOf e)[d]? = some g) (ha : g.is_async = 0)
    (h0 : codeAny (model prog w) A (.compLoop e d it acc env) R s)
    (h : wpAny (model prog w) A (pyIter it) (fun it' s' => codeAny (model prog w) A (.compLoop e d it' acc env) R s') (notedBy (model prog w) A env fun x s' => R (.error x) s') s) :
    codeAny (model prog w) A (.compStart e d it acc env) R s := by
  refine codeAny_of_tree ?_
  obtain ⟨p, ep⟩ := (hden it).2.2.1
  rw [ep, (hden it).2.2.2]
  refine wpAny_notedAt ?_
  unfold compStart
  rw [hcl]
  have e1 : ((some g).elim false fun x => x.is_async != 0) = false := by show (g.is_async != 0) = false; rw [ha]; rfl
  rw [e1, if_neg Bool.false_ne_true]
  refine wpAny_bind (wpAny_askSetting ?_)
  refine wpAny_ite ?_
  split
  · exact wpAny_pure ⟨rfl, h0⟩
  · refine wpAny_bind (wpAny_rule (wpAny_bind (wpAny_standAt (wpAny_bind (wpAny_mono h (fun it' s' h' => wpAny_pure ⟨rfl, h'⟩) fun _ _ z => z)))))
theorem den_L {prog : Program} {w : World} {A : Around} {elt : Expr} {gens : List Comprehension} {scope : Scope} {pos : Pos} {d : Nat} {acc : Value} {env : Env} : DenIs prog w A (.ListComp elt gens scope pos) d acc env := fun it => ⟨rfl, rfl, ⟨_, rfl⟩, rfl⟩
theorem den_S {prog : Program} {w : World} {A : Around} {elt : Expr} {gens : List Comprehension} {scope : Scope} {pos : Pos} {d : Nat} {acc : Value} {env : Env} : DenIs prog w A (.SetComp elt gens scope pos) d acc env := fun it => ⟨rfl, rfl, ⟨_, rfl⟩, rfl⟩
theorem den_D {prog : Program} {w : World} {A : Around} {k v : Expr} {gens : List Comprehension} {scope : Scope} {pos : Pos} {d : Nat} {acc : Value} {env : Env} : DenIs prog w A (.DictComp k v gens scope pos) d acc env := fun it => ⟨rfl, rfl, ⟨_, rfl⟩, rfl⟩
def emitL (elt : Expr) (acc : Value) (env : Env) : Sem Unit := eval elt env >>= fun x => call (.builtin "list.append") [acc, x] >>= fun _ => pure ()
def emitS (elt : Expr) (acc : Value) (env : Env) : Sem Unit := eval elt env >>= fun v => standAt elt.pos >>= fun _ => call (.builtin "set.add") [acc, v] >>= fun _ => pure ()
def emitD (k v : Expr) (d : Addr) (env : Env) : Sem Unit := eval k env >>= fun kv => holding [kv] (eval v env) >>= fun vv => standAt { line := k.pos.line, col := k.pos.col, endLine := v.pos.endLine, endCol := v.pos.endCol } >>= fun _ => holding [kv, vv] (dictSet d kv vv)
def testB (c : Expr) (env : Env) (body : Sem Unit) : Sem Unit := PySem.isTrue c env (eval c env) >>= fun ok => if ok = true then body else pure ()
def nestB (e : Expr) (d : Nat) (iter : Expr) (acc : Value) (env : Env) : Sem Unit := eval iter env >>= fun x => standAt iter.pos >>= fun _ => foldedSetIterable iter env x >>= fun x => holding [x] (pyIter x) >>= fun it => runOwn (.compStart e d it acc env) env >>= fun _ => pure ()
theorem turn_L1 {elt tg iter c tg2 iter2 : Expr} {scope : Scope} {pos : Pos} {acc : Value} {env : Env} : TurnIs (.ListComp elt [⟨tg, iter, [c], 0⟩] scope pos) 0 tg iter.pos acc env (testB c env (emitL elt acc env)) := fun it => by
  simp only [compTurn, testB, emitL, emitS, emitD, nestB, List.getElem?_cons_zero, List.getElem?_cons_succ, List.getElem?_nil, List.forIn_cons, List.forIn_nil, bind_assoc, pure_bind, if_true, bne_self_eq_false, Bool.false_eq_true, if_false, Nat.zero_add, Nat.reduceAdd]
  refine bind_congr fun _ => bind_congr fun r => ?_
  cases r with
  | none => rfl
  | some v =>
    refine bind_congr fun _ => bind_congr fun _ => ?_
    first
      | rfl
      | (refine bind_congr fun ok => ?_
         cases ok <;> simp)
      | simp
theorem turn_L2a00 {elt tg iter c c2 tg2 iter2 : Expr} {scope : Scope} {pos : Pos} {acc : Value} {env : Env} : TurnIs (.ListComp elt [⟨tg, iter, [], 0⟩, ⟨tg2, iter2, [], 0⟩] scope pos) 0 tg iter.pos acc env (nestB (.ListComp elt [⟨tg, iter, [], 0⟩, ⟨tg2, iter2, [], 0⟩] scope pos) 1 iter2 acc env) := fun it => by
  simp only [compTurn, testB, emitL, emitS, emitD, nestB, List.getElem?_cons_zero, List.getElem?_cons_succ, List.getElem?_nil, List.forIn_cons, List.forIn_nil, bind_assoc, pure_bind, if_true, bne_self_eq_false, Bool.false_eq_true, if_false, Nat.zero_add, Nat.reduceAdd]
  refine bind_congr fun _ => bind_congr fun r => ?_
  cases r with
  | none => rfl
  | some v =>
    refine bind_congr fun _ => bind_congr fun _ => ?_
    first
      | rfl
      | (refine bind_congr fun ok => ?_
         cases ok <;> simp)
      | simp
theorem turn_L2b00 {elt tg iter c c2 tg2 iter2 : Expr} {scope : Scope} {pos : Pos} {acc : Value} {env : Env} : TurnIs (.ListComp elt [⟨tg, iter, [], 0⟩, ⟨tg2, iter2, [], 0⟩] scope pos) 1 tg2 iter2.pos acc env (emitL elt acc env) := fun it => by
  simp only [compTurn, testB, emitL, emitS, emitD, nestB, List.getElem?_cons_zero, List.getElem?_cons_succ, List.getElem?_nil, List.forIn_cons, List.forIn_nil, bind_assoc, pure_bind, if_true, bne_self_eq_false, Bool.false_eq_true, if_false, Nat.zero_add, Nat.reduceAdd]
  refine bind_congr fun _ => bind_congr fun r => ?_
  cases r with
  | none => rfl
  | some v =>
    refine bind_congr fun _ => bind_congr fun _ => ?_
    first
      | rfl
      | (refine bind_congr fun ok => ?_
         cases ok <;> simp)
      | simp
theorem turn_L2a01 {elt tg iter c c2 tg2 iter2 : Expr} {scope : Scope} {pos : Pos} {acc : Value} {env : Env} : TurnIs (.ListComp elt [⟨tg, iter, [], 0⟩, ⟨tg2, iter2, [c2], 0⟩] scope pos) 0 tg iter.pos acc env (nestB (.ListComp elt [⟨tg, iter, [], 0⟩, ⟨tg2, iter2, [c2], 0⟩] scope pos) 1 iter2 acc env) := fun it => by
  simp only [compTurn, testB, emitL, emitS, emitD, nestB, List.getElem?_cons_zero, List.getElem?_cons_succ, List.getElem?_nil, List.forIn_cons, List.forIn_nil, bind_assoc, pure_bind, if_true, bne_self_eq_false, Bool.false_eq_true, if_false, Nat.zero_add, Nat.reduceAdd]
  refine bind_congr fun _ => bind_congr fun r => ?_
  cases r with
  | none => rfl
  | some v =>
    refine bind_congr fun _ => bind_congr fun _ => ?_
    first
      | rfl
      | (refine bind_congr fun ok => ?_
         cases ok <;> simp)
      | simp
theorem turn_L2b01 {elt tg iter c c2 tg2 iter2 : Expr} {scope : Scope} {pos : Pos} {acc : Value} {env : Env} : TurnIs (.ListComp elt [⟨tg, iter, [], 0⟩, ⟨tg2, iter2, [c2], 0⟩] scope pos) 1 tg2 iter2.pos acc env (testB c2 env (emitL elt acc env)) := fun it => by
  simp only [compTurn, testB, emitL, emitS, emitD, nestB, List.getElem?_cons_zero, List.getElem?_cons_succ, List.getElem?_nil, List.forIn_cons, List.forIn_nil, bind_assoc, pure_bind, if_true, bne_self_eq_false, Bool.false_eq_true, if_false, Nat.zero_add, Nat.reduceAdd]
  refine bind_congr fun _ => bind_congr fun r => ?_
  cases r with
  | none => rfl
  | some v =>
    refine bind_congr fun _ => bind_congr fun _ => ?_
    first
      | rfl
      | (refine bind_congr fun ok => ?_
         cases ok <;> simp)
      | simp
theorem turn_S1 {elt tg iter c tg2 iter2 : Expr} {scope : Scope} {pos : Pos} {acc : Value} {env : Env} : TurnIs (.SetComp elt [⟨tg, iter, [c], 0⟩] scope pos) 0 tg iter.pos acc env (testB c env (emitS elt acc env)) := fun it => by
  simp only [compTurn, testB, emitL, emitS, emitD, nestB, List.getElem?_cons_zero, List.getElem?_cons_succ, List.getElem?_nil, List.forIn_cons, List.forIn_nil, bind_assoc, pure_bind, if_true, bne_self_eq_false, Bool.false_eq_true, if_false, Nat.zero_add, Nat.reduceAdd]
  refine bind_congr fun _ => bind_congr fun r => ?_
  cases r with
  | none => rfl
  | some v =>
    refine bind_congr fun _ => bind_congr fun _ => ?_
    first
      | rfl
      | (refine bind_congr fun ok => ?_
         cases ok <;> simp)
      | simp
theorem turn_D0 {elt tg iter c tg2 iter2 : Expr} {a : Addr} {scope : Scope} {pos : Pos} {env : Env} : TurnIs (.DictComp elt iter2 [⟨tg, iter, [], 0⟩] scope pos) 0 tg iter.pos (.ref a) env (emitD elt iter2 a env) := fun it => by
  simp only [compTurn, testB, emitL, emitS, emitD, nestB, List.getElem?_cons_zero, List.getElem?_cons_succ, List.getElem?_nil, List.forIn_cons, List.forIn_nil, bind_assoc, pure_bind, if_true, bne_self_eq_false, Bool.false_eq_true, if_false, Nat.zero_add, Nat.reduceAdd]
  refine bind_congr fun _ => bind_congr fun r => ?_
  cases r with
  | none => rfl
  | some v =>
    refine bind_congr fun _ => bind_congr fun _ => ?_
    first
      | rfl
      | (refine bind_congr fun ok => ?_
         cases ok <;> simp)
      | simp
def kApp (te : TE) (acc : Addr) : TK := fun σ H N => te σ H fun y H5 => ∃ ys, H5 acc = some (.lst ys) ∧ ys.length < sizeLine ∧ N (upd H5 acc (.lst (ys ++ [y])))
def kTest (tc : TT) (tk : TK) : TK := fun σ H N => tc σ H fun b H1 => if b = true then tk σ H1 N else N H1
def kNest (wi : TI) (g : TG) (tk : TK) : TK := fun σ H N => wi σ H fun J H1 => ∃ W : Nat → Nat → Hp → Prop, (∃ m, W 0 m H1) ∧ compW σ J g tk N W
section
variable {Y : Cx}
theorem pk_emitL {elt : Expr} {te : TE} {acc : Addr} (he : PE Y elt te) : PTn Y (emitL elt (.ref acc) Y.env) (kApp te acc) := by
  intro pins s σ H N I h
  refine wpAny_bind (thn (he pins s σ H _ I h) fun v s7 ⟨y, H7, I7, r7, ys, ha7, hlen, n⟩ => ?_)
  refine wpAny_bind (thn (mt_append (X := Y) pins s7 σ H7 (.ref acc) [y] (.ref acc) [v] (fun _ H8 => H8 = upd H7 acc (.lst (ys ++ [y]))) I7 rfl (.cons r7 .nil) ⟨acc, ys, y, rfl, rfl, ha7, hlen, rfl⟩) fun _ s8 ⟨_, H8, I8, _, e8⟩ => ?_)
  subst e8
  exact wpAny_pure ⟨σ, _, I8, Wk.refl _, n⟩
theorem pk_test {c : Expr} {tc : TT} {body : Sem Unit} {tk : TK} (ht : PT Y c tc) (hb : PTn Y body tk) : PTn Y (testB c Y.env body) (kTest tc tk) := by
  intro pins s σ H N I h
  refine wpAny_bind (thn (ht pins s σ H _ I h) fun b s1 ⟨H1, I1, q1⟩ => ?_)
  cases b with
  | true =>
    rw [if_pos rfl] at q1 ⊢
    exact hb pins s1 σ H1 N I1 q1
  | false =>
    rw [if_neg Bool.false_ne_true] at q1 ⊢
    exact wpAny_pure ⟨σ, H1, I1, Wk.refl _, q1⟩
theorem pk_nest {e tg2 iter2 : Expr} {p2 : Pos} {ifs2 : List Expr} {acc : Value} {wi : TI} {g2 : TG} {tk2 : TK} {body2 : Sem Unit} (hc : Y.calm = true) (hxe : Y.xe = fun _ _ => False) (hden : DenIs Y.prog Y.w Y.A e 1 acc Y.env) (hcl : (clausesOf e)[1]? = some ⟨tg2, iter2, ifs2, 0⟩)
    (hi : PI Y tg2 iter2 wi) (hs : ∀ x, foldedSetIterable iter2 Y.env x = pure x) (eq : TurnIs e 1 tg2 p2 acc Y.env body2) (hg : PG Y tg2 g2) (hb : PTn Y body2 tk2) :
    PTn Y (nestB e 1 iter2 acc Y.env) (kNest wi g2 tk2) := by
  intro pins s σ H N I h
  refine wpAny_bind (thn (hi pins s σ H _ I h) fun v s1 h1 => ?_)
  refine wpAny_bind (wpAny_standAt (wpAny_bind ?_))
  rw [hs]
  refine wpAny_pure (wpAny_bind (wpAny_holding (thn h1 fun itv s2 h2 => ?_)))
  obtain ⟨it, fp, tn, J, H2, e0, I2, T, st2, f2, W, ⟨m0, w0⟩, hW⟩ := h2
  subst e0
  refine wpAny_bind (wpAny_runOwn ?_)
  have loop : codeAny (model Y.prog Y.w) Y.A (.compLoop e 1 (.ref it) acc Y.env) (fun r s' => match r with
      | .ok f => wpAny (model Y.prog Y.w) Y.A (pure ()) (fun _ s' => ∃ σ' H', Inv Y pins σ' H' s' ∧ Wk σ σ' ∧ N H') Y.xe s'
      | .error x => cameBackBy (model Y.prog Y.w) Y.A Y.env Y.xe x s') s2 := by
    refine comp_loop (Y := Y) (pins := pins) (Q := N) hc hxe hden eq hg hb T (fun H' hn b hb => ?_) hW (fun s' H' I' q => wpAny_pure ⟨σ, H', I', Wk.refl _, q⟩) I2 st2 (fun b hb => (f2 b hb).1) w0
    obtain ⟨f0, f1, f3, f4, f5, f6⟩ := f2 b hb
    exact ⟨hn b hb, f1, f3, f4, f5, f6⟩
  exact codeAny_compStart_gen hden hcl rfl loop (T.self _ _ _ _ _ st2 loop)
end
def tComp (nt : Nat) (ci : List Nat) (wi : TI) (g : TG) (tk : Addr → TK) (o0 : HO) : TE := fun σ H Q => wi σ H fun J H1 => ∀ acc, H1 acc = none → ∃ W : Nat → Nat → Hp → Prop, (∃ m, W 0 m (upd H1 acc o0)) ∧ compW (capt nt ci σ) J g (tk acc) (fun H2 => Q (.ref acc) H2) W
section
variable {X : Cx} {scope : Scope} {cl : List (Str × Addr)} {N' : List Str} {nt : Nat} {ci : List Nat} {pins : List (Addr × Obj)} {σ : St} {H : Hp} {s : Shared}
theorem blk_startO {o0 : HO} (B : BlkOk X scope cl N' nt ci) (I : Inv X pins σ H s) {fp : List Addr} (hf : ∀ b ∈ fp, FpOk X pins H b) (ho : ∀ b ∈ fp, ∃ o, s.heap.get? b = some o) {C acc : Addr} {h1 : Heap} {tk : Nat}
    (hacc : acc = s.heap.objs.size) (hC : C = s.heap.objs.size + 1) (k : ∀ b u, s.heap.get? b = some u → h1.get? b = some u) (ns : h1.Ns C fun _ => none) (ha : ObjOk X.prog X.w (upd H acc o0) h1 acc o0) :
    Inv (blk X N' scope cl s H C fp) [] (capt nt ci σ) (upd H acc o0) { s with heap := h1, toks := tk } := by
  have hn : H acc = none := I.hok.fresh (by rw [hacc]; exact Nat.le_refl _)
  have hnC : H C = none := I.hok.fresh (by rw [hC]; exact Nat.le_succ _)
  have cellLt : ∀ x c, cl.lookup x = some c → c < s.heap.objs.size := fun x c e => by
    obtain ⟨v, q⟩ := I.cell x c (B.sub x c e)
    exact q.lt
  refine ⟨⟨I.ok.mod, B.kind, I.ok.glob, I.ok.blt, ?_, fun x y c e1 e2 => I.ok.inj x y c (B.sub _ _ e1) (B.sub _ _ e2), fun x hx => B.has x hx, fun x c (z : false = true) => Bool.noConfusion z, fun hc => I.ok.hd hc, I.ok.frames, .inl rfl, fun b hb => ?_, I.bs, ?_, fun b o e hb => ?_, fun b hb => ?_, I.stack, fun b hb => I.stkFree b hb⟩,
    rfl, I.bare, Un.laid (a := acc) (o := o0) k (by rw [hacc]; exact Nat.le_refl _) hn, ⟨_, ns, fun i x v e1 e2 e3 => ?_⟩, fun x c e => ?_, ?_, fun x c e => ?_, fun p hp => absurd (show p ∈ ([] : List (Addr × Obj)) from hp) (by simp), I.hok.laid k (by rw [hacc]; exact Nat.le_refl _) ha, ?_⟩
  · show s.heap.objs.size ≤ C
    rw [hC]; exact Nat.le_succ _
  · obtain ⟨f0, f1, f2, f3, f4, f5⟩ := hf b hb
    obtain ⟨o, e⟩ := ho b hb
    refine ⟨?_, fun x c e' => f4 x c (B.sub x c e')⟩
    show b ≠ C
    rw [hC]
    exact Nat.ne_of_lt (Nat.lt_succ_of_lt (Heap.lt_size e))
  · exact Nat.le_trans I.ok.bsz I.sz
  · obtain ⟨f0, f1, f2, f3, f4, f5⟩ := hf b hb
    rcases f3 with z | z
    · exact I.ok.noex b o e z
    · exact absurd (Nat.lt_of_lt_of_le (Heap.lt_size e) (Nat.le_trans I.ok.bsz z)) (Nat.lt_irrefl _)
  · intro z
    obtain ⟨f0, f1, f2, f3, f4, f5⟩ := hf b hb
    rcases List.mem_cons.mp (I.stkSub b z) with y | y
    · exact f1 y
    · exact f2 y
  · -- the names
    obtain ⟨m, hm, hl⟩ := I.loc
    unfold capt at e2
    by_cases hi : i < nt
    · rw [List.getElem?_append_left (by simpa using hi), List.getElem?_replicate] at e2
      split at e2 <;> cases e2
    · rw [List.getElem?_append_right (by simpa using hi), List.length_replicate, List.getElem?_map] at e2
      cases q : ci[i - nt]? with
      | none => rw [q] at e2; cases e2
      | some j =>
        rw [q] at e2
        have e2' : (σ[j]?).join = some v := Option.some.inj e2
        obtain ⟨y, a1, a2, a3, a4⟩ := B.cap _ j q
        have ei : nt + (i - nt) = i := by omega
        rw [ei, show N'[i]? = some x from e1] at a1
        cases a1
        have e2'' : σ[j]? = some (some v) := by
          cases z : σ[j]? with
          | none => rw [z] at e2'; cases e2'
          | some w => rw [z] at e2'; exact congrArg some e2'
        obtain ⟨u, r, l⟩ := hl j x v a2 e2'' (.inr (.inl a3))
        refine ⟨u, r, .inr ⟨a4, ?_⟩⟩
        rcases l with ⟨kk, _⟩ | ⟨_, c, c1, c2⟩
        · have kk' : X.env.scope.names.lookup x = some .local := kk
          rw [a3] at kk'; cases kk'
        · obtain ⟨c', ec⟩ := B.has x a4
          have := B.sub x c' ec
          rw [c1] at this; cases this
          exact ⟨c, ec, let ⟨o, e, d⟩ := c2; ⟨o, k _ _ e, d⟩⟩
  · obtain ⟨v, q⟩ := I.cell x c (B.sub x c e)
    exact ⟨v, let ⟨o, e, d⟩ := q; ⟨o, k _ _ e, d⟩⟩
  · show upd H acc o0 C = none
    rw [upd_ne (by rw [hacc, hC]; exact Nat.succ_ne_self _)]; exact hnC
  · have lt := cellLt x c e
    rw [upd_ne (by rw [hacc]; exact Nat.ne_of_lt lt)]
    exact I.freeC x c (B.sub x c e)
  · show (capt nt ci σ).length = N'.length
    unfold capt
    rw [List.length_append, List.length_replicate, List.length_map, B.len]
theorem cg_core {e : Expr} {gs : List Comprehension} {ifs : List Expr} {body : Addr → Env → Sem Unit} {newAcc : Sem Value} {ob : Obj} {o0 : HO} {p0 : Pos} {tk : Addr → TK} {tg iter : Expr} {pos' : Pos} {wi : TI} {g : TG} {use : Option (Value → Sem Unit)} {Q : VK} {Qf : Value → Shared → Prop} (B : BlkOk X scope cl N' nt ci) (hc : X.calm = true) (hi : PI X tg iter wi)
    (hg : ∀ s H C ex, PG (blk X N' scope cl s H C ex) tg g) (hcl : clausesOf e = ⟨tg, iter, ifs, 0⟩ :: gs) (hden : ∀ acc env, DenIs X.prog X.w X.A e 0 acc env) (htn : ∀ a env, TurnIs e 0 tg p0 (.ref a) env (body a env))
    (hb : ∀ s H C ex a, PTn (blk X N' scope cl s H C ex) (body a (blk X N' scope cl s H C ex).env) (tk a)) (hnew : ∀ {M : Model} {A : Around} {E : Value → Shared → Prop} {s : Shared} {Q : Value → Shared → Prop}, Q (.ref s.heap.objs.size) { s with heap := s.heap.push ob } → wpAny M A newAcc Q E s)
    (hfree : ob.isFreed = false) (hobj : ∀ (H : Hp) (h : Heap) (a : Addr), h.get? a = some ob → sysModules < a → ObjOk X.prog X.w (upd H a o0) h a o0) (hs : ∀ x, foldedSetIterable iter X.env x = pure x) (I : Inv X pins σ H s) (h : tComp nt ci wi g tk o0 σ H Q)
    (fin : ∀ (acc C : Addr) (s' : Shared) (H' : Hp), Inv X pins σ H' s' → Q (.ref acc) H' → (∃ m, s'.heap.Ns C m) → FpOk X pins H' C → (∃ o, s'.heap.get? C = some o ∧ ∀ v, o.data ≠ .cell v) → compPost (model X.prog X.w) X.A X.xe use Qf (.ref acc) C (.ok .next) s') :
    wpAny (model X.prog X.w) X.A (comprehension e scope X.env pos' newAcc false (eval iter X.env) use) Qf X.xe s := by
  refine wpAny_comprehension_free (use := use) hcl hs B.clos B.kind B.names (thn (hi pins s σ H _ I h) fun v s1 h1 => thn h1 fun itv s2 h2 => ?_)
  obtain ⟨it, fp, tn, J, H2, e, I2, T, st2, f2, q2⟩ := h2
  subst e
  have hacc : H2 s2.heap.objs.size = none := I2.hok.fresh (Nat.le_refl _)
  obtain ⟨W, ⟨m0, w0⟩, hW⟩ := q2 s2.heap.objs.size hacc
  refine hnew (wpAny_newFunctionEnv B.cell (by intro y hy; simp at hy) (fun h₁ hns₁ hsb₁ => ?_) B.kind)
  dsimp only at hns₁ hsb₁ ⊢
  have hCs : (s2.heap.push ob).objs.size = s2.heap.objs.size + 1 := Heap.size_push ..
  have k1 : ∀ b u, s2.heap.get? b = some u → h₁.get? b = some u := fun b u e => hsb₁.extBut b u (by rw [hCs]; exact Nat.ne_of_lt (Nat.lt_succ_of_lt (Heap.lt_size e))) (Heap.get?_push_of_some _ (Heap.get?_push_of_some _ e))
  have a1 : h₁.get? s2.heap.objs.size = some ob := hsb₁.extBut _ _ (by rw [hCs]; exact Nat.ne_of_lt (Nat.lt_succ_self _)) (Heap.get?_push_of_some _ (Heap.get?_push_size _ hfree))
  rw [hCs] at hns₁ ⊢
  have hsys : sysModules < s2.heap.objs.size := I2.big
  have I3 := blk_startO (o0 := o0) (tk := s2.toks + ([] : List (Str × Value)).length) B I2 f2 (fun b hb => let ⟨o, e, _⟩ := T.obj _ _ st2 b hb; ⟨o, e⟩) rfl rfl k1 (by simpa using hns₁) (hobj _ _ _ a1 hsys)
  have hfpB : ∀ (H' : Hp), (∀ b ∈ fp, H' b = none) → ∀ b ∈ fp, FpOk (blk X N' scope cl s2 H2 (s2.heap.objs.size + 1) fp) [] H' b := fun H' hn b hb => by
    obtain ⟨f0, f1, f3, f4, f5, f6⟩ := f2 b hb
    obtain ⟨o, e, _⟩ := T.obj _ _ st2 b hb
    refine ⟨hn b hb, ?_, fun z => ?_, .inl hb, fun x c e' => f5 x c (B.sub x c e'), fun p hp => absurd (show p ∈ ([] : List (Addr × Obj)) from hp) (by simp)⟩
    · exact Nat.ne_of_lt (Nat.lt_succ_of_lt (Heap.lt_size e))
    · rcases List.mem_cons.mp (I2.stkSub b z) with y | y
      · exact f1 y
      · exact f3 y
  have hfr3 : ∀ b ∈ fp, upd H2 s2.heap.objs.size o0 b = none := fun b hb => by
    obtain ⟨o, e, _⟩ := T.obj _ _ st2 b hb
    rw [upd_ne (Nat.ne_of_lt (Heap.lt_size e))]; exact (f2 b hb).1
  have st3 : tn 0 h₁ := T.keep _ _ _ st2 fun b _ o e => k1 b o e
  have loop : codeAny (model X.prog X.w) X.A (.compLoop e 0 (.ref it) (.ref s2.heap.objs.size) (compEnvC scope cl (s2.heap.objs.size + 1) X.env))
      (compPost (model X.prog X.w) X.A X.xe use Qf (.ref s2.heap.objs.size) (s2.heap.objs.size + 1)) { s2 with heap := h₁, toks := s2.toks + ([] : List (Str × Value)).length } := by
    refine comp_loop (Y := blk X N' scope cl s2 H2 (s2.heap.objs.size + 1) fp) (Q := fun H' => Q (.ref s2.heap.objs.size) H') hc rfl (hden _ _) (htn _ _) (hg _ _ _ _) (hb _ _ _ _ _) T hfpB hW (fun s' H' I' q => ?_) I3 st3 hfr3 w0
    have un := I'.base
    have ns := I'.loc
    have fC : H' (s2.heap.objs.size + 1) = none := I'.free
    have I4 : Inv X pins σ H' s' := I2.call' I'.os un I'.hok I'.bare fun b hb => by
      obtain ⟨f0, f1, f3, f4, f5, f6⟩ := f2 b hb
      exact ⟨f4, f1, f5, f6⟩
    obtain ⟨m, hm, _⟩ := ns
    have hm' : s'.heap.Ns (s2.heap.objs.size + 1) m := hm
    refine fin _ _ s' H' I4 q ⟨m, hm'⟩ (I2.fpOk (Nat.le_succ _) fC) ?_
    obtain ⟨o, es, ep, e, d, _⟩ := hm'
    exact ⟨o, e, fun v z => by rw [d] at z; cases z⟩
  exact codeAny_compStart_gen (hden _ _) (by rw [hcl]; rfl) rfl loop (T.self _ _ _ _ _ st3 loop)
theorem lst_obj {P : Program} {w : World} (H : Hp) (h : Heap) (a : Addr) (e : h.get? a = some { cls := .type "list", dict := none, data := .seq ([] : List Value).toArray }) (_ : sysModules < a) : ObjOk P w (upd H a (.lst [])) h a (.lst []) := ⟨Nat.zero_le _, [], 0, .nil, e⟩
theorem pe_lcG {elt tg iter : Expr} {ifs : List Expr} {gs : List Comprehension} {pos p0 : Pos} {wi : TI} {g : TG} {tk : Addr → TK} {body : Addr → Env → Sem Unit} (B : X.Ok → BlkOk X scope cl N' nt ci) (hc : X.calm = true) (hi : PI X tg iter wi)
    (hg : ∀ s H C ex, PG (blk X N' scope cl s H C ex) tg g) (htn : ∀ a env, TurnIs (.ListComp elt (⟨tg, iter, ifs, 0⟩ :: gs) scope pos) 0 tg p0 (.ref a) env (body a env))
    (hb : ∀ s H C ex a, PTn (blk X N' scope cl s H C ex) (body a (blk X N' scope cl s H C ex).env) (tk a)) (hs : ∀ x, foldedSetIterable iter X.env x = pure x := by intro _; rfl) :
    PE X (.ListComp elt (⟨tg, iter, ifs, 0⟩ :: gs) scope pos) (tComp nt ci wi g tk (.lst [])) := by
  intro pins s σ H Q I h
  rw [eval_ListComp]
  refine cg_core (B I.ok) hc hi hg rfl (fun _ _ => den_L) htn hb (fun h => wpAny_newObj_type h) rfl lst_obj hs I h fun acc C s' H' I' q hm hf ho => ?_
  obtain ⟨m, hm⟩ := hm
  obtain ⟨f0, f1, f2, f3, f4, f5⟩ := hf
  exact ⟨m, hm, fun h' sb => ⟨.ref acc, H', I'.turned (t' := s'.toks) (fun b o hb e => (sb.2 b hb).trans e) f0 f1 f3 f4 f5, rfl, q⟩⟩
theorem ps_setLCG {i : Nat} {x : Str} {elt tg iter : Expr} {ifs : List Expr} {gs : List Comprehension} {pos spos pos' p0 : Pos} {wi : TI} {g : TG} {tk : Addr → TK} {body : Addr → Env → Sem Unit} (hN : X.N.Nodup) (hi : X.N[i]? = some x) (hx : Loc X.env.scope x) (B : X.Ok → BlkOk X scope cl N' nt ci) (hc : X.calm = true) (hit : PI X tg iter wi)
    (hg : ∀ s H C ex, PG (blk X N' scope cl s H C ex) tg g) (htn : ∀ a env, TurnIs (.ListComp elt (⟨tg, iter, ifs, 0⟩ :: gs) scope pos) 0 tg p0 (.ref a) env (body a env))
    (hb : ∀ s H C ex a, PTn (blk X N' scope cl s H C ex) (body a (blk X N' scope cl s H C ex).env) (tk a)) (hsw : swapsWith (.ListComp elt (⟨tg, iter, ifs, 0⟩ :: gs) scope pos) (some (.Name x pos')) spos.line X.env = pure true)
    (hs : ∀ x, foldedSetIterable iter X.env x = pure x := by intro _; rfl) (hf : X.fn x = true ∨ X.env.scope.names.lookup x = some .local := by first | exact .inl rfl | exact .inr rfl | assumption) :
    PS X (.Assign [.Name x pos'] (.ListComp elt (⟨tg, iter, ifs, 0⟩ :: gs) scope pos) spos) (tAsg (tComp nt ci wi g tk (.lst [])) (gName i)) := by
  intro pins s σ H D I h
  rw [exec_Assign_Name_used _ _ _ _ hsw]
  refine wpAny_bind (wpAny_standAt (wpAny_bind ?_))
  rw [arm_evalThenUse_ListComp]
  refine wpAny_bind (cg_core (B I.ok) hc hit hg rfl (fun _ _ => den_L) htn hb (fun h => wpAny_newObj_type h) rfl lst_obj hs I h fun acc C s' H' I' q hm hfC ho => ?_)
  obtain ⟨f0, f1, f2, f3, f4, f5⟩ := hfC
  obtain ⟨m, hm⟩ := hm
  obtain ⟨o, e, d⟩ := ho
  have Ip : Inv X (pins ++ [(C, o)]) σ H' s' := I'.pins_of fun p hp => (List.mem_append.mp hp).elim (fun z => I'.pin p (List.mem_append_right _ z)) fun z => by
    have e' : p = (C, o) := by simpa using z
    subst e'
    exact ⟨e, f0, f1, f2, d⟩
  refine wpAny_assign_Name (store_ok Ip hN hi hx (show RelV (.ref acc) (Value.ref acc) from rfl) (fun s2 I2 => ?_) hf)
  have e2 := (I2.pin (C, o) (List.mem_append_right _ (List.mem_append_right _ (by simp)))).1
  obtain ⟨o', es, ep, h1, h2, h3⟩ := hm
  rw [e] at h1; cases h1
  refine ⟨m, ⟨o, es, ep, e2, h2, h3⟩, fun h' sb => wpAny_pure (wpAny_pure ?_)⟩
  have I3 : Inv X pins (σ.set i (some (.ref acc))) H' s2 := I2.unpinned
  exact ⟨_, H', I3.turned (t' := s2.toks) (fun b o hb e => (sb.2 b hb).trans e) f0 f1 f3 f4 f5, q⟩
end
end L2
set_option Elab.async false
set_option linter.all false
set_option maxRecDepth 100000
set_option maxHeartbeats 2000000
namespace Ken
open PySem L2
structure TotOrd (n : Nat) (lt : Nat → Nat → Bool) : Prop where
  trans : ∀ a b c, a < n → b < n → c < n → lt a b = true → lt b c = true → lt a c = true
  tot : ∀ a b, a < n → b < n → a ≠ b → lt a b = true ∨ lt b a = true
  asym : ∀ a b, a < n → b < n → lt a b = true → lt b a = false
abbrev gd (p : Array Nat) (k : Nat) : Nat := p.getD k 0
theorem gd_eq {p : Array Nat} {k x : Nat} (h : p[k]? = some x) : gd p k = x := by simp [gd, Array.getD_eq_getD_getElem?, h]
structure PermOk (n : Nat) (p : Array Nat) : Prop where
  size : p.size = n
  low : ∀ k, k < n → gd p k < n
  inj : ∀ i j, i < n → j < n → gd p i = gd p j → i = j
theorem permOk_of {n : Nat} {p : Array Nat} (h : p.Perm (List.range n).toArray) : PermOk n p := by
  have hs : p.size = n := by have := h.size_eq; simpa using this
  have hl : p.toList.Perm (List.range n) := by simpa using (Array.perm_iff_toList_perm.mp h)
  have hn : p.toList.Nodup := hl.nodup_iff.mpr List.nodup_range
  have g : ∀ k (hk : k < n), gd p k = p.toList[k]'(by simp [hs, hk]) := fun k hk => by
    have : k < p.size := by omega
    exact gd_eq (by simp [this])
  refine ⟨hs, fun k hk => ?_, fun i j hi hj e => ?_⟩
  · rw [g k hk]
    have : p.toList[k]'(by simp [hs, hk]) ∈ List.range n := hl.mem_iff.mp (List.getElem_mem _)
    simpa using this
  · rw [g i hi, g j hj] at e
    exact (List.getElem_inj hn).mp e
section
variable {n : Nat} {lt : Nat → Nat → Bool} {cmp : Nat → Nat → (Bool → Shared → Prop) → Shared → Prop} {S : Shared → Prop}
def Asks (n : Nat) (lt : Nat → Nat → Bool) (S : Shared → Prop) (cmp : Nat → Nat → (Bool → Shared → Prop) → Shared → Prop) : Prop :=
  ∀ i j (C : Bool → Shared → Prop) s, i < n → j < n → i ≠ j → S s → (∀ s', S s' → C (lt i j) s') → cmp i j C s
def Asc (lt : Nat → Nat → Bool) (p : Array Nat) (m : Nat) : Prop := ∀ i j, i < j → j < m → lt (gd p i) (gd p j) = true
def Dsc (lt : Nat → Nat → Bool) (p : Array Nat) (m : Nat) : Prop := ∀ i j, i < j → j < m → lt (gd p j) (gd p i) = true
theorem asc_succ (O : TotOrd n lt) {p : Array Nat} (P : PermOk n p) {m : Nat} (h : Asc lt p m) (h1 : 1 ≤ m) (hm : m < n) (hl : lt (gd p (m - 1)) (gd p m) = true) : Asc lt p (m + 1) := by
  intro i j hij hj
  by_cases e : j = m
  · subst e
    by_cases e2 : i = j - 1
    · subst e2; exact hl
    · exact O.trans _ _ _ (P.low _ (by omega)) (P.low _ (by omega)) (P.low _ hm) (h i (j - 1) (by omega) (by omega)) hl
  · exact h i j hij (by omega)
theorem dsc_succ (O : TotOrd n lt) {p : Array Nat} (P : PermOk n p) {m : Nat} (h : Dsc lt p m) (h1 : 1 ≤ m) (hm : m < n) (hl : lt (gd p m) (gd p (m - 1)) = true) : Dsc lt p (m + 1) := by
  intro i j hij hj
  by_cases e : j = m
  · subst e
    by_cases e2 : i = j - 1
    · subst e2; exact hl
    · exact O.trans _ _ _ (P.low _ hm) (P.low _ (by omega)) (P.low _ (by omega)) hl (h i (j - 1) (by omega) (by omega))
  · exact h i j hij (by omega)
theorem wp_asc (O : TotOrd n lt) (A : Asks n lt S cmp) {p : Array Nat} (P : PermOk n p) {Q : Nat → Shared → Prop} : ∀ (f x : Nat) (s : Shared), 1 ≤ x → x + f ≤ n → Asc lt p x → S s →
    (∀ m s', x ≤ m → m ≤ x + f → Asc lt p m → (m = x + f ∨ (m < n ∧ lt (gd p m) (gd p (m - 1)) = true)) → S s' → Q m s') → W.KasT.kasWp cmp (W.kas_asc p f x) Q s
  | 0, x, s, h1, h2, ha, hs, q => by
    rw [W.kas_asc.eq_1, W.KasT.kasWp.eq_1]
    exact q x s (Nat.le_refl _) (Nat.le_refl _) ha (.inl rfl) hs
  | f + 1, x, s, h1, h2, ha, hs, q => by
    rw [W.kas_asc.eq_2, W.KasT.kasWp.eq_2]
    have hne : gd p x ≠ gd p (x - 1) := fun z => by have := P.inj _ _ (by omega) (by omega) z; omega
    refine A _ _ _ _ (P.low _ (by omega)) (P.low _ (by omega)) hne hs fun s' hs' => ?_
    cases e : lt (gd p x) (gd p (x - 1)) with
    | true =>
      rw [if_pos rfl, W.KasT.kasWp.eq_1]
      exact q x s' (Nat.le_refl _) (by omega) ha (.inr ⟨by omega, e⟩) hs'
    | false =>
      rw [if_neg Bool.false_ne_true]
      have hl : lt (gd p (x - 1)) (gd p x) = true := by
        rcases O.tot _ _ (P.low (x - 1) (by omega)) (P.low x (by omega)) (Ne.symm hne) with z | z
        · exact z
        · rw [e] at z; cases z
      refine wp_asc O A P f (x + 1) s' (by omega) (by omega) (asc_succ O P ha h1 (by omega) hl) hs' fun m s2 g1 g2 g3 g4 g5 => q m s2 (by omega) (by omega) g3 ?_ g5
      rcases g4 with g4 | g4
      · exact .inl (by omega)
      · exact .inr g4
theorem wp_desc (O : TotOrd n lt) (A : Asks n lt S cmp) {p : Array Nat} (P : PermOk n p) {Q : Array Nat × Nat × Nat → Shared → Prop} : ∀ (f x : Nat) (s : Shared), 1 ≤ x → x + f ≤ n → Dsc lt p x → S s →
    (∀ m s', x ≤ m → m ≤ x + f → Dsc lt p m → S s' → Q (p, m, 0) s') → W.KasT.kasWp cmp (W.kas_desc f p x 0) Q s
  | 0, x, s, h1, h2, ha, hs, q => by
    rw [W.kas_desc.eq_1, W.KasT.kasWp.eq_1]
    exact q x s (Nat.le_refl _) (Nat.le_refl _) ha hs
  | f + 1, x, s, h1, h2, ha, hs, q => by
    rw [W.kas_desc.eq_2, W.KasT.kasWp.eq_2]
    have hne : gd p x ≠ gd p (x - 1) := fun z => by have := P.inj _ _ (by omega) (by omega) z; omega
    refine A _ _ _ _ (P.low _ (by omega)) (P.low _ (by omega)) hne hs fun s' hs' => ?_
    cases e : lt (gd p x) (gd p (x - 1)) with
    | true =>
      rw [if_pos rfl, if_neg (by omega)]
      exact wp_desc O A P f (x + 1) s' (by omega) (by omega) (dsc_succ O P ha h1 (by omega) e) hs' fun m s2 g1 g2 g3 g5 => q m s2 (by omega) (by omega) g3 g5
    | false =>
      rw [if_neg Bool.false_ne_true, W.KasT.kasWp.eq_2]
      have hl : lt (gd p (x - 1)) (gd p x) = true := by
        rcases O.tot _ _ (P.low (x - 1) (by omega)) (P.low x (by omega)) (Ne.symm hne) with z | z
        · exact z
        · rw [e] at z; cases z
      refine A _ _ _ _ (P.low _ (by omega)) (P.low _ (by omega)) (Ne.symm hne) hs' fun s2 hs2 => ?_
      rw [hl, if_pos rfl, W.KasT.kasWp.eq_1]
      exact q x s2 (Nat.le_refl _) (by omega) ha hs2
theorem rev_get {p : Array Nat} {m k : Nat} (hm : m ≤ p.size) : gd (W.kas_rev p 0 m) k = if k < m then gd p (m - 1 - k) else gd p k := by
  have h := PyProof.Rows.getElem?_mirror_all (xs := p) (i := 0) (j := m) hm k
  unfold W.kas_rev
  by_cases hk : k < m
  · rw [if_pos ⟨Nat.zero_le _, hk⟩] at h
    rw [if_pos hk]
    simp only [gd, Array.getD_eq_getD_getElem?, h]
    congr 2
    omega
  · rw [if_neg (fun z => hk z.2)] at h
    rw [if_neg hk]
    simp only [gd, Array.getD_eq_getD_getElem?, h]
theorem rev_asc {p : Array Nat} {m : Nat} (hm : m ≤ p.size) (h : Dsc lt p m) : Asc lt (W.kas_rev p 0 m) m := by
  intro i j hij hj
  rw [rev_get hm, rev_get hm, if_pos (by omega), if_pos hj]
  exact h _ _ (by omega) (by omega)
theorem wp_count (O : TotOrd n lt) (A : Asks n lt S cmp) {p : Array Nat} (hp : p.Perm (List.range n).toArray) (h2 : 2 ≤ n) {Q : Nat × Array Nat → Shared → Prop} (s : Shared) (hs : S s)
    (q : ∀ m p' s', 1 ≤ m → m ≤ n → p'.Perm (List.range n).toArray → Asc lt p' m → S s' → Q (m, p') s') : W.KasT.kasWp cmp (W.kas_count n p) Q s := by
  have P := permOk_of hp
  unfold W.kas_count
  rw [W.KasT.kasWp_bind]
  refine wp_asc O A P (n - 1) 1 s (Nat.le_refl _) (by omega) (fun i j h1 h2 => by omega) hs fun m s' g1 g2 g3 g4 g5 => ?_
  by_cases e1 : (m == n) = true
  · rw [if_pos e1, W.KasT.kasWp.eq_1]
    exact q m p s' g1 (by omega) hp g3 g5
  · rw [if_neg e1]
    have hmn : m < n := by
      have : m ≠ n := fun z => e1 (by simp [z])
      omega
    by_cases e2 : m > 1
    · rw [if_pos e2, W.KasT.kasWp.eq_2]
      have hl := g3 0 (m - 1) (by omega) (by omega)
      have hne : gd p 0 ≠ gd p (m - 1) := fun z => by have := P.inj _ _ (by omega) (by omega) z; omega
      refine A _ _ _ _ (P.low _ (by omega)) (P.low _ (by omega)) hne g5 fun s2 hs2 => ?_
      rw [hl, if_pos rfl, W.KasT.kasWp.eq_1]
      exact q m p s2 g1 (by omega) hp g3 hs2
    · rw [if_neg e2]
      have em : m = 1 := by omega
      subst em
      have hd : lt (gd p 1) (gd p 0) = true := by
        rcases g4 with g4 | g4
        · omega
        · exact g4.2
      unfold W.kas_descPart
      rw [W.KasT.kasWp_bind]
      refine wp_desc O A P (n - (1 + 1)) 2 s' (by omega) (by omega) (fun i j h1 h2 => ?_) g5 fun m2 s2 k1 k2 k3 k5 => ?_
      · have e3 : i = 0 := by omega
        have e4 : j = 1 := by omega
        subst e3 e4
        exact hd
      · have z : ¬ ((p, m2, 0) : Array Nat × Nat × Nat).2.2 > 0 := by show ¬ 0 > 0; omega
        rw [if_neg z]
        show W.KasT.kasWp cmp (W.kas_tail3 m2 n p) Q s2
        rw [W.kas_tail3.eq_1, W.KasT.kasWp_bind]
        have hp2 : (W.kas_rev p 0 m2).Perm (List.range n).toArray := (PyProof.Rows.mirror_perm _ _ _ _).trans hp
        have P2 := permOk_of hp2
        refine wp_asc O A P2 (n - m2) m2 s2 (by omega) (by omega) (rev_asc (by rw [P.size]; omega) k3) k5 fun m3 s3 j1 j2 j3 j4 j5 => ?_
        rw [W.KasT.kasWp.eq_1]
        exact q m3 _ s3 (by omega) (by omega) hp2 j3 j5
theorem wp_place (O : TotOrd n lt) (A : Asks n lt S cmp) {p : Array Nat} (P : PermOk n p) {k : Nat} (hk : k < n) (ha : Asc lt p k) {Q : Nat → Shared → Prop} : ∀ (f l r : Nat) (s : Shared), l ≤ r → r ≤ k → r - l ≤ f → S s →
    (∀ i, i < l → lt (gd p i) (gd p k) = true) → (∀ i, r ≤ i → i < k → lt (gd p k) (gd p i) = true) →
    (∀ m s', m ≤ k → (∀ i, i < m → lt (gd p i) (gd p k) = true) → (∀ i, m ≤ i → i < k → lt (gd p k) (gd p i) = true) → S s' → Q m s') → W.KasT.kasWp cmp (W.kas_place p k f l r) Q s
  | 0, l, r, s, h1, h2, h3, hs, g1, g2, q => by
    rw [W.kas_place.eq_1, W.KasT.kasWp.eq_1]
    have : l = r := by omega
    subst this
    exact q l s h2 g1 g2 hs
  | f + 1, l, r, s, h1, h2, h3, hs, g1, g2, q => by
    rw [W.kas_place.eq_2]
    by_cases e : l ≥ r
    · rw [if_pos e, W.KasT.kasWp.eq_1]
      have : l = r := by omega
      subst this
      exact q l s h2 g1 g2 hs
    · rw [if_neg e, W.KasT.kasWp.eq_2]
      have hne : gd p k ≠ gd p ((l + r) / 2) := fun z => by have := P.inj _ _ (by omega) (by omega) z; omega
      refine A _ _ _ _ (P.low _ hk) (P.low _ (by omega)) hne hs fun s' hs' => ?_
      cases ec : lt (gd p k) (gd p ((l + r) / 2)) with
      | true =>
        rw [if_pos rfl]
        refine wp_place O A P hk ha f l ((l + r) / 2) s' (by omega) (by omega) (by omega) hs' g1 (fun i i1 i2 => ?_) q
        by_cases ei : i = (l + r) / 2
        · subst ei; exact ec
        · exact O.trans _ _ _ (P.low _ hk) (P.low _ (by omega)) (P.low _ (by omega)) ec (ha _ _ (by omega) i2)
      | false =>
        rw [if_neg Bool.false_ne_true]
        have hl : lt (gd p ((l + r) / 2)) (gd p k) = true := by
          rcases O.tot _ _ (P.low ((l + r) / 2) (by omega)) (P.low k hk) (Ne.symm hne) with z | z
          · exact z
          · rw [ec] at z; cases z
        refine wp_place O A P hk ha f ((l + r) / 2 + 1) r s' (by omega) h2 (by omega) hs' (fun i i1 => ?_) g2 q
        by_cases ei : i = (l + r) / 2
        · subst ei; exact hl
        · exact O.trans _ _ _ (P.low _ (by omega)) (P.low _ (by omega)) (P.low _ hk) (ha i _ (by omega) (by omega)) hl
theorem bub_get {p : Array Nat} {k m i : Nat} (hk : k < p.size) (hm : m ≤ k) : gd (PyProof.Rows.bubble p k (k - m)) i = if i = m then gd p k else if m < i ∧ i ≤ k then gd p (i - 1) else gd p i := by
  have h := PyProof.Rows.getElem?_bubble (xs := p) (src := k) hk (k - m) (by omega) i
  have e : k - (k - m) = m := by omega
  rw [e] at h
  simp only [gd, Array.getD_eq_getD_getElem?, h]
  split
  · rfl
  · split <;> rfl
theorem bub_asc {p : Array Nat} {k m : Nat} (hk : k < p.size) (hm : m ≤ k) (ha : Asc lt p k) (g1 : ∀ i, i < m → lt (gd p i) (gd p k) = true) (g2 : ∀ i, m ≤ i → i < k → lt (gd p k) (gd p i) = true) : Asc lt (PyProof.Rows.bubble p k (k - m)) (k + 1) := by
  intro i j hij hj
  rw [bub_get hk hm, bub_get hk hm]
  by_cases ei : i = m
  · subst ei
    rw [if_pos rfl, if_neg (by omega), if_pos ⟨hij, by omega⟩]
    exact g2 _ (by omega) (by omega)
  · rw [if_neg ei]
    by_cases ej : j = m
    · subst ej
      rw [if_pos rfl, if_neg (by omega)]
      exact g1 _ hij
    · rw [if_neg ej]
      by_cases c1 : m < i ∧ i ≤ k
      · rw [if_pos c1, if_pos ⟨by omega, by omega⟩]
        exact ha _ _ (by omega) (by omega)
      · rw [if_neg c1]
        by_cases c2 : m < j ∧ j ≤ k
        · rw [if_pos c2]
          exact ha _ _ (by omega) (by omega)
        · rw [if_neg c2]
          exact ha _ _ hij (by omega)
theorem wp_bin (O : TotOrd n lt) (A : Asks n lt S cmp) {Q : Array Nat → Shared → Prop} : ∀ (f k : Nat) (p : Array Nat) (s : Shared), k + f = n → 1 ≤ k → p.Perm (List.range n).toArray → Asc lt p k → S s →
    (∀ p' s', p'.Perm (List.range n).toArray → Asc lt p' n → S s' → Q p' s') → W.KasT.kasWp cmp (W.kas_bin f p k) Q s
  | 0, k, p, s, h1, h2, hp, ha, hs, q => by
    rw [W.kas_bin.eq_1, W.KasT.kasWp.eq_1]
    have : k = n := by omega
    subst this
    exact q p s hp ha hs
  | f + 1, k, p, s, h1, h2, hp, ha, hs, q => by
    rw [W.kas_bin.eq_2, W.KasT.kasWp_bind]
    have P := permOk_of hp
    refine wp_place O A P (by omega) ha k 0 k s (Nat.zero_le _) (Nat.le_refl _) (by omega) hs (fun i hi => by omega) (fun i i1 i2 => by omega) fun m s' hm g1 g2 hs' => ?_
    exact wp_bin O A f (k + 1) _ s' (by omega) (by omega) ((PyProof.Rows.bubble_perm _ _ _).trans hp) (bub_asc (by rw [P.size]; omega) hm ha g1 g2) hs' q
theorem wp_sort (O : TotOrd n lt) (A : Asks n lt S cmp) (h2 : 2 ≤ n) {Q : Array Nat → Shared → Prop} (s : Shared) (hs : S s)
    (q : ∀ p s', p.Perm (List.range n).toArray → Asc lt p n → S s' → Q p s') : W.KasT.kasWp cmp (W.kas_sort n) Q s := by
  unfold W.kas_sort
  rw [W.KasT.kasWp_bind]
  refine wp_count O A (Array.Perm.refl _) h2 s hs fun m p s' g1 g2 g3 g4 g5 => ?_
  by_cases e : m < n
  · rw [if_pos (show ((m, p) : Nat × Array Nat).1 < n from e)]
    show W.KasT.kasWp cmp (W.kas_bin (n - max m 1) p (max m 1)) Q s'
    have em : max m 1 = m := by omega
    rw [em]
    exact wp_bin O A (n - m) m p s' (by omega) g1 g3 g4 g5 q
  · rw [if_neg (show ¬ ((m, p) : Nat × Array Nat).1 < n from e), W.KasT.kasWp.eq_1]
    have : m = n := by omega
    subst this
    exact q p s' g3 g4 g5
end
end Ken
set_option Elab.async false
set_option linter.all false
set_option maxRecDepth 100000
set_option maxHeartbeats 2000000
namespace L2
open PySem PySem.Spec PyProof.Rows
theorem next_key {prog : Program} {w : World} {A : Around} {E : Value → Shared → Prop} {s : Shared} {it d : Addr} {i ep : Nat} {es : Array DictEntry} {od : Obj} {e : DictEntry} {Q : Option Value → Shared → Prop} (hit : s.heap.IsKeyIter it d i es.size ep) (hod : s.heap.get? d = some od) (hdd : od.data = .dict es ep) (he : es[i]? = some e)
    (hQ : ∀ h', h'.IsKeyIter it d (i + 1) es.size ep → Heap.SameBut it s.heap h' → Q (some e.key) { s with heap := h' }) : wpAny (model prog w) A (pyNext (.ref it)) Q E s := by
  obtain ⟨o, ho, hc, hd⟩ := id hit
  refine wpAny_bind (wpAny_attempt (wpAny_callSpecial?_slot hit.typeIs F.slot_dict_keyiterator_next (wpAny_call_entry F.slot_dict_keyiterator_next hit.typeIs F.entry_dict_keyiterator_next ?_ (F.args_dict_keyiterator_next_1 _))))
  refine wpAny_bind (wpAny_pure (wpAny_bind (wpAny_bind (wpAny_bind (wpAny_typeNameOfWhole_keyiter hit.typeIs (wpAny_pure (wpAny_bind (wpAny_fieldsOf ho hd ?_))))))))
  have hown : Builtin.Dict_items.ownsTuple "dict_keyiterator" = false := by decide
  simp only [hown, Bool.false_eq_true, if_false, Nat.zero_add]
  dsimp only [List.drop, List.take]
  rw [if_neg (show ¬ ((Value.ref d == Value.none) = true) from Bool.false_ne_true)]
  refine wpAny_bind (wpAny_pure (wpAny_bind (wpAny_dictEntries hod hdd ?_)))
  rw [if_neg (by simp)]
  refine wpAny_bind (wpAny_pure (wpAny_bind (wpAny_dictEpoch hod hdd ?_)))
  rw [if_neg (by simp)]
  refine wpAny_pure ?_
  dsimp only
  rw [if_neg (by omega), Int.toNat_natCast, he]
  dsimp only
  refine wpAny_bind (wpAny_bind (wpAny_typeNameOfWhole_keyiter hit.typeIs (wpAny_pure ?_)))
  refine wpAny_bind (wpAny_isOneOf_keyiter hit.typeIs ?_)
  simp only [hown, Bool.false_eq_true, if_false, Nat.zero_add]
  refine wpAny_bind (wpAny_setField ho hd (by simp) ?_)
  split
  · rename_i h; exact absurd h (by decide)
  have hit' : (s.heap.update it (Obj.mapFields fun x => x.setIfInBounds 1 (rawInt ((i : Int) + 1)))).IsKeyIter it d (i + 1) es.size ep := by
    obtain ⟨c0, d0, dat, sl⟩ := o
    dsimp only at hc hd
    subst hc hd
    exact ⟨_, Heap.get?_update_self _ ho rfl, rfl, rfl⟩
  refine wpAny_bind (wpAny_holding (wpAny_bind (wpAny_isOneOf_keyiter hit'.typeIs ?_)))
  rw [if_pos (by decide)]
  exact wpAny_pure (wpAny_pure ⟨_, rfl, wpAny_pure (hQ _ hit' (Heap.SameBut.update _ _ _))⟩)
theorem next_key_end {prog : Program} {w : World} {A : Around} {E : Value → Shared → Prop} {s : Shared} {it d : Addr} {i ep : Nat} {es : Array DictEntry} {od : Obj} {Q : Option Value → Shared → Prop} (hh : A.handled = none) (hit : s.heap.IsKeyIter it d i es.size ep) (hod : s.heap.get? d = some od) (hdd : od.data = .dict es ep) (he : es[i]? = none)
    (hQ : ∀ h', Heap.ExtBut it s.heap h' → Q none { s with heap := h' }) : wpAny (model prog w) A (pyNext (.ref it)) Q E s := by
  obtain ⟨o, ho, hc, hd⟩ := id hit
  refine wpAny_bind (wpAny_attempt (wpAny_callSpecial?_slot hit.typeIs F.slot_dict_keyiterator_next (wpAny_call_entry F.slot_dict_keyiterator_next hit.typeIs F.entry_dict_keyiterator_next ?_ (F.args_dict_keyiterator_next_1 _))))
  refine wpAny_bind (wpAny_pure (wpAny_bind (wpAny_bind (wpAny_bind (wpAny_typeNameOfWhole_keyiter hit.typeIs (wpAny_pure (wpAny_bind (wpAny_fieldsOf ho hd ?_))))))))
  have hown : Builtin.Dict_items.ownsTuple "dict_keyiterator" = false := by decide
  simp only [hown, Bool.false_eq_true, if_false, Nat.zero_add]
  dsimp only [List.drop, List.take]
  rw [if_neg (show ¬ ((Value.ref d == Value.none) = true) from Bool.false_ne_true)]
  refine wpAny_bind (wpAny_pure (wpAny_bind (wpAny_dictEntries hod hdd ?_)))
  rw [if_neg (by simp)]
  refine wpAny_bind (wpAny_pure (wpAny_bind (wpAny_dictEpoch hod hdd ?_)))
  rw [if_neg (by simp)]
  refine wpAny_pure ?_
  dsimp only
  rw [if_neg (by omega), Int.toNat_natCast, he]
  dsimp only
  refine wpAny_bind (wpAny_bind (wpAny_typeNameOfWhole_keyiter hit.typeIs (wpAny_pure ?_)))
  simp only [hown, Bool.false_eq_true, if_false, Nat.zero_add]
  refine wpAny_bind (wpAny_setField ho hd (by simp) ?_)
  refine wpAny_bind (wpAny_bind (wpAny_newObj_type ?_))
  refine wpAny_bind (wpAny_of_eq (show firstArgMember (.type "StopIteration") [] = pure .none from rfl) ?_)
  refine wpAny_newObj_type ?_
  refine wpAny_bind (wpAny_handled ?_)
  have hh' : A.in1.handled = none := hh
  rw [hh']
  refine wpAny_throw (wpAny_bind (wpAny_isInstance (T := "StopIteration") (U := "StopIteration") (b := true) ⟨_, Heap.get?_push_size _ rfl, rfl⟩ rfl ?_))
  rw [if_pos rfl]
  refine wpAny_pure (hQ _ ?_)
  exact ((Heap.SameBut.update _ _ _).extBut.push _).push _
theorem iter_dict {prog : Program} {w : World} {A : Around} {E : Value → Shared → Prop} {s : Shared} {d : Addr} {ep : Nat} {es : Array DictEntry} {od : Obj} {Q : Value → Shared → Prop} (hsys : (d == sysModules) = false) (hod : s.heap.get? d = some od) (hx : od.ExactDict) (hdd : od.data = .dict es ep)
    (hQ : Q (.ref s.heap.objs.size) { s with heap := s.heap.push { cls := .type "dict_keyiterator", data := .fields #[.ref d, .int 0 0, .int (es.size : Nat) 0, .int (ep : Nat) 0] } }) : wpAny (model prog w) A (pyIter (.ref d)) Q E s := by
  have hT : s.TypeIs (.ref d) "dict" := ⟨od, hod, hx.1⟩
  refine wpAny_pyIter_slot hT F.slot_dict_iter (wpAny_call_entry F.slot_dict_iter hT F.entry_dict_iter ?_ (F.args_dict_iter_1 (.ref d)))
  refine wpAny_bind (wpAny_bind (wpAny_notOrdered_dict hT (wpAny_pure (wpAny_bind (wpAny_pure (wpAny_bind ?_))))))
  have e0 : Builtin.Dict.showsAll d = pure () := by unfold Builtin.Dict.showsAll; rw [hsys]; rfl
  rw [e0]
  refine wpAny_pure (wpAny_bind (wpAny_dictEntries hod hdd (wpAny_bind (wpAny_dictEpoch hod hdd (wpAny_bind ?_)))))
  refine wpAny_newObj_type (wpAny_pure ⟨_, rfl, "dict_keyiterator", _, ⟨_, Heap.get?_push_size _ rfl, rfl⟩, F.slot_dict_keyiterator_next.lookup, ?_⟩)
  exact hQ
def EntsAt (d : Addr) (es : Array DictEntry) (ep : Nat) (h : Heap) : Prop := ∃ od, h.get? d = some od ∧ od.ExactDict ∧ od.data = .dict es ep
theorem EntsAt.at {d : Addr} {es : Array DictEntry} {ep : Nat} {h h' : Heap} (x : EntsAt d es ep h) (k : ∀ o, h.get? d = some o → h'.get? d = some o) : EntsAt d es ep h' := by
  obtain ⟨od, h1, h2, h3⟩ := x
  exact ⟨od, k _ h1, h2, h3⟩
theorem kdl_ents {prog : Program} {w : World} {d : Addr} {es : Array DictEntry} {ep : Nat} (hsys : (d == sysModules) = false) :
    W.KdlSrc prog w "dict" d d es.size (fun i v => ∃ e, es[i]? = some e ∧ v = e.key) (EntsAt d es ep) where
  type := fun s ⟨od, h1, h2, h3⟩ => ⟨od, h1, h2.1⟩
  there := fun h ⟨od, h1, h2, h3⟩ => ⟨Heap.lt_size h1, Heap.lt_size h1⟩
  keep := fun h h' x k => x.at fun o e => k d (.inl rfl) o e
  notList := rfl
  notTuple := rfl
  hint := fun A E s Q ⟨od, h1, h2, h3⟩ hq => W.kdl_hint_dict ⟨od, h1, h2.1⟩ hq
  iter := fun A s hh x => by
    obtain ⟨od, h1, h2, h3⟩ := id x
    have hne : d ≠ s.heap.objs.size := Nat.ne_of_lt (Heap.lt_size h1)
    refine ⟨{ cls := .type "dict_keyiterator", data := .fields #[.ref d, .int 0 0, .int (es.size : Nat) 0, .int (ep : Nat) 0] }, fun i h => h.IsKeyIter s.heap.objs.size d i es.size ep ∧ EntsAt d es ep h, fun E Q q => iter_dict hsys h1 h2 h3 q, ?_, ⟨_, Heap.get?_push_size _ rfl, rfl, rfl⟩, x.at fun o e => Heap.get?_push_of_some _ e⟩
    refine ⟨fun b hb => by simp at hb ⊢; exact .inl hb, fun i h h' ⟨a, b⟩ k => ⟨a.at fun o e => k _ (by simp) o e, b.at fun o e => k _ (by simp) o e⟩, fun i s2 Q E hi ⟨a, b⟩ q => ?_, fun s2 Q E ⟨a, b⟩ q => ?_, fun i s2 Q E ⟨a, b⟩ q => wpAny_pyIter_keyiter a q⟩
    · obtain ⟨od2, g1, g2, g3⟩ := id b
      have he : es[i]? = some es[i] := by simp [hi]
      refine next_key a g1 g3 he fun h' a' sb => q _ h' s2.toks ⟨es[i], he, rfl⟩ ⟨a', b.at fun o e => (sb.2 d hne).trans e⟩ fun b' o hb e => (sb.2 b' (by simpa using hb)).trans e
    · obtain ⟨od2, g1, g2, g3⟩ := id b
      exact next_key_end hh a g1 g3 (by simp) fun h' eb => q h' s2.toks fun b' o hb e => eb b' o (by simpa using hb) e
end L2
set_option Elab.async false
set_option linter.all false
set_option maxRecDepth 100000
set_option maxHeartbeats 2000000
namespace L2
open PySem PySem.Spec PyProof.Rows
theorem sort_small {prog : Program} {w : World} {A : Around} {E : Value → Shared → Prop} {s : Shared} {a : Addr} {vs : List Value} {n : Nat} {Q : Value → Shared → Prop} (h2 : vs.length < 2) (ho : s.heap.get? a = some (seqObj "list" vs.toArray n))
    (h : Q .none { s with heap := sortedHeap s.heap a vs vs.toArray }) : wpAny (model prog w) A (call (.builtin "list.sort") [.ref a]) Q E s := by
  refine wpAny_call_entry slot_list_sort ⟨_, ho, rfl⟩ entry_list_sort ?_ (args_list_sort (.ref a))
  rw [list_sort_plain]
  have ha := Heap.lt_size ho
  refine wpAny_bind (listItems_at ho rfl (wpAny_bind (listUpdate_at ho rfl ?_)))
  obtain ⟨e1, ho1⟩ : ∃ e1, (s.heap.update a (Obj.mapSeq fun _ => #[])).get? a = some (seqObj "list" #[] e1) := ⟨_, get?_update_seq ho fun _ => #[]⟩
  refine wpAny_bind (seqEpoch_at ho1 rfl (wpAny_bind (wpAny_newTuple (wpAny_bind (wpAny_newList (wpAny_holding ?_))))))
  have ho6 : (((s.heap.update a (Obj.mapSeq fun _ => #[])).push (seqObj "tuple" vs.toArray 0)).push (seqObj "list" #[] 0)).get? a = some (seqObj "list" #[] e1) := Heap.get?_push_of_some _ (Heap.get?_push_of_some _ ho1)
  have hz : vs.toArray.size < 2 := by simpa using h2
  simp only [if_pos hz]
  refine wpAny_bind (wpAny_pure ?_)
  rw [StateT.run_pure]
  refine wpAny_bind (wpAny_pure ?_)
  dsimp only
  have em : Array.map (fun x => x.snd) (arrOf (SortSt.mk' general' (vs.toArray.zip vs.toArray) #[] 7 none)) = vs.toArray := by
    show Array.map (fun x => x.snd) (vs.toArray.zip vs.toArray) = vs.toArray
    apply Array.ext'
    simp [List.map_snd_zip]
  have ez : (Array.map (fun x => x.snd) (arrOf (SortSt.mk' general' (vs.toArray.zip vs.toArray) #[] 7 none))).size ≤ sizeLine + 1 := by
    rw [em]
    have : vs.toArray.size = vs.length := by simp
    rw [this]
    exact Nat.le_trans (Nat.le_of_lt h2) (by decide)
  refine wpAny_bind (seqEpoch_at ho6 rfl (wpAny_bind (listUpdate_at ho6 rfl ?_ (hsz2 := ez))))
  have h' : Q .none { s with heap := sortedHeap s.heap a vs (Array.map (fun x => x.snd) (arrOf (SortSt.mk' general' (vs.toArray.zip vs.toArray) #[] 7 none))) } := by rw [em]; exact h
  rw [if_neg (by simp)]
  exact wpAny_pure ⟨_, rfl, h'⟩
def sLt (x y : Str) : Bool := decide (x.cps.toList < y.cps.toList)
theorem sLt_irr (x : Str) : sLt x x = false := decide_eq_false (List.lt_irrefl _)
theorem sLt_trans {x y z : Str} (h : sLt x y = true) (g : sLt y z = true) : sLt x z = true := decide_eq_true (List.lt_trans (of_decide_eq_true h) (of_decide_eq_true g))
theorem sLt_asym {x y : Str} (h : sLt x y = true) : sLt y x = false := decide_eq_false (List.lt_asymm (of_decide_eq_true h))
theorem sLt_tot {x y : Str} (h : x ≠ y) : sLt x y = true ∨ sLt y x = true := by
  rcases Std.lt_trichotomy x.cps.toList y.cps.toList with z | z | z
  · exact .inl (decide_eq_true z)
  · exact absurd (str_ext z) h
  · exact .inr (decide_eq_true z)
def lexT : List Str → List Str → Bool
  | [], [] => false
  | [], _ :: _ => true
  | _ :: _, [] => false
  | x :: xs, y :: ys => if x = y then lexT xs ys else sLt x y
theorem lexT_trans : ∀ {a b c : List Str}, lexT a b = true → lexT b c = true → lexT a c = true
  | [], [], c, h, _ => by cases h
  | [], _ :: _, [], _, g => by cases g
  | [], _ :: _, _ :: _, _, _ => rfl
  | _ :: _, [], c, h, _ => by cases h
  | _ :: _, _ :: _, [], _, g => by cases g
  | x :: a, y :: b, z :: c, h, g => by
    unfold lexT at h g ⊢
    by_cases e1 : x = y
    · subst e1
      rw [if_pos rfl] at h
      by_cases e2 : x = z
      · rw [if_pos e2] at g ⊢
        exact lexT_trans h g
      · rw [if_neg e2] at g ⊢
        exact g
    · rw [if_neg e1] at h
      by_cases e2 : y = z
      · subst e2
        rw [if_neg e1]; exact h
      · rw [if_neg e2] at g
        have hz := sLt_trans h g
        have e3 : x ≠ z := fun q => by rw [q, sLt_irr] at hz; cases hz
        rw [if_neg e3]; exact hz
theorem lexT_asym : ∀ {a b : List Str}, lexT a b = true → lexT b a = false
  | [], [], h => by cases h
  | [], _ :: _, _ => rfl
  | _ :: _, [], h => by cases h
  | x :: a, y :: b, h => by
    unfold lexT at h ⊢
    by_cases e1 : x = y
    · rw [if_pos e1] at h
      rw [if_pos e1.symm]
      exact lexT_asym h
    · rw [if_neg e1] at h
      rw [if_neg fun z => e1 z.symm]
      exact sLt_asym h
theorem lexT_tot : ∀ {a b : List Str}, a ≠ b → lexT a b = true ∨ lexT b a = true
  | [], [], h => absurd rfl h
  | [], _ :: _, _ => .inl rfl
  | _ :: _, [], _ => .inr rfl
  | x :: a, y :: b, h => by
    unfold lexT
    by_cases e1 : x = y
    · rw [if_pos e1, if_pos e1.symm]
      exact lexT_tot fun z => h (by rw [e1, z])
    · rw [if_neg e1, if_neg fun z => e1 z.symm]
      exact sLt_tot e1
def lexF (fin : Bool) : List Str → List Str → Bool
  | x :: xs, y :: ys => if x = y then lexF fin xs ys else sLt x y
  | _, _ => fin
theorem lexF_lexT : ∀ (a b : List Str), lexF (decide (a.length < b.length)) a b = lexT a b
  | [], [] => rfl
  | [], _ :: _ => by simp [lexF, lexT]
  | _ :: _, [] => by simp [lexF, lexT]
  | x :: a, y :: b => by
    unfold lexF lexT
    rw [← lexF_lexT a b]
    have : decide ((x :: a).length < (y :: b).length) = decide (a.length < b.length) := by simp
    rw [this]
theorem katLex_strs {prog : Program} {w : World} {A : Around} {fin : Bool} {Q : Bool → Shared → Prop} {s : Shared} : ∀ {xs ys : List Str} {us vs : List Value} (i : Nat), StrsAre us xs → StrsAre vs ys → Q (lexF fin xs ys) s → W.KatLex prog w A true fin Q (us.zip vs) i s
  | [], ys, _, vs, i, .nil, _, q => by
    cases ys <;> exact W.kat_nil q
  | _ :: _, [], _, _, i, .cons _ _ _, .nil, q => W.kat_nil q
  | x :: xs, y :: ys, _, _, i, .cons _ t hx, .cons _ u hy, q => by
    refine W.kat_cons (wpAny_eqBool_str ?_)
    unfold lexF at q
    refine W.kat_go (fun e => W.kat_yes (katLex_strs (i + 1) hx hy ?_)) (fun e => W.kat_no ?_)
    · rw [if_pos (of_decide_eq_true e)] at q; exact q
    · rw [if_neg (of_decide_eq_false e)] at q
      cases i with
      | zero => exact oneLt_str q
      | succ i => exact W.kat_one _ _ (P.lt_str q)
def TupS (h : Heap) (v : Value) (k : List Str) : Prop := ∃ a o its n, v = .ref a ∧ h.get? a = some o ∧ o.cls = .type "tuple" ∧ o.data = .seq its n ∧ StrsAre its.toList k
theorem TupS.at {h h' : Heap} {v : Value} {k : List Str} (x : TupS h v k) (kp : ∀ a o, v = .ref a → h.get? a = some o → h'.get? a = some o) : TupS h' v k := by
  obtain ⟨a, o, its, n, e, h1, h2, h3, h4⟩ := x
  exact ⟨a, o, its, n, e, kp a o e h1, h2, h3, h4⟩
theorem katTups {h : Heap} : ∀ {vs : List Value} {ks : List (List Str)}, Paired (TupS h) vs ks → (∀ k ∈ ks, k ≠ []) → ∃ fs, W.KatTups h vs fs ∧ fs.length = vs.length ∧ ∀ v ∈ fs, ∃ x t, v = .str x t
  | _, _, .nil, _ => ⟨[], W.KatTups.nil, rfl, by simp⟩
  | _, _, .cons (b := k) hv t, hn => by
    obtain ⟨a, o, its, n, rfl, h1, h2, h3, h4⟩ := hv
    obtain ⟨fs, g1, g2, g3⟩ := katTups t fun q hq => hn q (List.mem_cons_of_mem _ hq)
    have hk := hn k List.mem_cons_self
    cases hits : its.toList with
    | nil => rw [hits] at h4; cases h4; exact absurd rfl hk
    | cons f r =>
      rw [hits] at h4
      cases h4 with
      | cons x tk h4 =>
        refine ⟨.str x tk :: fs, W.KatTups.cons h1 h2 h3 ?_ g1, by rw [List.length_cons, List.length_cons, g2], ?_⟩
        · have : its[0]? = its.toList[0]? := by simp
          rw [this, hits]; rfl
        · intro v hv
          rcases List.mem_cons.mp hv with rfl | hv
          · exact ⟨_, _, rfl⟩
          · exact g3 v hv
theorem lsort_tups {prog : Program} {w : World} {A : Around} {E : Value → Shared → Prop} {s : Shared} {h₀ : Heap} {L D : Addr} {m : Str → Option Value} {news : List (Addr × Obj)} {vs : List Value} {ks : List (List Str)} {c0 : Nat} {Q : Value → Shared → Prop}
    (F : Fr h₀ L s.heap m) (N : News h₀ L s.heap ((D, W.listOf vs.toArray c0) :: news)) (hD : ∀ q ∈ news, q.1 ≠ D) (hk : Paired (TupS s.heap) vs ks) (hin : ∀ v ∈ vs, ∀ a, v = .ref a → ∃ o, (a, o) ∈ news) (hne : ∀ k ∈ ks, k ≠ []) (hnd : ks.Nodup) (h2 : 2 ≤ vs.length) (h64 : vs.length < 64)
    (h : ∀ (p : Array Nat) (h' : Heap) (c : Nat), p.Perm (List.range vs.length).toArray → Ken.Asc (fun i j => lexT (ks.getD i []) (ks.getD j [])) p vs.length → Fr h₀ L h' m → News h₀ L h' ((D, W.listOf (p.toList.map fun i => vs.getD i .none).toArray c) :: news) → Q .none { s with heap := h' }) :
    wpAny (model prog w) A (call (.builtin "list.sort") [.ref D]) Q E s := by
  have hl := Paired.length hk
  refine W.kat_lsort F N (W.UpdF.head hD) (by simp) h2 h64 fun e1 h' F' N' => ?_
  have kp : ∀ v ∈ vs, ∀ a o, v = .ref a → s.heap.get? a = some o → h'.get? a = some o := fun v hv a o e g => by
    obtain ⟨o', ho'⟩ := hin v hv a e
    have g1 := (N (a, o') (List.mem_cons_of_mem _ ho')).1
    have g2 := (N' (a, o') (List.mem_cons_of_mem _ ho')).1
    rw [g] at g1
    cases g1
    exact g2
  have hk' : Paired (TupS h') vs ks := by
    have gen : ∀ {us : List Value} {js : List (List Str)}, Paired (TupS s.heap) us js → (∀ v ∈ us, v ∈ vs) → Paired (TupS h') us js := by
      intro us js hp
      induction hp with
      | nil => intro _; exact .nil
      | cons a t ih => intro hs; exact .cons (a.at (kp _ (hs _ List.mem_cons_self))) (ih fun v hv => hs v (List.mem_cons_of_mem _ hv))
    exact gen hk fun _ z => z
  obtain ⟨fs, g1, g2, g3⟩ := katTups hk' hne
  refine W.kat_kind (T := .type "str") g1 (by omega) (fun v hv => ?_) (by decide) ?_
  · obtain ⟨x, t, rfl⟩ := g3 v hv
    exact fun A Q E s _ q => wpAny_pure q
  have getK : ∀ i, i < vs.length → ∃ v k, vs.getD i .none = v ∧ ks.getD i [] = k ∧ TupS h' v k := fun i hi => by
    obtain ⟨k, e, q⟩ := Ken.paired_get hk' (List.getElem?_eq_getElem hi)
    exact ⟨vs[i], k, by simp [hi], by simp [e], q⟩
  have O : Ken.TotOrd vs.length (fun i j => lexT (ks.getD i []) (ks.getD j [])) := by
    refine ⟨fun a b c _ _ _ => lexT_trans, fun a b ha hb hab => lexT_tot fun z => hab ?_, fun a b _ _ => lexT_asym⟩
    have ha' : a < ks.length := by omega
    have hb' : b < ks.length := by omega
    have e : ks[a] = ks[b] := by simpa [ha', hb'] using z
    exact (List.getElem_inj hnd).mp e
  refine Ken.wp_sort O (S := fun s' => s' = { s with heap := h' }) (fun i j C s' hi hj hij hs hC => ?_) h2 _ rfl fun p s' hp ha hs => ?_
  · subst hs
    obtain ⟨v1, k1, e1', e2', a1, o1, its1, n1, rfl, q1, q2, q3, q4⟩ := getK i hi
    obtain ⟨v2, k2, f1, f2, a2, o2, its2, n2, rfl, r1, r2, r3, r4⟩ := getK j hj
    unfold W.kas_ask
    rw [e1', f1]
    refine W.kat_lt q1 q3 r1 r3 (katLex_strs 0 q4 r4 ?_)
    have l1 : its1.size = k1.length := by rw [← Array.length_toList]; exact q4.length
    have l2 : its2.size = k2.length := by rw [← Array.length_toList]; exact r4.length
    rw [l1, l2, lexF_lexT]
    have := hC _ rfl
    dsimp only at this
    rw [e2', f2] at this
    exact this
  · subst hs
    exact W.KasFin.intro F' N' (W.UpdF.head hD) fun h'' c F'' N'' => h p h'' c hp ha F'' N''
section
variable {X : Cx}
def keyS : List Key → List Str
  | [] => []
  | .inr x :: r => x :: keyS r
  | .inl _ :: r => keyS r
def allS (k : List Key) : Bool := k.all fun q => match q with
  | .inr _ => true
  | .inl _ => false
theorem keyS_kV : ∀ {k : List Key}, allS k = true → k.map kV = (keyS k).map V.str
  | [], _ => rfl
  | .inr x :: r, h => by
    have h' : allS r = true := by simpa [allS] using h
    show V.str x :: r.map kV = V.str x :: (keyS r).map V.str
    rw [keyS_kV h']
  | .inl _ :: r, h => by simp [allS] at h
theorem keyS_inj : ∀ {a b : List Key}, allS a = true → allS b = true → keyS a = keyS b → a = b
  | [], [], _, _, _ => rfl
  | [], .inr _ :: _, _, _, e => by cases e
  | [], .inl _ :: _, _, h, _ => by simp [allS] at h
  | .inr _ :: _, [], _, _, e => by cases e
  | .inl _ :: _, _, h, _, _ => by simp [allS] at h
  | .inr _ :: _, .inl _ :: _, _, h, _ => by simp [allS] at h
  | .inr x :: a, .inr y :: b, ha, hb, e => by
    have ha' : allS a = true := by simpa [allS] using ha
    have hb' : allS b = true := by simpa [allS] using hb
    have e1 : x = y := List.cons.inj e |>.1
    have e2 : keyS a = keyS b := List.cons.inj e |>.2
    rw [e1, keyS_inj ha' hb' e2]
theorem objOk_has {P : Program} {w : World} {H : Hp} {h : Heap} {a : Addr} {o : HO} (x : ObjOk P w H h a o) : ∃ ob, h.get? a = some ob := by
  cases o with
  | lst xs => obtain ⟨_, _, _, _, e⟩ := x; exact ⟨_, e⟩
  | tup xs => obtain ⟨_, _, _, p, e, _⟩ := x; exact ⟨_, e⟩
  | dK kvs => obtain ⟨_, _, _, _, o, _, _, e, _⟩ := x; exact ⟨_, e⟩
  | dT kvs => obtain ⟨_, _, _, _, o, _, _, e, _⟩ := x; exact ⟨_, e⟩
  | set S n => obtain ⟨o, _, _, _, e, _⟩ := x; exact ⟨_, e⟩
  | ins C dx fs => obtain ⟨_, _, _, e, _⟩ := x; exact ⟨_, e⟩
  | own y => obtain ⟨_, e⟩ := x; exact ⟨_, e⟩
  | xd fs => obtain ⟨_, ⟨_, _, _, e, _⟩, _⟩ := x; exact ⟨_, e⟩
  | rng lo hi => obtain ⟨_, _, _, e⟩ := x; exact ⟨_, e⟩
  | frz ob u => obtain ⟨e, _⟩ := x; exact ⟨_, e⟩
  | tbl ps => exact ⟨_, show h.get? a = some _ from x⟩
  | met f y => exact ⟨_, show h.get? a = some _ from x⟩
  | ext φ => obtain ⟨_, ⟨_, e⟩, _⟩ := x; exact ⟨_, e⟩
theorem perm_map {α : Type} {l : List α} {d : α} {p : Array Nat} (h : p.Perm (List.range l.length).toArray) : List.Perm (p.toList.map fun i => l.getD i d) l := by
  have h1 : p.toList.Perm (List.range l.length) := by simpa using (Array.perm_iff_toList_perm.mp h)
  have h2 := h1.map fun i => l.getD i d
  have h3 : (List.range l.length).map (fun i => l.getD i d) = l := by
    apply List.ext_getElem?
    intro j
    rw [List.getElem?_map]
    by_cases hj : j < l.length
    · rw [List.getElem?_range hj]; simp [hj]
    · rw [List.getElem?_eq_none (by simpa using hj), List.getElem?_eq_none (by omega)]; rfl
  rw [h3] at h2
  exact h2
theorem paired_pick {α β : Type} {F : α → β → Prop} {l : List α} {m : List β} {da : α} {db : β} (h : Paired F l m) : ∀ {is : List Nat}, (∀ i ∈ is, i < l.length) → Paired F (is.map fun i => l.getD i da) (is.map fun i => m.getD i db)
  | [], _ => .nil
  | i :: is, hs => by
    refine .cons ?_ (paired_pick h fun j hj => hs j (List.mem_cons_of_mem _ hj))
    have hi := hs i List.mem_cons_self
    obtain ⟨y, e, q⟩ := Ken.paired_get h (List.getElem?_eq_getElem hi)
    have e1 : l.getD i da = l[i] := by simp [hi]
    have e2 : m.getD i db = y := by simp [e]
    show F (l.getD i da) (m.getD i db)
    rw [e1, e2]; exact q
theorem inv_new {pins : List (Addr × Obj)} {σ : St} {H : Hp} {s : Shared} {h2 : Heap} {D : Addr} {o0 : HO} {tk : Nat} {m : Str → Option Value} (I : Inv X pins σ H s) (hm : s.heap.Ns X.env.locals m) (hk : ∀ b o, b ≠ X.env.locals → s.heap.get? b = some o → h2.get? b = some o) (hn : h2.Ns X.env.locals m) (hD : s.heap.get? D = none)
    (hob : ObjOk X.prog X.w (upd H D o0) h2 D o0) : Inv X pins σ (upd H D o0) { s with heap := h2, toks := tk } ∧ H D = none := by
  have hH : H D = none := by
    cases e : H D with
    | none => rfl
    | some ob =>
      obtain ⟨o, ho⟩ : ∃ o, s.heap.get? D = some o := objOk_has (I.hok D ob e)
      rw [hD] at ho; cases ho
  have ne : ∀ b o, s.heap.get? b = some o → b ≠ D := fun b o e z => by subst z; rw [hD] at e; cases e
  have neH : ∀ b u, H b = some u → b ≠ D := fun b u e => ne_of_none e hH
  refine ⟨?_, hH⟩
  refine I.step (g' := s.gens) (d' := s.drawn) (t' := tk) (ch := []) (fun _ z => nomatch z) (fun b o hL _ _ e _ => hk b o hL e) (fun b o hL _ _ e _ => ⟨o.slots, hk b o hL e⟩) (fun b o _ e n => by rw [upd_ne (ne b o e)]; exact n) (fun b o _ e => ?_)
    (fun b xs q => by rw [upd_ne (neH _ _ q)]; exact q) (fun b o u q => by rw [upd_ne (neH _ _ q)]; exact q) (fun b ps q => ⟨#[], by rw [upd_ne (neH _ _ q), q]; simp⟩) (fun m' hm' => ?_) (fun b ob e => ?_) I.bare
  · by_cases hb : b = X.env.locals
    · subst hb
      obtain ⟨o', es, ep, q, _⟩ := hn
      exact ⟨o', q⟩
    · exact ⟨o, hk b o hb e⟩
  · rw [hm'.eq_nsMap, ← hm.eq_nsMap]; exact hn
  · by_cases hb : b = D
    · subst hb
      rw [upd_same] at e
      cases e
      exact hob
    · rw [upd_ne hb] at e
      refine (I.hok b ob e).stay (fun c v hcv q => hk c v ?_ q) (fun c q => by rw [upd_ne (neH _ _ q)]; exact q) fun c xs q => by rw [upd_ne (neH _ _ q)]; exact q
      rcases hcv with rfl | hcv
      · exact ne_of_none e I.free
      · exact ne_of_none hcv I.free
theorem call_sortedT (hc : X.calm = true) : CallR X (.builtin "sorted") (fun xs H Q => ∃ a kvs, xs = [.ref a] ∧ H a = some (.dT kvs) ∧ (∀ kv ∈ kvs, allS kv.1 = true ∧ kv.1 ≠ []) ∧ kvs.length < 64 ∧
    ∀ l (us : List V) (ks : List (List Key)), H l = none → List.Perm ks (kvs.map (·.1)) → ks.Pairwise (fun a b => lexT (keyS a) (keyS b) = true) → Paired (fun (u : V) (k : List Key) => ∃ b, u = .ref b ∧ H b = some (.tup (k.map kV))) us ks → Q (.ref l) (upd H l (.lst us))) := by
  intro pins s σ H xs us Q I r h
  obtain ⟨a, kvs, rfl, ha, hks, hn, q⟩ := h
  obtain ⟨u, rfl, ru⟩ := vals1 r
  cases ru
  obtain ⟨hz, hsys, ys, rel, o, es, ep, ho, hx, hd, hes, hnd⟩ : ObjOk X.prog X.w H s.heap a (.dT kvs) := I.hok a _ ha
  obtain ⟨m, hm, hloc⟩ := I.loc
  have haL : a ≠ X.env.locals := ne_of_none ha I.free
  have hlen := Paired.length rel
  have hel : es.size = kvs.length := by rw [← Array.length_toList, hes, List.length_map]; omega
  have N0 := Att.news_ledger (L := X.env.locals) haL ho
  refine W.kdu_sorted (kdl_ents hsys) (I.ok.hd hc) (Att.fr_all hm) N0 ⟨o, ho, hx, hd⟩ (by omega) fun D h' tk vs F' N' hlow hvl hvs => ?_
  have hDL : D ≠ X.env.locals := (N' _ List.mem_cons_self).2.1
  have hgD : h'.get? D = some (W.listOf vs.toArray 0) := (N' _ List.mem_cons_self).1
  have inN : ∀ b ob, b ≠ X.env.locals → s.heap.get? b = some ob → (b, ob) ∈ ([] ++ (a, o) :: Att.ledger s.heap X.env.locals a) := fun b ob hb e => by
    by_cases hba : b = a
    · subst hba; rw [ho] at e; cases e; exact List.mem_cons_self
    · exact List.mem_cons_of_mem _ (Att.mem_ledger.mpr ⟨hb, hba, e⟩)
  have hsD : s.heap.get? D = none := by
    cases e : s.heap.get? D with
    | none => rfl
    | some ob => exact absurd (hlow _ (inN D ob hDL e)) (Nat.lt_irrefl _)
  have hvy : vs = ys.map fun q => Value.ref q.2.1 := by
    apply List.ext_getElem?
    intro j
    cases e : vs[j]? with
    | none =>
      have : vs.length ≤ j := List.getElem?_eq_none_iff.mp e
      rw [List.getElem?_eq_none (by rw [List.length_map]; omega)]
    | some v =>
      obtain ⟨en, h1, rfl⟩ := hvs j v e
      have h1' : es.toList[j]? = some en := by simpa using h1
      rw [hes, List.getElem?_map] at h1'
      rw [List.getElem?_map]
      cases e2 : ys[j]? with
      | none => rw [e2] at h1'; cases h1'
      | some y => rw [e2] at h1'; cases h1'; rfl
  have pv : Paired (fun (v : Value) (k : List Key) => ∃ b, v = .ref b ∧ H b = some (.tup (k.map kV))) vs (kvs.map (·.1)) := by
    rw [hvy]
    have gen : ∀ {ks : List (List Key × V)} {qs : List (List Key × Addr × Value)}, Paired (fun (p : List Key × V) (q : List Key × Addr × Value) => p.1 = q.1 ∧ H q.2.1 = some (.tup (p.1.map kV)) ∧ RelV p.2 q.2.2) ks qs → Paired (fun (v : Value) (k : List Key) => ∃ b, v = .ref b ∧ H b = some (.tup (k.map kV))) (qs.map fun q => Value.ref q.2.1) (ks.map (·.1)) := by
      intro ks qs hp
      induction hp with
      | nil => exact .nil
      | cons hh t ih => exact .cons ⟨_, rfl, hh.2.1⟩ ih
    exact gen rel
  have hkl : vs.length = kvs.length := by omega
  have fin : ∀ (h2 : Heap) (tk2 c : Nat) (is : List Nat), (∀ b ob, b ≠ X.env.locals → s.heap.get? b = some ob → h2.get? b = some ob) → h2.Ns X.env.locals m → h2.get? D = some (W.listOf (is.map fun i => vs.getD i .none).toArray c) → (∀ i ∈ is, i < vs.length) →
      List.Perm (is.map fun i => (kvs.map (·.1)).getD i []) (kvs.map (·.1)) → (is.map fun i => (kvs.map (·.1)).getD i []).Pairwise (fun a b => lexT (keyS a) (keyS b) = true) → EP X pins σ Q (.ref D) { s with heap := h2, toks := tk2 } := by
    intro h2 tk2 c is hk2 hn2 hg2 hlt hp hpw
    have pp := paired_pick (da := Value.none) (db := ([] : List Key)) pv hlt
    have mk : ∀ {us : List Value} {ks : List (List Key)}, Paired (fun (v : Value) (k : List Key) => ∃ b, v = .ref b ∧ H b = some (.tup (k.map kV))) us ks → ∃ ws, Vals ws us ∧ Paired (fun (u : V) (k : List Key) => ∃ b, u = .ref b ∧ H b = some (.tup (k.map kV))) ws ks := by
      intro us ks hp
      induction hp with
      | nil => exact ⟨[], .nil, .nil⟩
      | cons hh t ih =>
        obtain ⟨b, rfl, hb⟩ := hh
        obtain ⟨ws, g1, g2⟩ := ih
        exact ⟨.ref b :: ws, .cons rfl g1, .cons ⟨b, rfl, hb⟩ g2⟩
    obtain ⟨ws, g1, g2⟩ := mk pp
    have lw : ws.length ≤ sizeLine := by
      have e1 := g1.length
      rw [List.length_map] at e1
      have e2 := hp.length_eq
      rw [List.length_map, List.length_map] at e2
      exact Nat.le_trans (by omega : ws.length ≤ 64) (by decide)
    obtain ⟨I2, hHD⟩ := inv_new (o0 := .lst ws) (tk := tk2) I hm hk2 hn2 hsD ⟨lw, _, c, g1, hg2⟩
    exact ⟨.ref D, _, I2, rfl, q D ws _ hHD hp hpw g2⟩
  have kpN : ∀ {h2 : Heap} {ob : Obj}, News (Att.noObjs s.heap) X.env.locals h2 ((D, ob) :: ([] ++ (a, o) :: Att.ledger s.heap X.env.locals a)) → ∀ b ob', b ≠ X.env.locals → s.heap.get? b = some ob' → h2.get? b = some ob' := fun N2 b ob' hb e => (N2 (b, ob') (List.mem_cons_of_mem _ (inN b ob' hb e))).1
  by_cases h2 : vs.length < 2
  · refine sort_small h2 hgD ?_
    obtain ⟨e1, he1⟩ := sortedHeap_at (out := vs.toArray) hgD
    have old : ∀ b ob, b ≠ D → h'.get? b = some ob → (sortedHeap h' D vs vs.toArray).get? b = some ob := fun b ob hb e => (sortedHeap_old hb (Heap.lt_size e)).trans e
    have hr : ((List.range vs.length).map fun i => vs.getD i Value.none) = vs := by
      apply List.ext_getElem?
      intro j
      rw [List.getElem?_map]
      by_cases hj : j < vs.length
      · rw [List.getElem?_range hj]; simp [hj]
      · rw [List.getElem?_eq_none (by simpa using hj), List.getElem?_eq_none (by omega)]; rfl
    have hr2 : ((List.range vs.length).map fun i => (kvs.map (·.1)).getD i []) = kvs.map (·.1) := by
      apply List.ext_getElem?
      intro j
      rw [List.getElem?_map]
      by_cases hj : j < vs.length
      · rw [List.getElem?_range hj]
        have : j < kvs.length := by omega
        simp [this]
      · rw [List.getElem?_eq_none (by simpa using hj), List.getElem?_eq_none (by rw [List.length_map]; omega)]; rfl
    refine fin _ tk e1 (List.range vs.length) (fun b ob hb e => ?_) ?_ (by rw [hr]; exact he1) (fun i hi => by simpa using hi) (by rw [hr2]) ?_
    · refine old b ob (fun z => by subst z; rw [hsD] at e; cases e) (kpN N' b ob hb e)
    · obtain ⟨o', es', ep', q1, q2⟩ := F'.ns
      exact ⟨o', es', ep', old _ _ (Ne.symm hDL) q1, q2⟩
    · rw [hr2]
      have hk1 : (kvs.map (·.1)).length < 2 := by rw [List.length_map]; omega
      generalize kvs.map (·.1) = l at hk1 ⊢
      cases l with
      | nil => exact .nil
      | cons x l =>
        cases l with
        | nil => exact List.pairwise_singleton _ _
        | cons y l => exact absurd hk1 (by rw [List.length_cons, List.length_cons]; omega)
  · have hkk : ∀ k ∈ kvs.map (·.1), allS k = true ∧ k ≠ [] := fun k hk => by
      obtain ⟨kv, hkv, rfl⟩ := List.mem_map.mp hk
      exact hks kv hkv
    have neS : ∀ {k : List Key}, allS k = true → k ≠ [] → keyS k ≠ [] := fun {k} h1 h2 z => by
      cases k with
      | nil => exact h2 rfl
      | cons q r =>
        cases q with
        | inl i => simp [allS] at h1
        | inr x => cases z
    have hnd' : (kvs.map (·.1)).Nodup := by
      have e : kvs.map (·.1) = ys.map (·.1) := by
        have gen : ∀ {ks : List (List Key × V)} {qs : List (List Key × Addr × Value)}, Paired (fun (p : List Key × V) (q : List Key × Addr × Value) => p.1 = q.1 ∧ H q.2.1 = some (.tup (p.1.map kV)) ∧ RelV p.2 q.2.2) ks qs → ks.map (·.1) = qs.map (·.1) := by
          intro ks qs hp
          induction hp with
          | nil => rfl
          | cons hh t ih => rw [List.map_cons, List.map_cons, hh.1, ih]
        exact gen rel
      rw [e]; exact hnd
    have tS : Paired (TupS h') vs ((kvs.map (·.1)).map keyS) := by
      have gen : ∀ {us : List Value} {ks : List (List Key)}, Paired (fun (v : Value) (k : List Key) => ∃ b, v = .ref b ∧ H b = some (.tup (k.map kV))) us ks → (∀ k ∈ ks, allS k = true) → Paired (TupS h') us (ks.map keyS) := by
        intro us ks hp
        induction hp with
        | nil => intro _; exact .nil
        | cons hh t ih =>
          intro hs
          obtain ⟨b, rfl, hb⟩ := hh
          refine .cons ?_ (ih fun k hk => hs k (List.mem_cons_of_mem _ hk))
          obtain ⟨_, its, rv, ob, g1, g2, n2, g3⟩ := I.hok b _ hb
          rw [keyS_kV (hs _ List.mem_cons_self)] at rv
          exact ⟨b, ob, its.toArray, n2, rfl, kpN N' b ob (ne_of_none hb I.free) g1, g2, g3, by simpa using strsAre_of rv⟩
      exact gen pv fun k hk => (hkk k hk).1
    have ndS : ((kvs.map (·.1)).map keyS).Nodup := by
      have gen : ∀ l : List (List Key), (∀ k ∈ l, allS k = true) → l.Nodup → (l.map keyS).Nodup := by
        intro l
        induction l with
        | nil => intro _ _; exact List.nodup_nil
        | cons k l ih =>
          intro h1 h2
          have h3 := List.nodup_cons.mp h2
          rw [List.map_cons, List.nodup_cons]
          refine ⟨fun hm => ?_, ih (fun q hq => h1 q (List.mem_cons_of_mem _ hq)) h3.2⟩
          obtain ⟨q, hq, e⟩ := List.mem_map.mp hm
          have := keyS_inj (h1 q (List.mem_cons_of_mem _ hq)) (h1 k List.mem_cons_self) e
          exact h3.1 (this ▸ hq)
      exact gen _ (fun k hk => (hkk k hk).1) hnd'
    refine lsort_tups (ks := (kvs.map (·.1)).map keyS) F' N' (fun x hx => Nat.ne_of_lt (hlow x hx)) tS (fun v hv b e => ?_) (fun k hk => ?_) ndS (by omega) (by omega) fun p h2 c hp ha F2 N2 => ?_
    · subst e
      obtain ⟨j, hj, ej⟩ := List.mem_iff_getElem.mp hv
      obtain ⟨k, _, b', eb, hb⟩ := Ken.paired_get pv (List.getElem?_eq_getElem hj)
      rw [ej] at eb
      have eb' : b = b' := by injection eb
      subst eb'
      obtain ⟨_, its, rv, ob, g1, _⟩ := I.hok b _ hb
      exact ⟨ob, inN b ob (ne_of_none hb I.free) g1⟩
    · obtain ⟨k', hk', rfl⟩ := List.mem_map.mp hk
      exact neS (hkk k' hk').1 (hkk k' hk').2
    · have P := Ken.permOk_of hp
      have hpl : p.toList.length = vs.length := by rw [Array.length_toList]; exact P.size
      have pl : ∀ i ∈ p.toList, i < vs.length := fun i hi => by
        have h1 : p.toList.Perm (List.range vs.length) := by simpa using (Array.perm_iff_toList_perm.mp hp)
        simpa using h1.mem_iff.mp hi
      refine fin h2 tk c p.toList (kpN N2) F2.ns (N2 _ List.mem_cons_self).1 pl ?_ ?_
      · refine perm_map ?_
        rw [List.length_map, ← hkl]; exact hp
      · rw [List.pairwise_iff_getElem]
        intro i j hi hj hij
        rw [List.length_map] at hi hj
        have := ha i j hij (by omega)
        have gi : Ken.gd p i = p.toList[i] := Ken.gd_eq (by have : i < p.size := by rw [P.size]; omega
                                                            simp [this])
        have gj : Ken.gd p j = p.toList[j] := Ken.gd_eq (by have : j < p.size := by rw [P.size]; omega
                                                            simp [this])
        rw [gi, gj] at this
        have li := pl _ (List.getElem_mem hi)
        have lj := pl _ (List.getElem_mem hj)
        have ki : p.toList[i] < kvs.length := by omega
        have kj : p.toList[j] < kvs.length := by omega
        have hgi : (kvs.map (·.1)).getD (p.toList[i]) [] = (kvs[p.toList[i]]).1 := by rw [List.getD_eq_getElem?_getD, List.getElem?_map, List.getElem?_eq_getElem ki]; rfl
        have hgj : (kvs.map (·.1)).getD (p.toList[j]) [] = (kvs[p.toList[j]]).1 := by rw [List.getD_eq_getElem?_getD, List.getElem?_map, List.getElem?_eq_getElem kj]; rfl
        have hsi : ((kvs.map (·.1)).map keyS).getD (p.toList[i]) [] = keyS (kvs[p.toList[i]]).1 := by rw [List.getD_eq_getElem?_getD, List.getElem?_map, List.getElem?_map, List.getElem?_eq_getElem ki]; rfl
        have hsj : ((kvs.map (·.1)).map keyS).getD (p.toList[j]) [] = keyS (kvs[p.toList[j]]).1 := by rw [List.getD_eq_getElem?_getD, List.getElem?_map, List.getElem?_map, List.getElem?_eq_getElem kj]; rfl
        replace this : lexT (((kvs.map (·.1)).map keyS).getD (p.toList[i]) []) (((kvs.map (·.1)).map keyS).getD (p.toList[j]) []) = true := this
        rw [hsi, hsj] at this
        rw [List.getElem_map, List.getElem_map, hgi, hgj]
        exact this
end
end L2
set_option Elab.async false
set_option linter.all false
set_option maxRecDepth 100000
set_option maxHeartbeats 2000000
namespace L2
open PySem PySem.Spec PyProof.Rows
section
variable {X : Cx} {pins : List (Addr × Obj)} {σ : St} {H : Hp} {s : Shared} {a : Addr} {y v : V} {u r : Value} {A : Around} {E : Value → Shared → Prop}
theorem d_dictSet {H' : Hp} {Q : Unit → Shared → Prop} (hu : A.units < cLine) (I : Inv X pins σ H s) (g : DPut H a y v H') (ry : RelV y u) (rv : RelV v r) (h : ∀ s', Inv X pins σ H' s' → Q () s') :
    wpAny (model X.prog X.w) A (dictSet a u r) Q E s := by
  rcases g with ⟨kvs, k, e, ey, l, eH⟩ | ⟨kvs, k, b, e, ey, eb, l, eH⟩
  · subst ey eH
    obtain ⟨z, hd, vs, rel, dd⟩ := dk_of I.hok e
    have hz : vs.length ≤ sizeLine := by rw [← rel.length]; exact z
    have hl : (putK kvs k v).length ≤ sizeLine := by have := length_putK kvs k v; omega
    refine wpAny_dictSet_pairs (hsz := hz) (kV_is ry) dd fun h' dd' hs => h _ ?_
    have he : ∃ q, h'.get? a = some q := let ⟨q, _, _, hq, _⟩ := dd'; ⟨q, hq⟩
    exact d_write I (by rw [e]; exact True.intro) hs he (dk_new hl hd (rel.put k rv) dd')
  · subst ey eH
    cases (show u = Value.ref b from ry)
    obtain ⟨z, hd, xs, rel, dd⟩ := dt_of I.hok e
    have hz : xs.length ≤ sizeLine := by rw [← Paired.length rel]; exact z
    have hl : (putK kvs k v).length ≤ sizeLine := by have := length_putK kvs k v; omega
    refine wpAny_dictSet_heap (hsz := hz) (knd := tupleKind (mixKind X.prog X.w)) hu (key_of I.hok eb) dd fun h' dd' hs => h _ ?_
    obtain ⟨q, es, ep, hq, h2, h3, h4, _, h5⟩ := dd'
    refine d_write I (by rw [e]; exact True.intro) hs ⟨q, hq⟩ ⟨hl, hd, _, (rel.put k eb rv).keeps fun c ys ec => ?_, q, es, ep, hq, h2, h3, h4, h5⟩
    rw [upd_ne (ne_of ec e (fun z => nomatch z))]
    exact ec
end
def kPut (tk tv : TE) (acc : Addr) : TK := fun σ H N => tk σ H fun y H1 => tv σ H1 fun x H2 => ∃ H3, DPut H2 acc y x H3 ∧ N H3
section
variable {Y : Cx}
theorem pk_emitD {k v : Expr} {tk tv : TE} {acc : Addr} (hu : Y.A.units < cLine) (hk : PE Y k tk) (hv : PE Y v tv) : PTn Y (emitD k v acc Y.env) (kPut tk tv acc) := by
  intro pins s σ H N I h
  refine wpAny_bind (thn (hk pins s σ H _ I h) fun kv s1 ⟨y, H1, I1, r1, h1⟩ => ?_)
  refine wpAny_bind (wpAny_holding (thn (hv pins s1 σ H1 _ I1 h1) fun vv s2 ⟨x, H2, I2, r2, H3, g, n⟩ => ?_))
  refine wpAny_bind (wpAny_standAt (wpAny_holding ?_))
  exact d_dictSet hu I2 g r1 r2 fun s' I' => ⟨σ, _, I', Wk.refl _, n⟩
end
section
variable {X : Cx} {scope : Scope} {cl : List (Str × Addr)} {N' : List Str} {nt : Nat} {ci : List Nat} {pins : List (Addr × Obj)} {σ : St} {H : Hp} {s : Shared}
theorem dT_obj {P : Program} {w : World} (H : Hp) (h : Heap) (a : Addr) (e : h.get? a = some { cls := .type "dict", dict := none, data := .dict #[] }) (hb : sysModules < a) : ObjOk P w (upd H a (.dT [])) h a (.dT []) :=
  ⟨Nat.zero_le _, beq_eq_false_iff_ne.mpr (Ne.symm (Nat.ne_of_lt hb)), [], .nil, _, #[], 0, e, ⟨rfl, rfl, rfl⟩, rfl, rfl, List.nodup_nil⟩
theorem pe_dc {ek ev tg iter : Expr} {ifs : List Expr} {gs : List Comprehension} {pos p0 : Pos} {wi : TI} {g : TG} {tk : Addr → TK} {body : Addr → Env → Sem Unit} (B : X.Ok → BlkOk X scope cl N' nt ci) (hc : X.calm = true) (hi : PI X tg iter wi)
    (hg : ∀ s H C ex, PG (blk X N' scope cl s H C ex) tg g) (htn : ∀ a env, TurnIs (.DictComp ek ev (⟨tg, iter, ifs, 0⟩ :: gs) scope pos) 0 tg p0 (.ref a) env (body a env))
    (hb : ∀ s H C ex a, PTn (blk X N' scope cl s H C ex) (body a (blk X N' scope cl s H C ex).env) (tk a)) (hs : ∀ x, foldedSetIterable iter X.env x = pure x := by intro _; rfl) :
    PE X (.DictComp ek ev (⟨tg, iter, ifs, 0⟩ :: gs) scope pos) (tComp nt ci wi g tk (.dT [])) := by
  intro pins s σ H Q I h
  rw [arm_eval_DictComp]
  refine cg_core (B I.ok) hc hi hg rfl (fun _ _ => den_D) htn hb (fun h => wpAny_newObj_type h) rfl dT_obj hs I h fun acc C s' H' I' q hm hf ho => ?_
  obtain ⟨m, hm⟩ := hm
  obtain ⟨f0, f1, f2, f3, f4, f5⟩ := hf
  exact ⟨m, hm, fun h' sb => ⟨.ref acc, H', I'.turned (t' := s'.toks) (fun b o hb e => (sb.2 b hb).trans e) f0 f1 f3 f4 f5, rfl, q⟩⟩
end
theorem comp_list {K : PySem.W.Frag} {a : Addr} {xs : List V} {σ0 : St} {g : TG} {tk : TK} {Q : Hp → Prop} {H : Hp} (Pv : Nat → Hp → Prop) (h0 : Pv 0 H) (hl : ∀ i H, i ≤ xs.length → Pv i H → SqL K H a xs)
    (hs : ∀ i x H (N : Hp → Prop), xs[i]? = some x → Pv i H → (∀ H', Pv (i + 1) H' → N H') → g x σ0 H fun σ4 H4 => Wk σ0 σ4 ∧ tk σ4 H4 N) (hd : ∀ H, Pv xs.length H → Q H) :
    ∃ W : Nat → Nat → Hp → Prop, (∃ m, W 0 m H) ∧ compW σ0 (Itl K a) g tk Q W := by
  refine ⟨fun i m H => m = xs.length - i ∧ i ≤ xs.length ∧ Pv i H, ⟨xs.length, by simp, Nat.zero_le _, h0⟩, ?_⟩
  rintro i m H ⟨rfl, hi, p⟩
  have q := hl i H hi p
  by_cases hlt : i < xs.length
  · refine .inr ⟨⟨xs, xs[i], q, by simp [hlt]⟩, fun x H' y => ?_⟩
    obtain ⟨e, y⟩ := y
    subst e
    exact hs i x H' _ (y xs q) p fun H5 p5 => ⟨xs.length - (i + 1), by omega, rfl, hlt, p5⟩
  · have e : i = xs.length := by omega
    subst e
    exact .inl ⟨⟨xs, q, Nat.le_refl _⟩, hd _ p⟩
theorem comp_tup {K : PySem.W.Frag} {a : Addr} {xs : List V} {σ0 : St} {g : TG} {tk : TK} {Q : Hp → Prop} {H : Hp} (Pv : Nat → Hp → Prop) (h0 : Pv 0 H) (hl : ∀ i H, i ≤ xs.length → Pv i H → SqT K H a xs)
    (hs : ∀ i x H (N : Hp → Prop), xs[i]? = some x → Pv i H → (∀ H', Pv (i + 1) H' → N H') → g x σ0 H fun σ4 H4 => Wk σ0 σ4 ∧ tk σ4 H4 N) (hd : ∀ H, Pv xs.length H → Q H) :
    ∃ W : Nat → Nat → Hp → Prop, (∃ m, W 0 m H) ∧ compW σ0 (Itt K a) g tk Q W := by
  refine ⟨fun i m H => m = xs.length - i ∧ i ≤ xs.length ∧ Pv i H, ⟨xs.length, by simp, Nat.zero_le _, h0⟩, ?_⟩
  rintro i m H ⟨rfl, hi, p⟩
  have q := hl i H hi p
  by_cases hlt : i < xs.length
  · refine .inr ⟨⟨xs, xs[i], q, by simp [hlt]⟩, fun x H' y => ?_⟩
    obtain ⟨e, y⟩ := y
    subst e
    exact hs i x H' _ (y xs q) p fun H5 p5 => ⟨xs.length - (i + 1), by omega, rfl, hlt, p5⟩
  · have e : i = xs.length := by omega
    subst e
    exact .inl ⟨⟨xs, q, Nat.le_refl _⟩, hd _ p⟩
section
variable {X : Cx} {K : PySem.W.Frag} {tg l : Expr} {tl : TE}
theorem pi_tupK (e : X.K = K) (hl : PE X l tl) : PI X tg l (iTup K tl) := by subst e; exact pi_tup hl
theorem pi_listK (e : X.K = K) (hl : PE X l tl) : PI X tg l (iList K tl) := by subst e; exact pi_list hl
theorem call_isiK (e : X.K = K) : CallR X (.builtin "isinstance") (rIsi K) := by subst e; exact call_isi
end
end L2
set_option Elab.async false
set_option linter.all false
set_option maxRecDepth 100000
set_option maxHeartbeats 2000000
namespace Ken
open PySem L2
def Tm.kids : Tm → List Tm
  | .nd _ a b => [a, b]
  | _ => []
def Tm.pre : Tm → List Tm
  | .low => [.low]
  | .ltr w => [.ltr w]
  | .nd k a b => .nd k a b :: (a.pre ++ b.pre)
theorem Tm.pre_len : ∀ t : Tm, t.pre.length = t.parts
  | .low => rfl
  | .ltr _ => rfl
  | .nd _ a b => by
    show (a.pre ++ b.pre).length + 1 = 1 + a.parts + b.parts
    rw [List.length_append, a.pre_len, b.pre_len]; omega
theorem Tm.pre_eq (t : Tm) : t.pre = t :: t.kids.flatMap Tm.pre := by
  cases t with
  | low => rfl
  | ltr w => rfl
  | nd k a b => show _ :: (a.pre ++ b.pre) = _ :: (a.pre ++ (b.pre ++ [])); rw [List.append_nil]
theorem Tm.pre_ok : ∀ {t : Tm}, t.ok → ∀ s ∈ t.pre, s.ok
  | .low, _, s, h => by rcases List.mem_singleton.mp h with rfl; trivial
  | .ltr w, h0, s, h => by rcases List.mem_singleton.mp h with rfl; exact h0
  | .nd k a b, h0, s, h => by
    rcases List.mem_cons.mp h with rfl | h
    · exact h0
    · rcases List.mem_append.mp h with h | h
      · exact Tm.pre_ok h0.1 s h
      · exact Tm.pre_ok h0.2 s h
def Tm.own : Tm → List Str
  | .low => ["low"]
  | .ltr w => ["letter", w]
  | .nd k _ _ => [k.str]
def Tm.spell (t : Tm) : List Str := t.pre.flatMap Tm.own
theorem spell_nd (k : Kd) (a b : Tm) : (Tm.nd k a b).spell = k.str :: (a.spell ++ b.spell) := by
  show (Tm.nd k a b :: (a.pre ++ b.pre)).flatMap Tm.own = _
  rw [List.flatMap_cons, List.flatMap_append]; rfl
theorem spell_pre : ∀ {s t : Tm} {l m : List Str}, s.spell ++ l = t.spell ++ m → s = t ∧ l = m
  | .low, .low, l, m, h => ⟨rfl, by have := List.cons.inj (show ("low" : Str) :: l = ("low" : Str) :: m from h); exact this.2⟩
  | .low, .ltr w, l, m, h => absurd (List.cons.inj (show ("low" : Str) :: l = ("letter" : Str) :: (w :: m) from h)).1 (by decide)
  | .low, .nd k a b, l, m, h => by
    rw [spell_nd] at h
    exact absurd (List.cons.inj (show ("low" : Str) :: l = k.str :: ((a.spell ++ b.spell) ++ m) from h)).1 (by cases k <;> decide)
  | .ltr w, .low, l, m, h => absurd (List.cons.inj (show ("letter" : Str) :: (w :: l) = ("low" : Str) :: m from h)).1 (by decide)
  | .ltr w, .ltr v, l, m, h => by
    have h1 := (List.cons.inj (show ("letter" : Str) :: (w :: l) = ("letter" : Str) :: (v :: m) from h)).2
    obtain ⟨e1, e2⟩ := List.cons.inj h1
    exact ⟨by rw [e1], e2⟩
  | .ltr w, .nd k a b, l, m, h => by
    rw [spell_nd] at h
    exact absurd (List.cons.inj (show ("letter" : Str) :: (w :: l) = k.str :: ((a.spell ++ b.spell) ++ m) from h)).1 (by cases k <;> decide)
  | .nd k a b, .low, l, m, h => by
    rw [spell_nd] at h
    exact absurd (List.cons.inj (show k.str :: ((a.spell ++ b.spell) ++ l) = ("low" : Str) :: m from h)).1 (by cases k <;> decide)
  | .nd k a b, .ltr w, l, m, h => by
    rw [spell_nd] at h
    exact absurd (List.cons.inj (show k.str :: ((a.spell ++ b.spell) ++ l) = ("letter" : Str) :: (w :: m) from h)).1 (by cases k <;> decide)
  | .nd k a b, .nd k' c d, l, m, h => by
    rw [spell_nd, spell_nd] at h
    obtain ⟨e1, e2⟩ := List.cons.inj (show k.str :: ((a.spell ++ b.spell) ++ l) = k'.str :: ((c.spell ++ d.spell) ++ m) from h)
    rw [List.append_assoc, List.append_assoc] at e2
    obtain ⟨f1, f2⟩ := spell_pre e2
    obtain ⟨g1, g2⟩ := spell_pre f2
    exact ⟨by rw [Kd.str_inj e1, f1, g1], g2⟩
theorem spell_inj {s t : Tm} (h : s.spell = t.spell) : s = t := (spell_pre (l := []) (m := []) (by rw [h])).1
theorem spell_ne (t : Tm) : t.spell ≠ [] := by
  cases t with
  | low => exact fun z => nomatch z
  | ltr w => exact fun z => nomatch z
  | nd k a b => rw [spell_nd]; exact fun z => nomatch z
theorem spell_len : ∀ t : Tm, t.spell.length ≤ 2 * t.parts
  | .low => by decide
  | .ltr _ => by show 2 ≤ 2 * 1; decide
  | .nd k a b => by
    rw [spell_nd, List.length_cons, List.length_append]
    have := spell_len a
    have := spell_len b
    show _ ≤ 2 * (1 + a.parts + b.parts)
    omega
theorem paired_keepT {K : PySem.W.Frag} {H H' : Hp} (k : KeepT K H H') {us : List V} {ts : List Tm} (h : Paired (IsT K H) us ts) : Paired (IsT K H') us ts := Paired.mapP h fun _ _ z => z.keep k
def sp_within (K : PySem.W.Frag) : Sp := fun vs H Q _ => ∃ (v : V) (t : Tm), vs = [v] ∧ IsT K H v t ∧
  ∀ (r : Addr) (H' : Hp) (us : List V), Same H H' → H r = none → H' r = some (.lst us) → Paired (IsT K H') us t.kids → Q (.ref r) H'
def sp_pieces (K : PySem.W.Frag) : Sp := fun vs H Q _ => ∃ (v : V) (t : Tm), vs = [v] ∧ IsT K H v t ∧ t.parts ≤ 400 ∧
  ∀ (r : Addr) (H' : Hp) (us : List V), Same H H' → H r = none → H' r = some (.lst us) → Paired (IsT K H') us t.pre → Q (.ref r) H'
def sp_spelled (K : PySem.W.Frag) : Sp := fun vs H Q _ => ∃ (v : V) (t : Tm), vs = [v] ∧ IsT K H v t ∧ t.parts ≤ 400 ∧
  ∀ (r : Addr) (H' : Hp), Same H H' → H r = none → H' r = some (.tup (t.spell.map V.str)) → Q (.ref r) H'
def strsOf : List V → List Str
  | [] => []
  | .str x :: r => x :: strsOf r
  | _ :: r => strsOf r
theorem strsOf_app : ∀ a b : List V, strsOf (a ++ b) = strsOf a ++ strsOf b
  | [], _ => rfl
  | v :: r, b => by
    cases v <;> simp [strsOf, strsOf_app r b]
theorem isT_items {K : PySem.W.Frag} {H : Hp} {v : V} {t : Tm} (h : IsT K H v t) : ∃ a vs, v = .ref a ∧ SqT K H a vs ∧ strsOf vs = t.own ∧ vs.length ≤ 3 ∧ ∀ y ∈ vs, (∃ x, y = .str x) ∨ ∃ b xs, y = .ref b ∧ SqT K H b xs := by
  cases t with
  | low =>
    obtain ⟨a, rfl, hs⟩ := isT_low.mp h
    exact ⟨a, _, rfl, hs, rfl, by decide, fun y hy => by rcases List.mem_singleton.mp hy with rfl; exact .inl ⟨_, rfl⟩⟩
  | ltr w =>
    obtain ⟨a, rfl, hs⟩ := isT_ltr.mp h
    refine ⟨a, _, rfl, hs, rfl, by simp, fun y hy => ?_⟩
    rcases List.mem_cons.mp hy with rfl | hy
    · exact .inl ⟨_, rfl⟩
    · rcases List.mem_singleton.mp hy with rfl; exact .inl ⟨_, rfl⟩
  | nd k x y =>
    obtain ⟨a, vx, vy, rfl, hs, hx, hy⟩ := isT_nd.mp h
    obtain ⟨b, xs, rfl, hb⟩ := isT_tup hx
    obtain ⟨c, ys, rfl, hc⟩ := isT_tup hy
    refine ⟨a, _, rfl, hs, rfl, by simp, fun y hy => ?_⟩
    rcases List.mem_cons.mp hy with rfl | hy
    · exact .inl ⟨_, rfl⟩
    · rcases List.mem_cons.mp hy with rfl | hy
      · exact .inr ⟨_, _, rfl, hb⟩
      · rcases List.mem_singleton.mp hy with rfl; exact .inr ⟨_, _, rfl, hc⟩
end Ken
set_option Elab.async false
set_option linter.all false
set_option maxRecDepth 100000
set_option maxHeartbeats 2000000
namespace Ken
open PySem L2
theorem len_le_of_sub {α : Type} [DecidableEq α] : ∀ {l m : List α}, l.Nodup → (∀ x ∈ l, x ∈ m) → l.length ≤ m.length
  | [], m, _, _ => Nat.zero_le _
  | x :: l, m, hn, hs => by
    have hx := hs x List.mem_cons_self
    have hn' := List.nodup_cons.mp hn
    have : l.length ≤ (m.erase x).length := len_le_of_sub hn'.2 fun y hy => by
      have hne : y ≠ x := fun z => hn'.1 (z ▸ hy)
      exact (List.mem_erase_of_ne hne).mpr (hs y (List.mem_cons_of_mem _ hy))
    rw [List.length_erase_of_mem hx] at this
    have : 0 < m.length := List.length_pos_of_mem hx
    rw [List.length_cons]
    omega
abbrev Wd := Option Nat × List Str
def bV : Option Nat → V
  | none => .non
  | some j => .int (j : Nat)
def AtW (K : PySem.W.Frag) (H : Hp) (v : V) (x : Wd) : Prop := ∃ p q, v = .ref p ∧ SqT K H p [bV x.1, .ref q] ∧ H q = some (.lst (x.2.map V.str))
theorem AtW.keep {K : PySem.W.Frag} {H H' : Hp} (e : Same H H') {v : V} {x : Wd} (h : AtW K H v x) : AtW K H' v x := by
  obtain ⟨p, q, rfl, h1, h2⟩ := h
  exact ⟨p, q, rfl, e.sqt h1, e _ _ h2⟩
abbrev AtWs (K : PySem.W.Frag) (H : Hp) : List V → List Wd → Prop := Paired (AtW K H)
theorem AtWs.keep {K : PySem.W.Frag} {H H' : Hp} (e : Same H H') {vs : List V} {ws : List Wd} (h : AtWs K H vs ws) : AtWs K H' vs ws := Paired.mapP h fun _ _ q => q.keep e
def inWs (us : List Str) (ws : List Wd) : Prop := ∀ x ∈ ws, x.2.Nodup ∧ ∀ y ∈ x.2, y ∈ us
def okWs (ws : List Wd) : Prop := ∀ x ∈ ws, ∀ y ∈ x.2, Word y
def bef (ws : List Wd) (n : Nat) : Option Nat := (ws[n]?).bind (·.1)
def sp_whole : Sp := fun vs H Q _ => ∃ i : Int, vs = [.int i] ∧ Q (.bl true) H
def AtWn (K : PySem.W.Frag) (H : Hp) (acc : Addr) (v : V) (x : Wd) : Prop := ∃ p q, q ≠ acc ∧ v = .ref p ∧ SqT K H p [bV x.1, .ref q] ∧ H q = some (.lst (x.2.map V.str))
theorem AtWn.at {K : PySem.W.Frag} {H : Hp} {acc : Addr} {v : V} {x : Wd} (h : AtWn K H acc v x) : AtW K H v x := by
  obtain ⟨p, q, _, e, h1, h2⟩ := h
  exact ⟨p, q, e, h1, h2⟩
theorem AtWn.keep {K : PySem.W.Frag} {H H' : Hp} {acc : Addr} (e : Same H H') {v : V} {x : Wd} (h : AtWn K H acc v x) : AtWn K H' acc v x := by
  obtain ⟨p, q, n, rfl, h1, h2⟩ := h
  exact ⟨p, q, n, rfl, e.sqt h1, e _ _ h2⟩
theorem AtWn.write {K : PySem.W.Frag} {H : Hp} {acc : Addr} {ys : List V} {o : HO} (ha : H acc = some (.lst ys)) {v : V} {x : Wd} (h : AtWn K H acc v x) : AtWn K (upd H acc o) acc v x := by
  obtain ⟨p, q, n, rfl, h1, h2⟩ := h
  exact ⟨p, q, n, rfl, keepT_lst ha _ _ h1, by rw [upd_ne n]; exact h2⟩
theorem cut_init {xs : List V} (h : 1 ≤ xs.length) : cutV xs none (some (-1)) = xs.dropLast := by
  show List.take ((if (-1 : Int) < 0 then ((-1 : Int) + (xs.length : Int)).toNat else min (-1 : Int).toNat xs.length) - 0) (List.drop 0 xs) = _
  rw [if_pos (by decide), List.drop_zero, List.dropLast_eq_take]
  congr 1
  omega
theorem cut_tail {xs : List V} (h : 1 ≤ xs.length) : cutV xs (some 1) none = xs.tail := by
  show List.take (xs.length - (if (1 : Int) < 0 then ((1 : Int) + (xs.length : Int)).toNat else min (1 : Int).toNat xs.length)) (List.drop (if (1 : Int) < 0 then ((1 : Int) + (xs.length : Int)).toNat else min (1 : Int).toNat xs.length) xs) = _
  rw [if_neg (by decide)]
  have : min (1 : Int).toNat xs.length = 1 := by
    show min 1 xs.length = 1
    omega
  rw [this, List.drop_one, List.take_of_length_le (by rw [List.length_tail]; omega)]
end Ken
set_option Elab.async false
set_option linter.all false
set_option maxRecDepth 100000
set_option maxHeartbeats 2000000
namespace Ken
open PySem L2
theorem strs_dn {K : PySem.W.Frag} {H : Hp} : ∀ L : List Str, DnAll K H (L.map V.str) (L.map PyData.str)
  | [] => by show DnAll K H [] []; rw [DnAll]
  | n :: L => by
    show DnAll K H (.str n :: L.map V.str) (.str n :: L.map PyData.str)
    rw [DnAll]
    exact ⟨_, _, rfl, by rw [Dn], strs_dn L⟩
theorem eqvAll_self : ∀ {ds : List PyData}, (∀ d ∈ ds, PyData.eqv d d = true) → PyData.eqvAll ds ds = true
  | [], _ => rfl
  | d :: ds, h => by
    show (PyData.eqv d d && PyData.eqvAll ds ds) = true
    rw [h d List.mem_cons_self, eqvAll_self fun e he => h e (List.mem_cons_of_mem _ he)]; rfl
theorem str_self (x : Str) : PyData.eqv (.str x) (.str x) = true := by show (x == x) = true; simp
theorem depth_list {ds : List PyData} {n : Nat} (h : ∀ d ∈ ds, d.depth ≤ n) : (PyData.list ds).depth ≤ n + 1 := by
  show PyData.depthAll ds + 1 ≤ n + 1
  have : PyData.depthAll ds ≤ n := by
    induction ds with
    | nil => exact Nat.zero_le _
    | cons d ds ih =>
      show max d.depth (PyData.depthAll ds) ≤ n
      exact Nat.max_le.mpr ⟨h d List.mem_cons_self, ih fun e he => h e (List.mem_cons_of_mem _ he)⟩
  omega
theorem inWs.ok {us : List Str} (hu : ∀ u ∈ us, Word u) {ws : List Wd} (h : inWs us ws) : okWs ws := fun x hx y hy => hu y ((h x hx).2 y hy)
end Ken
set_option Elab.async false
set_option linter.all false
set_option maxRecDepth 100000
set_option maxHeartbeats 2000000
namespace L2
open PySem PySem.Spec PyProof.Rows Ken
theorem orStandIn_led (t : SetTable) (n : Nat) : (t.orStandIn n).led = t.led := by
  unfold SetTable.orStandIn; split <;> rfl
theorem orStandIn_plain (t : SetTable) (n : Nat) (h : t.plain = false) : (t.orStandIn n).plain = false := by
  unfold SetTable.orStandIn; split
  · exact h
  · rfl
theorem layNew_led (t : SetTable) (es : Array (Int × Value)) (h : Int) (x : Value) : (layNew t es h x).2.1.led = t.led := by
  unfold layNew
  split
  · show ((t.put _).1.orStandIn _).led = t.led
    rw [orStandIn_led]; rfl
  · rfl
theorem layNew_plain (t : SetTable) (es : Array (Int × Value)) (h : Int) (x : Value) (hp : t.plain = false) : (layNew t es h x).2.1.plain = false := by
  unfold layNew
  split
  · exact orStandIn_plain _ _ hp
  · rfl
theorem laid_flags {mask finger moves : Nat} {led plain : Bool} {hashes : Array Int} {t : SetTable} {o : Array Nat} (h : SetTable.laid mask finger moves led plain hashes = some (t, o)) : t.led = led ∧ t.plain = plain := by
  unfold SetTable.laid at h
  cases z : SetTable.layClean mask hashes with
  | none => rw [z] at h; cases h
  | some ow =>
    rw [z] at h
    cases h
    exact ⟨rfl, rfl⟩
theorem relayAll_led (t : SetTable) (es : Array (Int × Value)) (n : Nat) : (relayAll t es n).2.1.led = t.led := by
  unfold relayAll
  split
  · rename_i t' o e
    have f := laid_flags (show SetTable.laid _ _ _ t.led t.plain _ = some (t', o) from e)
    dsimp only
    split
    · exact f.1
    · rfl
  · rfl
theorem relayAll_plain (t : SetTable) (es : Array (Int × Value)) (n : Nat) (hp : t.plain = false) : (relayAll t es n).2.1.plain = false := by
  unfold relayAll
  split
  · rename_i t' o e
    have f := laid_flags (show SetTable.laid _ _ _ t.led t.plain _ = some (t', o) from e)
    dsimp only
    split
    · exact f.2.trans hp
    · rfl
  · rfl
def SetAt (P : Program) (w : World) (h : Heap) (a : Addr) (xs : List Str) : Prop :=
  ∃ o es ep t ys, h.get? a = some o ∧ o.ExactSet ∧ o.data = Data.set es ep t ∧ ElemsOf (PySem.strKind P w) es.toList ∧ Paired (fun (e : Int × Value) (x : Str) => ∃ tk, e.2 = .str x tk) es.toList ys ∧ List.Perm ys xs ∧ xs.Nodup ∧ es.size < scanBound ∧ t.fits es.size = true ∧
    t.led = !(w.params.followText "set-order") ∧ (t.plain = false ∨ xs = [])
theorem SetAt.perm {P : Program} {w : World} {h : Heap} {a : Addr} {xs zs : List Str} (s : SetAt P w h a xs) (p : List.Perm xs zs) : SetAt P w h a zs := by
  obtain ⟨o, es, ep, t, ys, h1, h2, h3, h4, h5, h6, h7, h8, h9, h10, h11⟩ := s
  refine ⟨o, es, ep, t, ys, h1, h2, h3, h4, h5, h6.trans p, p.nodup_iff.mp h7, h8, h9, h10, h11.imp id fun z => ?_⟩
  rw [z] at p
  exact p.nil_eq.symm
theorem SetAt.at {P : Program} {w : World} {h h' : Heap} {a : Addr} {xs : List Str} (s : SetAt P w h a xs) (k : ∀ o, h.get? a = some o → h'.get? a = some o) : SetAt P w h' a xs := by
  obtain ⟨o, es, ep, t, ys, h1, r⟩ := s
  exact ⟨o, es, ep, t, ys, k o h1, r⟩
theorem paired_perm {α β : Type} {F : α → β → Prop} {l l' : List α} {m : List β} (p : List.Perm l l') (h : Paired F l m) : ∃ m', List.Perm m m' ∧ Paired F l' m' := by
  induction p generalizing m with
  | nil => cases h; exact ⟨[], .nil, .nil⟩
  | cons x _ ih =>
    cases h with
    | cons hx t =>
      obtain ⟨m', p', q'⟩ := ih t
      exact ⟨_ :: m', .cons _ p', .cons hx q'⟩
  | swap x y l =>
    cases h with
    | cons hx t =>
      cases t with
      | cons hy t => exact ⟨_, .swap _ _ _, .cons hy (.cons hx t)⟩
  | trans _ _ ih1 ih2 =>
    obtain ⟨m1, p1, q1⟩ := ih1 h
    obtain ⟨m2, p2, q2⟩ := ih2 q1
    exact ⟨m2, p1.trans p2, q2⟩
section
variable {P : Program} {w : World} {A : Around} {E : Value → Shared → Prop} {s : Shared}
theorem addTailS {g : Bool → Sem Unit} (hg : ∀ (b : Bool) (s₁ : Shared) (Q' : Unit → Shared → Prop), Q' () s₁ → wpAny (model P w) A (g b) Q' E s₁) {a : Addr} {o : Obj} {es : Array (Int × Value)} {ep : Nat} {t : SetTable} (ho : s.heap.get? a = some o) (hx : o.ExactSet) (hd : o.data = .set es ep t)
    {es1 : Array (Int × Value)} {t2 : SetTable} {zs ys : List Str} (he : ElemsOf (PySem.strKind P w) es1.toList) (hp : Paired (fun (e : Int × Value) (x : Str) => ∃ tk, e.2 = .str x tk) es1.toList ys) (hq : List.Perm ys zs) (hn : zs.Nodup) (hz : es1.size < scanBound) (hf : t2.fits es1.size = true) (hl : t2.led = !(w.params.followText "set-order")) (hpl : t2.plain = false)
    {wasDummy : Bool} {R : Option Bool → Shared → Prop} (hR : ∀ h', Heap.SameBut a s.heap h' → SetAt P w h' a zs → R (some true) { s with heap := h' }) :
    wpAny (model P w) A (do
      storeSet a es1 t2
      if (!wasDummy && t2.tooFull) = true then do
        g (relayAll t2 es1 (SetTable.grown es1.size)).2.2
        storeSet a (relayAll t2 es1 (SetTable.grown es1.size)).1 (relayAll t2 es1 (SetTable.grown es1.size)).2.1
        pure (some true)
      else pure (some true)) R E s := by
  have S1 := SetOf_store (knd := PySem.strKind P w) (S' := fun k => es1.toList.any fun e => (PySem.strKind P w).is k e.2) ho hx hd he (fun k => by rw [List.any_eq_true]) hz hf
  refine wpAny_bind (wpAny_storeSet_of ho hd ?_ (Nat.le_trans (Nat.le_of_lt hz) (show scanBound ≤ sizeLine by decide)))
  split
  · refine wpAny_bind (hg _ _ _ ?_)
    have rp := relayAll_perm t2 es1 (SetTable.grown es1.size)
    have rf := relayAll_fits t2 es1 (SetTable.grown es1.size)
    have rl := relayAll_led t2 es1 (SetTable.grown es1.size)
    have rpl := relayAll_plain t2 es1 (SetTable.grown es1.size) hpl
    generalize relayAll t2 es1 (SetTable.grown es1.size) = rr at rp rf rl rpl
    have he2 := he.perm rp
    obtain ⟨ys2, p2, q2⟩ := paired_perm rp.symm hp
    have hsz : rr.1.size = es1.size := by have := rp.length_eq; simpa using this
    have hz2 : rr.1.size < scanBound := by rw [hsz]; exact hz
    have S2 := SetOf_store (knd := PySem.strKind P w) (S' := fun k => rr.1.toList.any fun e => (PySem.strKind P w).is k e.2) S1.1 hx rfl he2 (fun k => by rw [List.any_eq_true]) hz2 rf
    refine wpAny_bind (wpAny_storeSet_of S1.1 rfl (wpAny_pure ?_) (Nat.le_trans (Nat.le_of_lt hz2) (show scanBound ≤ sizeLine by decide)))
    refine hR _ ((Heap.SameBut.update _ _ _).trans (Heap.SameBut.update _ _ _)) ⟨_, rr.1, _, rr.2.1, ys2, S2.1, hx, rfl, he2, q2, p2.symm.trans hq, hn, hz2, rf, rl.trans hl, .inl rpl⟩
  · refine wpAny_pure (hR _ (Heap.SameBut.update _ _ _) ⟨_, es1, _, t2, ys, S1.1, hx, rfl, he, hp, hq, hn, hz, hf, hl, .inl hpl⟩)
theorem setAdd_str {a : Addr} {x : Str} {tk : Tok} {xs : List Str} {Q : Bool → Shared → Prop} (hs : SetAt P w s.heap a xs) (hz : xs.length + 1 < scanBound)
    (hQ : ∀ h', Heap.SameBut a s.heap h' → SetAt P w h' a (if x ∈ xs then xs else xs ++ [x]) → ∀ b, Q b { s with heap := h' }) :
    wpAny (model P w) A (setAddHashed a (.str x tk) ((PySem.strKind P w).hash x)) Q E s := by
  obtain ⟨o, es, ep, t, ys, h1, h2, h3, h4, h5, h6, h7, h8, h9, h10, h11⟩ := hs
  have hlen : es.size = xs.length := by have := Paired.length h5; have := h6.length_eq; rw [← Array.length_toList]; omega
  have hscan : byScan (.str x tk) es = true := by
    unfold byScan
    rw [Bool.and_eq_true, Bool.and_eq_true]
    refine ⟨⟨rfl, decide_eq_true h8⟩, ?_⟩
    rw [Array.all_eq_true_iff_forall_mem]
    intro e he
    exact (h4 e (by simpa using he)).2
  have his : (PySem.strKind P w).is x (.str x tk) = true := by
    show Value.isStrOf x (.str x tk) = true
    simp [Value.isStrOf]
  unfold setAddHashed
  refine wpAny_holding ?_
  rw [setAddHashedIn.eq_def]
  refine wpAny_bind (wpAny_setState_of h1 h3 h9 ?_)
  dsimp only
  rw [if_pos hscan]
  unfold setAddByScan
  refine wpAny_bind (wpAny_bind (wpAny_rule (wpAny_bind (wpAny_setScan_of his h1 h3 h9 h4 ?_))))
  have mem_iff : ∀ e ∈ es.toList, (PySem.strKind P w).is x e.2 = true → x ∈ xs := fun e he hi => by
    obtain ⟨j, hj, rfl⟩ := List.getElem_of_mem he
    obtain ⟨y, hy, tk', ey⟩ := paired_get h5 (List.getElem?_eq_getElem hj)
    rw [ey] at hi
    have hxy : x = y := by
      have hi : Value.isStrOf x (.str y tk') = true := hi
      exact (show y = x by simpa [Value.isStrOf] using hi).symm
    rw [hxy]
    exact h6.mem_iff.mp (List.mem_of_getElem? hy)
  have mem_of : x ∈ xs → ∃ e ∈ es.toList, (PySem.strKind P w).is x e.2 = true := fun hx => by
    have hy : x ∈ ys := h6.mem_iff.mpr hx
    obtain ⟨j, hj, e⟩ := List.getElem_of_mem hy
    have hj' : j < es.toList.length := by rw [Paired.length h5]; exact hj
    obtain ⟨y, hy2, tk', ey⟩ := paired_get h5 (List.getElem?_eq_getElem hj')
    rw [List.getElem?_eq_getElem hj] at hy2
    cases hy2
    refine ⟨_, List.getElem_mem hj', ?_⟩
    rw [ey, e]
    show Value.isStrOf x (.str x tk') = true
    simp [Value.isStrOf]
  cases hf : List.findIdx? (fun e => (PySem.strKind P w).is x e.2) es.toList with
  | some j =>
    dsimp only
    refine wpAny_pure (wpAny_pure ?_)
    have hx : x ∈ xs := by
      obtain ⟨hj, hp, _⟩ := List.findIdx?_eq_some_iff_getElem.mp hf
      exact mem_iff _ (List.getElem_mem hj) hp
    have q := hQ s.heap (Heap.SameBut.refl _ _) (by rw [if_pos hx]; exact ⟨o, es, ep, t, ys, h1, h2, h3, h4, h5, h6, h7, h8, h9, h10, h11⟩) false
    exact q
  | none =>
    dsimp only
    have hx : x ∉ xs := fun z => by
      obtain ⟨e, he, hi⟩ := mem_of z
      have := List.findIdx?_eq_none_iff.mp hf e he
      rw [hi] at this
      cases this
    rw [if_neg hx] at hQ
    have lp := layNew_perm t es ((PySem.strKind P w).hash x) (.str x tk)
    have lf := layNew_fits t es ((PySem.strKind P w).hash x) (.str x tk)
    have ll := layNew_led t es ((PySem.strKind P w).hash x) (.str x tk)
    have lpl := layNew_plain t es ((PySem.strKind P w).hash x) (.str x tk)
    generalize layNew t es ((PySem.strKind P w).hash x) (.str x tk) = r at lp lf ll lpl
    obtain ⟨es1, t1, wd, gv⟩ := r
    dsimp only at lp lf ll lpl ⊢
    have hpush : (es.push ((PySem.strKind P w).hash x, Value.str x tk)).toList = es.toList ++ [((PySem.strKind P w).hash x, Value.str x tk)] := by simp
    rw [hpush] at lp
    have he1 : ElemsOf (PySem.strKind P w) es1.toList := ElemsOf.perm (l := es.toList ++ [((PySem.strKind P w).hash x, Value.str x tk)]) (fun e he => by
      rcases List.mem_append.mp he with he | he
      · exact h4 e he
      · rw [List.mem_singleton.mp he]
        exact ⟨⟨x, his, rfl⟩, rfl⟩) lp
    have hp1 : Paired (fun (e : Int × Value) (x : Str) => ∃ tk, e.2 = .str x tk) (es.toList ++ [((PySem.strKind P w).hash x, Value.str x tk)]) (ys ++ [x]) := paired_app h5 (.cons ⟨tk, rfl⟩ .nil)
    obtain ⟨ys1, p1, q1⟩ := paired_perm lp.symm hp1
    have hsz : es1.size = xs.length + 1 := by
      have := lp.length_eq
      rw [List.length_append, List.length_singleton, Array.length_toList, Array.length_toList] at this
      omega
    have nd : (xs ++ [x]).Nodup := by
      rw [List.nodup_append]
      refine ⟨h7, by simp, fun a ha b hb => ?_⟩
      rw [List.mem_singleton.mp hb]
      exact fun z => hx (z ▸ ha)
    have tl : ∀ (t2 : SetTable), t2.fits es1.size = true → t2.led = t1.led → t2.plain = false → ∀ h' : Heap, Heap.SameBut a s.heap h' → SetAt P w h' a (xs ++ [x]) → wpAny (model P w) A (pure true : Sem Bool) Q E { s with heap := h' } := fun t2 _ _ _ h' sb st => wpAny_pure (hQ h' sb st true)
    refine wpAny_bind ?_
    cases gv
    all_goals first | refine wpAny_pure ?_ | refine wpAny_rule ?_
    all_goals (
      by_cases hpl : t1.plain = true
      · rw [if_pos hpl]
        refine wpAny_bind (wpAny_of_eq (hashByValue.eq_5 _ _ _) ?_)
        simp only [Bool.false_eq_true, if_false]
        refine addTailS (P := P) (w := w) (fun b s₁ Q' q' => by cases b <;> first | exact wpAny_pure q' | exact wpAny_rule q') h1 h2 h3 he1 q1 (p1.symm.trans (h6.append_right _)) nd (by rw [hsz]; exact hz) (SetTable.fits_plain_off lf) (ll.trans h10) rfl fun h' sb st => wpAny_pure (hQ h' sb st true)
      · rw [if_neg hpl]
        refine wpAny_bind (wpAny_pure ?_)
        simp only [if_true]
        refine addTailS (P := P) (w := w) (fun b s₁ Q' q' => by cases b <;> first | exact wpAny_pure q' | exact wpAny_rule q') h1 h2 h3 he1 q1 (p1.symm.trans (h6.append_right _)) nd (by rw [hsz]; exact hz) lf (ll.trans h10) (by simpa using hpl) fun h' sb st => wpAny_pure (hQ h' sb st true))
end
end L2
set_option Elab.async false
set_option linter.all false
set_option maxRecDepth 100000
set_option maxHeartbeats 2000000
namespace L2
open PySem PySem.Spec PyProof.Rows Ken
def setO (P : Program) (w : World) (a : Addr) (xs : List Str) : HO := .ext fun h => SetAt P w h a xs
theorem setO_ok {P : Program} {w : World} {H : Hp} {h : Heap} {a : Addr} {xs : List Str} (s : SetAt P w h a xs) : ObjOk P w H h a (setO P w a xs) := by
  obtain ⟨o, es, ep, t, ys, h1, r⟩ := id s
  exact ⟨s, ⟨o, h1⟩, fun h1 h2 z k => SetAt.at z k⟩
theorem setO_at {P : Program} {w : World} {H : Hp} {h : Heap} {a : Addr} {xs : List Str} (ok : HOk P w H h) (e : H a = some (setO P w a xs)) : SetAt P w h a xs := (ok a _ e).1
def setObj0 (w : World) : Obj := { cls := .type "set", data := .set #[] 0 (SetTable.fresh 0 0 !(w.params.followText "set-order")) }
theorem setAt_new {P : Program} {w : World} {h : Heap} {a : Addr} (e : h.get? a = some (setObj0 w)) : SetAt P w h a [] :=
  ⟨_, #[], 0, _, [], e, ⟨rfl, rfl, rfl⟩, rfl, fun e he => by simp at he, .nil, .nil, List.nodup_nil, by decide, rfl, rfl, .inr rfl⟩
section
variable {P : Program} {w : World} {A : Around} {E : Value → Shared → Prop} {s : Shared}
theorem newSetS {Q : Value → Shared → Prop} (h : Q (.ref s.heap.objs.size) { s with heap := s.heap.push (setObj0 w) }) : wpAny (model P w) A (newSet (.type "set")) Q E s := by
  unfold newSet
  refine wpAny_bind (wpAny_bind (wpAny_askSetting (wpAny_pure ?_)))
  exact wpAny_newObj_type h (hd := by show (0 : Nat) ≤ sizeLine; decide)
theorem call_addS {a : Addr} {x : Str} {tk : Tok} {xs : List Str} {Q : Value → Shared → Prop} (hs : SetAt P w s.heap a xs) (hz : xs.length + 1 < scanBound)
    (hQ : ∀ h' tk', Heap.SameBut a s.heap h' → SetAt P w h' a (if x ∈ xs then xs else xs ++ [x]) → Q .none { s with heap := h', toks := tk' }) :
    wpAny (model P w) A (call (.builtin "set.add") [.ref a, .str x tk]) Q E s := by
  have hT : s.TypeIs (.ref a) "set" := by
    obtain ⟨o, es, ep, t, ys, h1, h2, r⟩ := id hs
    exact ⟨o, h1, h2.1⟩
  have his : (PySem.strKind P w).is x (.str x tk) = true := by
    show Value.isStrOf x (.str x tk) = true
    simp [Value.isStrOf]
  refine wpAny_call_entry F.slot_set_add hT F.entry_set_add ?_ (F.args_set_add_2 (.ref a) (.str x tk))
  show wpAny _ _ (Builtin.Frozenset.oneOther "add" { pos := [.ref a, .str x tk] } >>= _) _ _ _
  refine wpAny_bind ?_
  show wpAny _ _ (Builtin.Frozenset.addrOf (.ref a) >>= fun d => pure (d, Value.str x tk)) _ _ _
  refine wpAny_bind (wpAny_pure (wpAny_pure ?_))
  show wpAny _ _ (setAdd a (.str x tk) >>= _) _ _ _
  refine wpAny_bind (wpAny_holding (wpAny_bind ((PySem.strKind P w).pyHash his ?_)))
  exact setAdd_str hs hz fun h' sb st b => wpAny_pure ⟨_, rfl, hQ h' _ sb st⟩
end
def kAdd (P : Program) (w : World) (te : TE) (acc : Addr) : TK := fun σ H N => te σ H fun y H5 => ∃ x xs, y = .str x ∧ H5 acc = some (setO P w acc xs) ∧ xs.length < 4000 ∧ N (upd H5 acc (setO P w acc (if x ∈ xs then xs else xs ++ [x])))
theorem pk_emitS {P : Program} {w : World} {Y : Cx} {elt : Expr} {te : TE} {acc : Addr} (hP : Y.prog = P) (hw : Y.w = w) (he : PE Y elt te) : PTn Y (emitS elt (.ref acc) Y.env) (kAdd P w te acc) := by
  subst hP hw
  intro pins s σ H N I h
  refine wpAny_bind (thn (he pins s σ H _ I h) fun v s7 ⟨y, H7, I7, r7, x, xs, e, ha7, hlen, n⟩ => ?_)
  subst e
  obtain ⟨tk, rfl⟩ := r7
  have st := setO_at I7.hok ha7
  refine wpAny_bind (wpAny_standAt (wpAny_bind (call_addS st (Nat.lt_of_lt_of_le (Nat.add_lt_add_right hlen 1) (by decide)) fun h' tk' sb st' => wpAny_pure ?_)))
  obtain ⟨o, es, ep, t, ys, h1, r⟩ := id st'
  have I8 := I7.write (x := acc) (e := acc) (o := setO Y.prog Y.w acc (if x ∈ xs then xs else xs ++ [x])) (t' := tk') (by rw [ha7]; exact True.intro) (.inl rfl) (fun b u hb e => (sb.2 b hb).trans e) ⟨o, h1⟩ (setO_ok st')
  exact ⟨σ, _, I8, Wk.refl _, n⟩
def tCompA (nt : Nat) (ci : List Nat) (wi : TI) (g : TG) (tk : Addr → TK) (o0 : Addr → HO) : TE := fun σ H Q => wi σ H fun J H1 => ∀ acc, H1 acc = none → ∃ W : Nat → Nat → Hp → Prop, (∃ m, W 0 m (upd H1 acc (o0 acc))) ∧ compW (capt nt ci σ) J g (tk acc) (fun H2 => Q (.ref acc) H2) W
section
variable {X : Cx} {scope : Scope} {cl : List (Str × Addr)} {N' : List Str} {nt : Nat} {ci : List Nat} {pins : List (Addr × Obj)} {σ : St} {H : Hp} {s : Shared}
theorem cg_coreA {e : Expr} {gs : List Comprehension} {ifs : List Expr} {body : Addr → Env → Sem Unit} {newAcc : Sem Value} {ob : Obj} {o0 : Addr → HO} {p0 : Pos} {tk : Addr → TK} {tg iter : Expr} {pos' : Pos} {wi : TI} {g : TG} {use : Option (Value → Sem Unit)} {Q : VK} {Qf : Value → Shared → Prop} (B : BlkOk X scope cl N' nt ci) (hc : X.calm = true) (hi : PI X tg iter wi)
    (hg : ∀ s H C ex, PG (blk X N' scope cl s H C ex) tg g) (hcl : clausesOf e = ⟨tg, iter, ifs, 0⟩ :: gs) (hden : ∀ acc env, DenIs X.prog X.w X.A e 0 acc env) (htn : ∀ a env, TurnIs e 0 tg p0 (.ref a) env (body a env))
    (hb : ∀ s H C ex a, PTn (blk X N' scope cl s H C ex) (body a (blk X N' scope cl s H C ex).env) (tk a)) (hnew : ∀ {A : Around} {E : Value → Shared → Prop} {s : Shared} {Q : Value → Shared → Prop}, Q (.ref s.heap.objs.size) { s with heap := s.heap.push ob } → wpAny (model X.prog X.w) A newAcc Q E s)
    (hfree : ob.isFreed = false) (hobj : ∀ (H : Hp) (h : Heap) (a : Addr), h.get? a = some ob → sysModules < a → ObjOk X.prog X.w (upd H a (o0 a)) h a (o0 a)) (hs : ∀ x, foldedSetIterable iter X.env x = pure x) (I : Inv X pins σ H s) (h : tCompA nt ci wi g tk o0 σ H Q)
    (fin : ∀ (acc C : Addr) (s' : Shared) (H' : Hp), Inv X pins σ H' s' → Q (.ref acc) H' → (∃ m, s'.heap.Ns C m) → FpOk X pins H' C → (∃ o, s'.heap.get? C = some o ∧ ∀ v, o.data ≠ .cell v) → compPost (model X.prog X.w) X.A X.xe use Qf (.ref acc) C (.ok .next) s') :
    wpAny (model X.prog X.w) X.A (comprehension e scope X.env pos' newAcc false (eval iter X.env) use) Qf X.xe s := by
  refine wpAny_comprehension_free (use := use) hcl hs B.clos B.kind B.names (thn (hi pins s σ H _ I h) fun v s1 h1 => thn h1 fun itv s2 h2 => ?_)
  obtain ⟨it, fp, tn, J, H2, e, I2, T, st2, f2, q2⟩ := h2
  subst e
  have hacc : H2 s2.heap.objs.size = none := I2.hok.fresh (Nat.le_refl _)
  obtain ⟨W, ⟨m0, w0⟩, hW⟩ := q2 s2.heap.objs.size hacc
  refine hnew (wpAny_newFunctionEnv B.cell (by intro y hy; simp at hy) (fun h₁ hns₁ hsb₁ => ?_) B.kind)
  dsimp only at hns₁ hsb₁ ⊢
  have hCs : (s2.heap.push ob).objs.size = s2.heap.objs.size + 1 := Heap.size_push ..
  have k1 : ∀ b u, s2.heap.get? b = some u → h₁.get? b = some u := fun b u e => hsb₁.extBut b u (by rw [hCs]; exact Nat.ne_of_lt (Nat.lt_succ_of_lt (Heap.lt_size e))) (Heap.get?_push_of_some _ (Heap.get?_push_of_some _ e))
  have a1 : h₁.get? s2.heap.objs.size = some ob := hsb₁.extBut _ _ (by rw [hCs]; exact Nat.ne_of_lt (Nat.lt_succ_self _)) (Heap.get?_push_of_some _ (Heap.get?_push_size _ hfree))
  rw [hCs] at hns₁ ⊢
  have hsys : sysModules < s2.heap.objs.size := I2.big
  have I3 := blk_startO (o0 := o0 s2.heap.objs.size) (tk := s2.toks + ([] : List (Str × Value)).length) B I2 f2 (fun b hb => let ⟨o, e, _⟩ := T.obj _ _ st2 b hb; ⟨o, e⟩) rfl rfl k1 (by simpa using hns₁) (hobj _ _ _ a1 hsys)
  have hfpB : ∀ (H' : Hp), (∀ b ∈ fp, H' b = none) → ∀ b ∈ fp, FpOk (blk X N' scope cl s2 H2 (s2.heap.objs.size + 1) fp) [] H' b := fun H' hn b hb => by
    obtain ⟨f0, f1, f3, f4, f5, f6⟩ := f2 b hb
    obtain ⟨o, e, _⟩ := T.obj _ _ st2 b hb
    refine ⟨hn b hb, ?_, fun z => ?_, .inl hb, fun x c e' => f5 x c (B.sub x c e'), fun p hp => absurd (show p ∈ ([] : List (Addr × Obj)) from hp) (by simp)⟩
    · exact Nat.ne_of_lt (Nat.lt_succ_of_lt (Heap.lt_size e))
    · rcases List.mem_cons.mp (I2.stkSub b z) with y | y
      · exact f1 y
      · exact f3 y
  have hfr3 : ∀ b ∈ fp, upd H2 s2.heap.objs.size (o0 s2.heap.objs.size) b = none := fun b hb => by
    obtain ⟨o, e, _⟩ := T.obj _ _ st2 b hb
    rw [upd_ne (Nat.ne_of_lt (Heap.lt_size e))]; exact (f2 b hb).1
  have st3 : tn 0 h₁ := T.keep _ _ _ st2 fun b _ o e => k1 b o e
  have loop : codeAny (model X.prog X.w) X.A (.compLoop e 0 (.ref it) (.ref s2.heap.objs.size) (compEnvC scope cl (s2.heap.objs.size + 1) X.env))
      (compPost (model X.prog X.w) X.A X.xe use Qf (.ref s2.heap.objs.size) (s2.heap.objs.size + 1)) { s2 with heap := h₁, toks := s2.toks + ([] : List (Str × Value)).length } := by
    refine comp_loop (Y := blk X N' scope cl s2 H2 (s2.heap.objs.size + 1) fp) (Q := fun H' => Q (.ref s2.heap.objs.size) H') hc rfl (hden _ _) (htn _ _) (hg _ _ _ _) (hb _ _ _ _ _) T hfpB hW (fun s' H' I' q => ?_) I3 st3 hfr3 w0
    have un := I'.base
    have ns := I'.loc
    have fC : H' (s2.heap.objs.size + 1) = none := I'.free
    have I4 : Inv X pins σ H' s' := I2.call' I'.os un I'.hok I'.bare fun b hb => by
      obtain ⟨f0, f1, f3, f4, f5, f6⟩ := f2 b hb
      exact ⟨f4, f1, f5, f6⟩
    obtain ⟨m, hm, _⟩ := ns
    have hm' : s'.heap.Ns (s2.heap.objs.size + 1) m := hm
    refine fin _ _ s' H' I4 q ⟨m, hm'⟩ (I2.fpOk (Nat.le_succ _) fC) ?_
    obtain ⟨o, es, ep, e, d, _⟩ := hm'
    exact ⟨o, e, fun v z => by rw [d] at z; cases z⟩
  exact codeAny_compStart_gen (hden _ _) (by rw [hcl]; rfl) rfl loop (T.self _ _ _ _ _ st3 loop)
theorem pe_sc {P : Program} {w : World} {elt tg iter : Expr} {ifs : List Expr} {gs : List Comprehension} {pos p0 : Pos} {wi : TI} {g : TG} {tk : Addr → TK} {body : Addr → Env → Sem Unit} (hP : X.prog = P) (hw : X.w = w) (B : X.Ok → BlkOk X scope cl N' nt ci) (hc : X.calm = true) (hi : PI X tg iter wi)
    (hg : ∀ s H C ex, PG (blk X N' scope cl s H C ex) tg g) (htn : ∀ a env, TurnIs (.SetComp elt (⟨tg, iter, ifs, 0⟩ :: gs) scope pos) 0 tg p0 (.ref a) env (body a env))
    (hb : ∀ s H C ex a, PTn (blk X N' scope cl s H C ex) (body a (blk X N' scope cl s H C ex).env) (tk a)) (hs : ∀ x, foldedSetIterable iter X.env x = pure x := by intro _; rfl) :
    PE X (.SetComp elt (⟨tg, iter, ifs, 0⟩ :: gs) scope pos) (tCompA nt ci wi g tk fun a => setO P w a []) := by
  subst hP hw
  intro pins s σ H Q I h
  rw [arm_eval_SetComp]
  refine cg_coreA (B I.ok) hc hi hg rfl (fun _ _ => den_S) htn hb (ob := setObj0 X.w) (fun h => newSetS h) rfl (fun H h a e _ => setO_ok (setAt_new e)) hs I h fun acc C s' H' I' q hm hf ho => ?_
  obtain ⟨m, hm⟩ := hm
  obtain ⟨f0, f1, f2, f3, f4, f5⟩ := hf
  exact ⟨m, hm, fun h' sb => ⟨.ref acc, H', I'.turned (t' := s'.toks) (fun b o hb e => (sb.2 b hb).trans e) f0 f1 f3 f4 f5, rfl, q⟩⟩
end
end L2
set_option Elab.async false
set_option linter.all false
set_option maxRecDepth 100000
set_option maxHeartbeats 2000000
namespace Ken
open PySem L2
def Tm.key (t : Tm) : List Key := t.spell.map Sum.inr
theorem keyS_inr : ∀ l : List Str, keyS (l.map Sum.inr) = l
  | [] => rfl
  | x :: r => by show x :: keyS (r.map Sum.inr) = x :: r; rw [keyS_inr r]
theorem Tm.keyS (t : Tm) : L2.keyS t.key = t.spell := keyS_inr _
theorem Tm.key_all (t : Tm) : allS t.key = true := by
  unfold allS Tm.key
  rw [List.all_eq_true]
  intro q hq
  obtain ⟨x, _, rfl⟩ := List.mem_map.mp hq
  rfl
theorem Tm.key_ne (t : Tm) : t.key ≠ [] := fun z => spell_ne t (by rw [← t.keyS, z]; rfl)
theorem Tm.key_kV (t : Tm) : t.key.map kV = t.spell.map V.str := by rw [keyS_kV t.key_all, t.keyS]
theorem key_inj {s t : Tm} (h : s.key = t.key) : s = t := spell_inj (by rw [← s.keyS, ← t.keyS, h])
def DS (K : PySem.W.Frag) (H : Hp) (kvs : List (List Key × V)) (ss : List Tm) : Prop := Paired (fun (kv : List Key × V) (s : Tm) => kv.1 = s.key ∧ IsT K H kv.2 s) kvs ss
section
variable {K : PySem.W.Frag} {H : Hp}
theorem DS.keys {kvs : List (List Key × V)} {ss : List Tm} (h : DS K H kvs ss) : kvs.map (·.1) = ss.map Tm.key := by
  unfold DS at h
  induction h with
  | nil => rfl
  | cons x t ih => rw [List.map_cons, List.map_cons, x.1, ih]
theorem DS.val {kvs : List (List Key × V)} {ss : List Tm} (h : DS K H kvs ss) {s : Tm} (hs : s ∈ ss) : ∃ v, valV kvs s.key = some v ∧ IsT K H v s := by
  unfold DS at h
  induction h with
  | nil => cases hs
  | @cons p q ps qs x t ih =>
    by_cases e : p.1 = s.key
    · refine ⟨p.2, valV_pos e, ?_⟩
      have : q = s := key_inj (by rw [← x.1, e])
      rw [← this]; exact x.2
    · rw [valV_neg e]
      refine ih ?_
      rcases List.mem_cons.mp hs with z | z
      · exact absurd (by rw [x.1, z]) e
      · exact z
theorem DS.none {kvs : List (List Key × V)} {ss : List Tm} (h : DS K H kvs ss) {s : Tm} (hs : s ∉ ss) : valV kvs s.key = none := by
  unfold DS at h
  induction h with
  | nil => rfl
  | @cons p q ps qs x t ih =>
    have e : ¬ p.1 = s.key := fun e => hs (by rw [show s = q from (key_inj (by rw [← x.1, e])).symm]; exact List.mem_cons_self)
    rw [valV_neg e]
    exact ih fun z => hs (List.mem_cons_of_mem _ z)
theorem DS.put_old {kvs : List (List Key × V)} {ss : List Tm} (h : DS K H kvs ss) {s : Tm} (hs : s ∈ ss) {v : V} (hv : IsT K H v s) : DS K H (putK kvs s.key v) ss := by
  obtain ⟨u, hu, _⟩ := h.val hs
  unfold putK
  rw [if_pos (by rw [valV_any, hu]; rfl)]
  unfold DS at h ⊢
  clear hu hs
  induction h with
  | nil => exact .nil
  | @cons p q ps qs x t ih =>
    rw [List.map_cons]
    refine .cons ?_ ih
    by_cases e : p.1 = s.key
    · rw [if_pos e]
      exact ⟨x.1, by rw [show q = s from key_inj (by rw [← x.1, e])]; exact hv⟩
    · rw [if_neg e]; exact x
theorem DS.put_new {kvs : List (List Key × V)} {ss : List Tm} (h : DS K H kvs ss) {s : Tm} (hs : s ∉ ss) {v : V} (hv : IsT K H v s) : DS K H (putK kvs s.key v) (ss ++ [s]) := by
  rw [putK_new v (h.none hs)]
  exact paired_app h (.cons ⟨rfl, hv⟩ .nil)
end
theorem keys_of {ss : List Tm} : ∀ {ks : List (List Key)}, (∀ k ∈ ks, k ∈ ss.map Tm.key) → ∃ os : List Tm, ks = os.map Tm.key ∧ ∀ s ∈ os, s ∈ ss
  | [], _ => ⟨[], rfl, fun _ z => nomatch z⟩
  | k :: ks, h => by
    obtain ⟨s, hs, rfl⟩ := List.mem_map.mp (h k List.mem_cons_self)
    obtain ⟨os, rfl, ho⟩ := keys_of fun q hq => h q (List.mem_cons_of_mem _ hq)
    refine ⟨s :: os, rfl, fun t ht => ?_⟩
    rcases List.mem_cons.mp ht with rfl | ht
    · exact hs
    · exact ho t ht
theorem perm_keys {ks : List (List Key)} {ss : List Tm} (h : List.Perm ks (ss.map Tm.key)) (hn : ss.Nodup) : ∃ os : List Tm, ks = os.map Tm.key ∧ os.Nodup ∧ ∀ s, s ∈ os ↔ s ∈ ss := by
  obtain ⟨os, rfl, ho⟩ := keys_of fun k hk => h.mem_iff.mp hk
  have nk : (ss.map Tm.key).Nodup := by
    clear h ho
    induction ss with
    | nil => exact List.nodup_nil
    | cons s ss ih =>
      have h3 := List.nodup_cons.mp hn
      rw [List.map_cons, List.nodup_cons]
      refine ⟨fun hm => ?_, ih h3.2⟩
      obtain ⟨q, hq, e⟩ := List.mem_map.mp hm
      exact h3.1 (key_inj e ▸ hq)
  have no : (os.map Tm.key).Nodup := h.nodup_iff.mpr nk
  refine ⟨os, rfl, ?_, fun s => ⟨ho s, fun hs => ?_⟩⟩
  · clear ho h
    induction os with
    | nil => exact List.nodup_nil
    | cons s os ih =>
      rw [List.map_cons, List.nodup_cons] at no
      rw [List.nodup_cons]
      exact ⟨fun z => no.1 (List.mem_map_of_mem z), ih no.2⟩
  · obtain ⟨o, ho', e⟩ := List.mem_map.mp (h.mem_iff.mpr (List.mem_map_of_mem hs))
    exact key_inj e ▸ ho'
def sortedT (os : List Tm) : Prop := os.Pairwise fun a b => lexT a.spell b.spell = true
def sp_once (K : PySem.W.Frag) : Sp := fun vs H Q _ => ∃ (a : Addr) (xs : List V) (ts : List Tm), vs = [.ref a] ∧ SqL K H a xs ∧ Paired (IsT K H) xs ts ∧ ts.length < 64 ∧ (∀ t ∈ ts, t.parts ≤ 400) ∧
  ∀ (r : Addr) (H' : Hp) (us : List V) (os : List Tm), Same H H' → H r = none → H' r = some (.lst us) → Paired (IsT K H') us os → os.Nodup → (∀ t, t ∈ os ↔ t ∈ ts) → sortedT os → Q (.ref r) H'
end Ken
set_option Elab.async false
set_option linter.all false
set_option maxRecDepth 100000
set_option maxHeartbeats 2000000
namespace L2
open PySem PySem.Spec PyProof.Rows
def Itv (K : PySem.W.Frag) (a : Addr) (n : Nat) : It :=
  ⟨fun i H => i < n ∧ ∃ xs x, SqL K H a xs ∧ xs[n - 1 - i]? = some x, fun i H x H' => H' = H ∧ ∀ xs, SqL K H a xs → xs[n - 1 - i]? = some x, fun i _ => i = n⟩
def iRev (K : PySem.W.Frag) (ta : TA) : TI := fun σ H R => ta σ H fun vs H1 => ∃ a xs, vs = [.ref a] ∧ SqL K H1 a xs ∧ R (Itv K a xs.length) H1
section
variable {X : Cx}
end
def tCallL (i : Nat) (f : Addr) (t : TE) : TE := fun σ H Q => σ[i]? = some (some (.ref f)) ∧ t σ H Q
section
variable {X : Cx}
end
section
variable {X : Cx}
end
end L2
set_option Elab.async false
set_option linter.all false
set_option maxRecDepth 100000
set_option maxHeartbeats 2000000
namespace L2
open PySem PySem.Spec PyProof.Rows
section
variable {X : Cx}
end
end L2
set_option Elab.async false
set_option linter.all false
set_option maxRecDepth 100000
set_option maxHeartbeats 2000000
namespace L2
open PySem PySem.Spec PyProof.Rows
section
variable {prog : Program} {w : World} {A : Around} {E : Value → Shared → Prop} {s : Shared}
theorem stop_it {α : Type} {Q : α → Shared → Prop} (hh : A.handled = none) (hE : ∀ h' e, (∀ b o, s.heap.get? b = some o → h'.get? b = some o) → (∃ o, h'.get? e = some o ∧ o.cls = .type "StopIteration") → E (.ref e) { s with heap := h' }) :
    wpAny (model prog w) A (Builtin.SmallTypes.stopIteration : Sem α) Q E s := by
  show wpAny _ _ (newExc (Value.type "StopIteration") [] >>= _) _ _ _
  refine wpAny_bind ?_
  unfold newExc
  refine wpAny_bind (wpAny_newObj_type ?_)
  refine wpAny_bind (wpAny_of_eq (Eq.refl (firstArgMember (Value.type "StopIteration") [])) (wpAny_newObj_type ?_))
  unfold raiseNew
  refine wpAny_bind (wpAny_handled ?_)
  rw [hh]
  refine wpAny_throw ?_
  exact hE _ _ (fun b o e => Heap.get?_push_of_some _ (Heap.get?_push_of_some _ e)) ⟨_, Heap.get?_push_size _ rfl, rfl⟩
end
end L2
set_option Elab.async false
set_option linter.all false
set_option maxRecDepth 100000
set_option maxHeartbeats 2000000
namespace L2
open PySem PySem.Spec PyProof.Rows Ken
theorem slot_si_next : Slot "set_iterator" (Str.ofString "__next__") "set_iterator.__next__" :=
  Slot.of (owner := "set_iterator") (n := "__next__") (by rw [typeLookup_type, builtinLookup_eq_fast]; rfl) (by decide +kernel) (by decide +kernel) (by decide +kernel) (Or.inl (by decide +kernel)) (by rw [isSubtype_type]; rfl) (by decide +kernel)
theorem entry_si_next : entryFor table "set_iterator.__next__" = some Builtin.«set_iterator.__next__» := entryFor_of_tree rfl
theorem owner_si : List.lookup (String.ofList ("set_iterator".toList)) Manifest.owners = some Manifest.sig_set_iterator := rfl
theorem args_si_next (a : Value) : argsOk "set_iterator.__next__" { pos := [a] } := by
  show (match Manifest.signature? "set_iterator.__next__" with | some sig => Bind.checkArgs "set_iterator.__next__" sig { pos := [a] } | none => pure ()) = pure ()
  rw [signature?_of (id := "set_iterator.__next__") (n := "__next__".toList.reverse) (o := "set_iterator".toList.reverse) rfl owner_si]
  rfl
theorem entry_set_iter : entryFor table "set.__iter__" = some Builtin.«frozenset.__iter__» :=
  entryFor_alias (id' := "frozenset.__iter__") (by rw [fastTable_eq_tree]; rfl) (by decide +kernel) (by decide +kernel) (by rw [fastTable_eq_tree]; rfl)
theorem slot_si_iter : Slot "set_iterator" (Str.ofString "__iter__") "set_iterator.__iter__" :=
  Slot.of (owner := "set_iterator") (n := "__iter__") (by rw [typeLookup_type, builtinLookup_eq_fast]; rfl) (by decide +kernel) (by decide +kernel) (by decide +kernel) (Or.inl (by decide +kernel)) (by rw [isSubtype_type]; rfl) (by decide +kernel)
theorem entry_si_iter : entryFor table "set_iterator.__iter__" = some Builtin.«dict_keyiterator.__iter__» :=
  entryFor_alias (id' := "dict_keyiterator.__iter__") (by rw [fastTable_eq_tree]; rfl) (by decide +kernel) (by decide +kernel) (by rw [fastTable_eq_tree]; rfl)
theorem args_si_iter (a : Value) : argsOk "set_iterator.__iter__" { pos := [a] } := by
  show (match Manifest.signature? "set_iterator.__iter__" with | some sig => Bind.checkArgs "set_iterator.__iter__" sig { pos := [a] } | none => pure ()) = pure ()
  rw [signature?_of (id := "set_iterator.__iter__") (n := "__iter__".toList.reverse) (o := "set_iterator".toList.reverse) rfl owner_si]
  rfl
abbrev siObj (first : Value) (i : Nat) (a : Addr) (n ep : Nat) : Obj := { cls := .type "set_iterator", data := .fields #[first, .int i 0, .ref a, .int n 0, .int ep 0] }
section
variable {P : Program} {w : World} {A : Around} {E : Value → Shared → Prop} {s : Shared}
theorem chooseS {α : Type} {src : Source} {n : Nat} {k : Nat → Sem α} {Q : α → Shared → Prop} (hn : n ≠ 0) (h : ∀ i d, i < n → wpAny (model P w) A (k i) Q E { s with drawn := d }) : wpAny (model P w) A (Sem.choose src n k) Q E s := by
  intro Γ p hΓ
  rw [Sem.wp_choose]
  exact ⟨hn, h _ _ (Nat.mod_lt _ (Nat.pos_of_ne_zero hn)) Γ p hΓ⟩
theorem si_start {I a : Addr} {first : Value} {i n ep : Nat} {o : Obj} {es : Array (Int × Value)} {t : SetTable} {Q : Option Value → Shared → Prop} (hI : s.heap.get? I = some (siObj first i a es.size ep)) (ha : s.heap.get? a = some o) (hd : o.data = .set es ep t) (hf : t.fits es.size = true)
    (h : wpAny (model P w) A.in1 (match first with
          | Value.int slot tok => do
            let __do_lift ← setNext a slot.toNat i ep
            match __do_lift with
              | some (x, next) => do
                setField (.ref I) 0 (rawInt ↑next)
                setField (.ref I) 1 (rawInt (i + 1))
                ret x
              | none => do
                setField (.ref I) 2 Value.none
                Builtin.SmallTypes.stopIteration
          | x => do
            let __x ← seqItems? first
            match __x with
              | some places =>
                match places[i]? with
                | some (Value.int place tok) => do
                  let x ← setNextDrawn a place.toNat ep
                  setField (.ref I) 1 (rawInt (i + 1))
                  ret x
                | some val => unsupported "internal:set_iterator"
                | none => do
                  setField (.ref I) 0 (rawInt 0)
                  setField (.ref I) 2 Value.none
                  Builtin.SmallTypes.stopIteration
              | x => unsupported "internal:set_iterator")
      (fun fin s' => ∃ v, fin = Fin.done (Flow.ret v) ∧ Q (some v) s') (fun e s' => wpAny (model P w) A (isInstance e (Value.type "StopIteration") >>= fun b => if b = true then pure none else throw e) Q E s') s) : wpAny (model P w) A (pyNext (.ref I)) Q E s := by
  have hTy : s.TypeIs (.ref I) "set_iterator" := ⟨_, hI, rfl⟩
  refine wpAny_bind (wpAny_attempt (wpAny_callSpecial?_slot hTy slot_si_next (wpAny_call_entry slot_si_next hTy entry_si_next ?_ (args_si_next _))))
  show wpAny _ _ (fieldsOf (.ref I) >>= _) _ _ _
  refine wpAny_bind (wpAny_fieldsOf hI rfl ?_)
  refine wpAny_bind (wpAny_setEntries_of ha hd hf ?_)
  dsimp only
  rw [if_neg (by simp)]
  refine wpAny_mono h (fun fin s' ⟨v, e, q⟩ => ⟨v, e, wpAny_pure q⟩) fun e s' q => q
theorem si_next_drawn {I a T : Addr} {i ep : Nat} {o : Obj} {es : Array (Int × Value)} {t : SetTable} {places : List Nat} {pl : Nat} {hx : Int} {x : Value} {Q : Option Value → Shared → Prop} (hI : s.heap.get? I = some (siObj (.ref T) i a es.size ep)) (ha : s.heap.get? a = some o) (hd : o.data = .set es ep t) (hf : t.fits es.size = true)
    (hT : s.heap.get? T = some { cls := .type "tuple", data := .seq (places.map fun (k : Nat) => rawInt (k : Int)).toArray }) (hp : places[i]? = some pl) (he : es[pl]? = some (hx, x))
    (hQ : ∀ h', h'.get? I = some (siObj (.ref T) (i + 1) a es.size ep) → Heap.SameBut I s.heap h' → Q (some x) { s with heap := h' }) : wpAny (model P w) A (pyNext (.ref I)) Q E s := by
  refine si_start (n := es.size) hI ha hd hf ?_
  dsimp only
  refine wpAny_bind (wpAny_seqItems hT rfl ?_)
  dsimp only
  rw [show (places.map fun (k : Nat) => rawInt (k : Int)).toArray[i]? = some (rawInt (pl : Int)) from by simp [hp]]
  unfold rawInt
  dsimp only
  refine wpAny_bind ?_
  unfold setNextDrawn
  refine wpAny_bind (wpAny_setState_of ha hd hf ?_)
  dsimp only
  rw [if_neg (by simp), Int.toNat_natCast, he]
  refine wpAny_pure (wpAny_bind (wpAny_setField_rec hI (by simp) fun h' hI' sb => wpAny_pure ⟨x, rfl, hQ h' ?_ sb⟩))
  exact hI'
theorem si_end_drawn {I a T : Addr} {i ep : Nat} {o : Obj} {es : Array (Int × Value)} {t : SetTable} {places : List Nat} {Q : Option Value → Shared → Prop} (hh : A.handled = none) (hI : s.heap.get? I = some (siObj (.ref T) i a es.size ep)) (ha : s.heap.get? a = some o) (hd : o.data = .set es ep t) (hf : t.fits es.size = true)
    (hT : s.heap.get? T = some { cls := .type "tuple", data := .seq (places.map fun (k : Nat) => rawInt (k : Int)).toArray }) (hp : places[i]? = none)
    (hQ : ∀ h', Heap.ExtBut I s.heap h' → Q none { s with heap := h' }) : wpAny (model P w) A (pyNext (.ref I)) Q E s := by
  refine si_start (n := es.size) hI ha hd hf ?_
  dsimp only
  refine wpAny_bind (wpAny_seqItems hT rfl ?_)
  dsimp only
  rw [show (places.map fun (k : Nat) => rawInt (k : Int)).toArray[i]? = none from by simp [hp]]
  dsimp only
  refine wpAny_bind (wpAny_setField_rec hI (by simp) fun h1 hI1 sb1 => wpAny_bind (wpAny_setField_rec hI1 (by simp) fun h2 hI2 sb2 => ?_))
  refine stop_it (A := A.in1) hh fun h' e k ⟨oe, he, hc⟩ => wpAny_bind (wpAny_isInstance ⟨oe, he, hc⟩ isSubtype_stop ?_)
  rw [if_pos rfl]
  exact wpAny_pure (hQ h' fun b ob hb eb => k b ob ((sb2.2 b hb).trans ((sb1.2 b hb).trans eb)))
theorem si_next_text {I a : Addr} {i ep : Nat} {o : Obj} {es : Array (Int × Value)} {t : SetTable} {e : Int × Value} {Q : Option Value → Shared → Prop} (hb : w.params.followText "set-order" = true) (hI : s.heap.get? I = some (siObj (.int 0 0) i a es.size ep)) (ha : s.heap.get? a = some o) (hd : o.data = .set es ep t) (hf : t.fits es.size = true)
    (he : (pickOrder (w.params.setOrder a ep) es)[i]? = some e)
    (hQ : ∀ h', h'.get? I = some (siObj (.int 0 0) (i + 1) a es.size ep) → Heap.SameBut I s.heap h' → Q (some e.2) { s with heap := h' }) : wpAny (model P w) A (pyNext (.ref I)) Q E s := by
  refine si_start (n := es.size) hI ha hd hf ?_
  dsimp only
  refine wpAny_bind ?_
  unfold setNext
  refine wpAny_bind (wpAny_setState_of ha hd hf ?_)
  dsimp only
  refine wpAny_bind (wpAny_bind (wpAny_askSetting (wpAny_pure ?_)))
  rw [if_pos (show (model P w).w.params.followText "set-order" = true from hb), if_neg (by simp)]
  refine wpAny_bind ?_
  unfold setWalk
  refine wpAny_bind (wpAny_setState_of ha hd hf ?_)
  dsimp only
  refine wpAny_bind (wpAny_bind (wpAny_askSetting (wpAny_pure ?_)))
  rw [if_pos (show (model P w).w.params.followText "set-order" = true from hb)]
  refine wpAny_bind (wpAny_askSetting (wpAny_pure (wpAny_pure ?_)))
  rw [show (pickOrder ((model P w).w.params.setOrder a ep) es)[i]? = some e from he]
  dsimp only [Option.map_some]
  refine wpAny_bind (wpAny_setField_rec hI (by simp) fun h1 hI1 sb1 => wpAny_bind (wpAny_setField_rec hI1 (by simp) fun h2 hI2 sb2 => wpAny_pure ⟨_, rfl, hQ h2 ?_ (sb1.trans sb2)⟩))
  exact hI2
theorem si_end_text {I a : Addr} {i ep : Nat} {o : Obj} {es : Array (Int × Value)} {t : SetTable} {Q : Option Value → Shared → Prop} (hh : A.handled = none) (hb : w.params.followText "set-order" = true) (hI : s.heap.get? I = some (siObj (.int 0 0) i a es.size ep)) (ha : s.heap.get? a = some o) (hd : o.data = .set es ep t) (hf : t.fits es.size = true)
    (he : (pickOrder (w.params.setOrder a ep) es)[i]? = none)
    (hQ : ∀ h', Heap.ExtBut I s.heap h' → Q none { s with heap := h' }) : wpAny (model P w) A (pyNext (.ref I)) Q E s := by
  refine si_start (n := es.size) hI ha hd hf ?_
  dsimp only
  refine wpAny_bind ?_
  unfold setNext
  refine wpAny_bind (wpAny_setState_of ha hd hf ?_)
  dsimp only
  refine wpAny_bind (wpAny_bind (wpAny_askSetting (wpAny_pure ?_)))
  rw [if_pos (show (model P w).w.params.followText "set-order" = true from hb), if_neg (by simp)]
  refine wpAny_bind ?_
  unfold setWalk
  refine wpAny_bind (wpAny_setState_of ha hd hf ?_)
  dsimp only
  refine wpAny_bind (wpAny_bind (wpAny_askSetting (wpAny_pure ?_)))
  rw [if_pos (show (model P w).w.params.followText "set-order" = true from hb)]
  refine wpAny_bind (wpAny_askSetting (wpAny_pure (wpAny_pure ?_)))
  rw [show (pickOrder ((model P w).w.params.setOrder a ep) es)[i]? = none from he]
  dsimp only [Option.map_none]
  refine wpAny_bind (wpAny_setField_rec hI (by simp) fun h1 hI1 sb1 => ?_)
  refine stop_it (A := A.in1) hh fun h' e k ⟨oe, he, hc⟩ => wpAny_bind (wpAny_isInstance ⟨oe, he, hc⟩ isSubtype_stop ?_)
  rw [if_pos rfl]
  exact wpAny_pure (hQ h' fun b ob hb eb => k b ob ((sb1.2 b hb).trans eb))
theorem below_one (j k : Nat) : SetTable.below #[j] k = if j < k then 1 else 0 := by
  unfold SetTable.below
  show SetTable.below.go #[j] k 1 0 1 = _
  rw [SetTable.below.go.eq_def]
  by_cases h : j < k
  · simp [h, SetTable.below.go.eq_def]
  · simp [h, SetTable.below.go.eq_def]
theorem si_slot {I a : Addr} {i ep slot : Nat} {o : Obj} {es : Array (Int × Value)} {t : SetTable} {Q : Option Value → Shared → Prop} (hb : w.params.followText "set-order" = false) (hI : s.heap.get? I = some (siObj (.int slot 0) i a es.size ep)) (ha : s.heap.get? a = some o) (hd : o.data = .set es ep t) (hf : t.fits es.size = true) (hl : t.led = true) (h1 : es.size ≤ 1)
    (h : wpAny (model P w) A.in1 (match (match es[SetTable.below t.place slot]?, t.place[SetTable.below t.place slot]? with
              | some (_, x), some j => some (x, j + 1)
              | _, _ => none) with
              | some (x, next) => do
                setField (.ref I) 0 (rawInt ↑(next : Nat))
                setField (.ref I) 1 (rawInt (i + 1))
                ret x
              | none => do
                setField (.ref I) 2 Value.none
                Builtin.SmallTypes.stopIteration)
      (fun fin s' => ∃ v, fin = Fin.done (Flow.ret v) ∧ Q (some v) s') (fun e s' => wpAny (model P w) A (isInstance e (Value.type "StopIteration") >>= fun b => if b = true then pure none else throw e) Q E s') s) : wpAny (model P w) A (pyNext (.ref I)) Q E s := by
  refine si_start (n := es.size) hI ha hd hf ?_
  dsimp only
  refine wpAny_bind ?_
  unfold setNext
  refine wpAny_bind (wpAny_setState_of ha hd hf ?_)
  dsimp only
  refine wpAny_bind (wpAny_bind (wpAny_askSetting (wpAny_pure ?_)))
  rw [if_neg (show ¬ ((model P w).w.params.followText "set-order" = true) from fun z => by rw [show (model P w).w.params.followText "set-order" = false from hb] at z; cases z)]
  split
  · rename_i hz
    have hz : (!t.plain && decide (es.size > 1)) = true := hz
    rw [Bool.and_eq_true] at hz
    have := of_decide_eq_true hz.2
    omega
  refine wpAny_bind ?_
  show wpAny _ _ (if (!t.led && !es.isEmpty) = true then unsupported "set:maker-not-led" else pure ()) _ _ _
  rw [if_neg (by rw [hl]; simp)]
  refine wpAny_pure (wpAny_pure ?_)
  exact h
theorem perm_erase {α : Type} : ∀ (l : List α) (i : Nat) (h : i < l.length), List.Perm (l[i] :: l.eraseIdx i) l
  | [], i, h => absurd h (by simp)
  | x :: l, 0, h => .refl _
  | x :: l, i + 1, h => by
    have ih := perm_erase l i (by simpa using h)
    rw [List.eraseIdx_cons_succ, List.getElem_cons_succ]
    exact (List.Perm.swap _ _ _).trans (.cons _ ih)
theorem drawOrderS {α : Type} : ∀ (n : Nat) (xs : List α) {s : Shared} {Q : List α → Shared → Prop}, xs.length ≤ n → (∀ ys d, List.Perm ys xs → Q ys { s with drawn := d }) → wpAny (model P w) A (drawOrder n xs) Q E s
  | 0, xs, s, Q, hn, hQ => by
    have : xs = [] := List.length_eq_zero_iff.mp (Nat.le_zero.mp hn)
    subst this
    rw [drawOrder.eq_def]
    exact wpAny_pure (hQ [] s.drawn .nil)
  | n + 1, [], s, Q, hn, hQ => by
    rw [drawOrder.eq_def]
    exact wpAny_pure (hQ [] s.drawn .nil)
  | n + 1, x :: xs, s, Q, hn, hQ => by
    rw [drawOrder.eq_def]
    dsimp only
    refine wpAny_bind (chooseS (by simp) fun i d hi => wpAny_pure ?_)
    rw [List.getElem?_eq_getElem hi]
    dsimp only
    refine wpAny_bind (drawOrderS n ((x :: xs).eraseIdx i) (by rw [List.length_eraseIdx_of_lt hi]; omega) fun ys d' hp => wpAny_pure (hQ _ _ ?_))
    exact (List.Perm.cons _ hp).trans (perm_erase _ _ hi)
theorem pickOrder_perm {α : Type} (next : Nat → Nat) (xs : Array α) : List.Perm (pickOrder next xs).toList xs.toList := by
  have gen : ∀ (f k : Nat) (left : List α) (out : Array α), left.length = f → List.Perm (pickOrder.go next f k left out).toList (out.toList ++ left) := by
    intro f
    induction f with
    | zero =>
      intro k left out h
      rw [List.length_eq_zero_iff.mp h, List.append_nil, pickOrder.go.eq_def]
    | succ f ih =>
      intro k left out h
      rw [pickOrder.go.eq_def]
      dsimp only
      have hi : next k % left.length < left.length := Nat.mod_lt _ (by omega)
      rw [List.getElem?_eq_getElem hi]
      dsimp only
      refine (ih (k + 1) _ _ (by rw [List.length_eraseIdx_of_lt hi]; omega)).trans ?_
      rw [Array.toList_push, List.append_assoc]
      exact List.Perm.append_left _ (perm_erase _ _ hi)
  unfold pickOrder
  have := gen xs.size 0 xs.toList #[] (by simp)
  simpa using this
def SiAt (w : World) (I a : Addr) (es : Array (Int × Value)) (ep : Nat) (t : SetTable) (ord : List Value) (fs : List Addr) (i : Nat) (h : Heap) : Prop :=
  (∃ o, h.get? a = some o ∧ o.data = .set es ep t) ∧
  ((∃ (T : Addr) (places : List Nat), fs = [T] ∧ h.get? I = some (siObj (.ref T) i a es.size ep) ∧ h.get? T = some { cls := .type "tuple", data := .seq (places.map fun (k : Nat) => rawInt (k : Int)).toArray } ∧ ord = places.map (fun k => ((es[k]?).getD (0, .none)).2) ∧ places.length = es.size ∧ ∀ k ∈ places, k < es.size) ∨
   (fs = [] ∧ w.params.followText "set-order" = true ∧ h.get? I = some (siObj (.int 0 0) i a es.size ep) ∧ ord = (pickOrder (w.params.setOrder a ep) es).toList.map (·.2)) ∨
   (fs = [] ∧ w.params.followText "set-order" = false ∧ es.size ≤ 1 ∧ t.led = true ∧ ord = es.toList.map (·.2) ∧ ∃ slot : Nat, h.get? I = some (siObj (.int slot 0) i a es.size ep) ∧ (i = 0 → slot = 0) ∧ (i = 1 → ∃ j, t.place = #[j] ∧ slot = j + 1)))
theorem SiAt.keep {w : World} {I a : Addr} {es : Array (Int × Value)} {ep : Nat} {t : SetTable} {ord : List Value} {fs : List Addr} {i : Nat} {h h' : Heap} (x : SiAt w I a es ep t ord fs i h) (k : ∀ b ∈ I :: a :: fs, ∀ o, h.get? b = some o → h'.get? b = some o) : SiAt w I a es ep t ord fs i h' := by
  obtain ⟨⟨o, h1, h2⟩, x⟩ := x
  refine ⟨⟨o, k a (by simp) o h1, h2⟩, ?_⟩
  rcases x with ⟨T, places, e, x1, x2, r⟩ | ⟨e, b, x1, r⟩ | ⟨e, b, z, l, r, slot, x1, r2⟩
  · exact .inl ⟨T, places, e, k I (by simp) _ x1, k T (by rw [e]; simp) _ x2, r⟩
  · exact .inr (.inl ⟨e, b, k I (by simp) _ x1, r⟩)
  · exact .inr (.inr ⟨e, b, z, l, r, slot, k I (by simp) _ x1, r2⟩)
theorem arr_one {α : Type} : ∀ {x : Array α}, x.size = 1 → ∃ j, x = #[j]
  | ⟨[j]⟩, _ => ⟨j, rfl⟩
theorem walks_set {I a : Addr} {es : Array (Int × Value)} {ep : Nat} {t : SetTable} {ord : List Value} {fs : List Addr} (hh : A.handled = none) (hf : t.fits es.size = true) (haI : a ≠ I) (hfI : ∀ T ∈ fs, T ≠ I) :
    Walks P w A I (I :: a :: fs) [I] es.size (fun i v => ord[i]? = some v) (SiAt w I a es ep t ord fs) := by
  have upd1 : ∀ {h h' : Heap} {b : Addr}, Heap.SameBut I h h' → b ≠ I → ∀ o, h.get? b = some o → h'.get? b = some o := fun sb hb o e => (sb.2 _ hb).trans e
  refine ⟨fun b hb => by rw [List.mem_singleton.mp hb]; simp, fun i h h' x k => x.keep k, fun i s Q E hi x q => ?_, fun s Q E x q => ?_, fun i s Q E x q => ?_⟩
  · obtain ⟨⟨o, h1, h2⟩, x⟩ := x
    rcases x with ⟨T, places, e, x1, x2, r1, r2, r3⟩ | ⟨e, b, x1, r⟩ | ⟨e, b, z, l, r, slot, x1, r2, r3⟩
    · have hp : places[i]? = some (places[i]'(by omega)) := List.getElem?_eq_getElem _
      have hk := r3 _ (List.getElem_mem (by omega : i < places.length))
      refine si_next_drawn x1 h1 h2 hf x2 hp (hx := (es[places[i]'(by omega)]'hk).1) (x := (es[places[i]'(by omega)]'hk).2) (by rw [Array.getElem?_eq_getElem hk]) fun h' hI' sb => ?_
      refine q _ h' s.toks ?_ ⟨⟨o, upd1 sb haI _ h1, h2⟩, .inl ⟨T, places, e, hI', upd1 sb (hfI T (by rw [e]; simp)) _ x2, r1, r2, r3⟩⟩ fun b o hb e => upd1 sb (by simpa using hb) _ e
      rw [r1, List.getElem?_map, hp]
      simp [Array.getElem?_eq_getElem hk]
    · have hsz : (pickOrder (w.params.setOrder a ep) es).size = es.size := by have := (pickOrder_perm (w.params.setOrder a ep) es).length_eq; simpa using this
      have he : (pickOrder (w.params.setOrder a ep) es)[i]? = some ((pickOrder (w.params.setOrder a ep) es)[i]'(by omega)) := Array.getElem?_eq_getElem _
      refine si_next_text b x1 h1 h2 hf he fun h' hI' sb => ?_
      refine q _ h' s.toks ?_ ⟨⟨o, upd1 sb haI _ h1, h2⟩, .inr (.inl ⟨e, b, hI', r⟩)⟩ fun b o hb e => upd1 sb (by simpa using hb) _ e
      rw [r, List.getElem?_map, Array.getElem?_toList, he]
      rfl
    · have i0 : i = 0 := by omega
      subst i0
      have n1 : es.size = 1 := by omega
      have hs := r2 rfl
      subst hs
      have hpl : t.place.size = 1 := by
        unfold SetTable.fits at hf
        rw [Bool.and_eq_true, beq_iff_eq] at hf
        omega
      obtain ⟨j, hj⟩ := arr_one hpl
      obtain ⟨e0, he0⟩ := arr_one n1
      refine si_slot b x1 h1 h2 hf l z ?_
      rw [hj, below_one, if_neg (Nat.not_lt_zero _), he0]
      refine wpAny_bind (wpAny_setField_rec x1 (by simp) fun g1 hI1 sb1 => wpAny_bind (wpAny_setField_rec hI1 (by simp) fun g2 hI2 sb2 => wpAny_pure ⟨_, rfl, ?_⟩))
      have sb := sb1.trans sb2
      refine q _ g2 s.toks ?_ ⟨⟨o, upd1 sb haI _ h1, h2⟩, .inr (.inr ⟨e, b, z, l, r, j + 1, ?_, (fun z => absurd z (Nat.succ_ne_zero 0)), fun _ => ⟨j, hj, rfl⟩⟩)⟩ fun b o hb e => upd1 sb (by simpa using hb) _ e
      · rw [r, he0]; rfl
      · exact hI2
  · obtain ⟨⟨o, h1, h2⟩, x⟩ := x
    rcases x with ⟨T, places, e, x1, x2, r1, r2, r3⟩ | ⟨e, b, x1, r⟩ | ⟨e, b, z, l, r, slot, x1, r2, r3⟩
    · exact si_end_drawn hh x1 h1 h2 hf x2 (List.getElem?_eq_none (by omega)) fun h' eb => q h' s.toks fun b o hb e => eb b o (by simpa using hb) e
    · have hsz : (pickOrder (w.params.setOrder a ep) es).size = es.size := by have := (pickOrder_perm (w.params.setOrder a ep) es).length_eq; simpa using this
      exact si_end_text hh b x1 h1 h2 hf (Array.getElem?_eq_none (by omega)) fun h' eb => q h' s.toks fun b o hb e => eb b o (by simpa using hb) e
    · refine si_slot b x1 h1 h2 hf l z ?_
      have hnone : es[SetTable.below t.place slot]? = none := by
        by_cases n1 : es.size = 1
        · obtain ⟨j, hj, hs⟩ := r3 n1
          rw [hj, below_one, if_pos (by omega)]
          exact Array.getElem?_eq_none (by omega)
        · exact Array.getElem?_eq_none (by omega)
      rw [hnone]
      dsimp only
      refine wpAny_bind (wpAny_setField_rec x1 (by simp) fun g1 hI1 sb1 => ?_)
      refine stop_it (A := A.in1) hh fun h' e k ⟨oe, he, hc⟩ => wpAny_bind (wpAny_isInstance ⟨oe, he, hc⟩ isSubtype_stop ?_)
      rw [if_pos rfl]
      exact wpAny_pure (q h' s.toks fun b ob hb eb => k b ob ((sb1.2 b (by simpa using hb)).trans eb))
  · have hT : s.TypeIs (.ref I) "set_iterator" := by
      obtain ⟨_, x⟩ := x
      rcases x with ⟨T, places, e, x1, _⟩ | ⟨e, b, x1, r⟩ | ⟨e, b, z, l, r, slot, x1, r2, r3⟩
      · exact ⟨_, x1, rfl⟩
      · exact ⟨_, x1, rfl⟩
      · exact ⟨_, x1, rfl⟩
    exact wpAny_pyIter_slot hT slot_si_iter (wpAny_call_entry slot_si_iter hT entry_si_iter (id (wpAny_pure ⟨.ref I, rfl, "set_iterator", .builtin "set_iterator.__next__", hT, slot_si_next.lookup, q⟩)) (args_si_iter (.ref I)))
theorem iter_set {a : Addr} {o : Obj} {es : Array (Int × Value)} {ep : Nat} {t : SetTable} {Q : Value → Shared → Prop} (ha : s.heap.get? a = some o) (hx : o.ExactSet) (hd : o.data = .set es ep t) (hf : t.fits es.size = true) (hl : t.led = !(w.params.followText "set-order")) (hp : t.plain = false ∨ es.size ≤ 1) (hz : es.size ≤ sizeLine)
    (hQ : ∀ (I : Addr) (fs : List Addr) (ord : List Value) (h' : Heap) (d : Drawn), s.heap.objs.size ≤ I → (∀ T ∈ fs, s.heap.objs.size ≤ T ∧ T ≠ I) → (∀ b ∈ I :: fs, b < h'.objs.size) → (∀ b o, s.heap.get? b = some o → h'.get? b = some o) → List.Perm ord (es.toList.map (·.2)) → SiAt w I a es ep t ord fs 0 h' → Q (.ref I) { s with heap := h', drawn := d }) :
    wpAny (model P w) A (pyIter (.ref a)) Q E s := by
  have hT : s.TypeIs (.ref a) "set" := ⟨o, ha, hx.1⟩
  refine wpAny_pyIter_slot hT F.slot_set_iter (wpAny_call_entry F.slot_set_iter hT entry_set_iter ?_ (F.args_set_iter_1 (.ref a)))
  show wpAny _ _ (Builtin.Frozenset.slot0 "__iter__" { pos := [.ref a] } >>= _) _ _ _
  refine wpAny_bind ?_
  show wpAny _ _ (Builtin.Frozenset.addrOf (.ref a)) _ _ _
  refine wpAny_pure ?_
  refine wpAny_bind (wpAny_bind (wpAny_setEntries_of ha hd hf (wpAny_pure ?_)))
  refine wpAny_bind ?_
  unfold setDrawn
  refine wpAny_bind (wpAny_setState_of ha hd hf ?_)
  dsimp only
  refine wpAny_bind (wpAny_bind (wpAny_askSetting (wpAny_pure (wpAny_pure ?_))))
  dsimp only
  split
  · rename_i hc
    have hc : (!(w.params.followText "set-order") && (!t.plain && decide (es.size > 1))) = true := hc
    refine wpAny_bind (drawOrderS es.size (List.range es.size) (by simp) fun ys d hy => ?_)
    have hyl : ys.length = es.size := by have := hy.length_eq; simpa using this
    refine wpAny_bind (wpAny_newTuple (s := { s with drawn := d }) ?_ (by rw [List.length_map, hyl]; exact hz))
    dsimp only
    have ha1 : (s.heap.push { cls := Value.type "tuple", data := Data.seq (List.map (fun (i : Nat) => rawInt ↑i) ys).toArray }).get? a = some o := Heap.get?_push_of_some _ ha
    refine wpAny_bind (wpAny_bind (wpAny_setState_of (s := { s with heap := s.heap.push { cls := Value.type "tuple", data := Data.seq (List.map (fun (i : Nat) => rawInt ↑i) ys).toArray }, drawn := d }) ha1 hd hf (wpAny_pure ?_)))
    dsimp only
    refine wpAny_bind (wpAny_newObj_type ?_ (hd := by show 5 ≤ sizeLine + 2; decide))
    generalize hp1 : s.heap.push { cls := Value.type "tuple", data := Data.seq (List.map (fun (i : Nat) => rawInt ↑i) ys).toArray } = g1 at ha1
    have z1 : g1.objs.size = s.heap.objs.size + 1 := by rw [← hp1]; exact Heap.size_push _ _
    have eT : g1.get? s.heap.objs.size = some { cls := Value.type "tuple", data := Data.seq (List.map (fun (i : Nat) => rawInt ↑i) ys).toArray } := by rw [← hp1]; exact Heap.get?_push_size _ rfl
    have k1 : ∀ b o, s.heap.get? b = some o → g1.get? b = some o := fun b o e => by rw [← hp1]; exact Heap.get?_push_of_some _ e
    have eI : (g1.push (siObj (.ref s.heap.objs.size) 0 a es.size ep)).get? g1.objs.size = some (siObj (.ref s.heap.objs.size) 0 a es.size ep) := Heap.get?_push_size _ rfl
    refine wpAny_pure ⟨_, rfl, "set_iterator", _, ⟨_, eI, rfl⟩, slot_si_next.lookup, ?_⟩
    have szE : (g1.push (siObj (.ref s.heap.objs.size) 0 a es.size ep)).objs.size = s.heap.objs.size + 2 := by rw [Heap.size_push, z1]
    refine hQ g1.objs.size [s.heap.objs.size] (ys.map fun k => ((es[k]?).getD (0, .none)).2) _ d (by rw [z1]; exact Nat.le_succ _) (fun T hT => by rw [List.mem_singleton.mp hT, z1]; exact ⟨Nat.le_refl _, Nat.ne_of_lt (Nat.lt_succ_self _)⟩) (fun b hb => ?_) (fun b o e => Heap.get?_push_of_some _ (k1 b o e)) ?_ ⟨⟨o, Heap.get?_push_of_some _ ha1, hd⟩, .inl ⟨_, ys, rfl, eI, Heap.get?_push_of_some _ eT, rfl, hyl, fun k hk => by have := hy.mem_iff.mp hk; simpa using this⟩⟩
    · rw [Heap.size_push]
      rcases List.mem_cons.mp hb with rfl | hb
      · exact Nat.lt_succ_self _
      · rw [List.mem_singleton.mp hb]
        show s.heap.objs.size < g1.objs.size + 1
        rw [z1]; exact Nat.lt_succ_of_lt (Nat.lt_succ_self _)
    · refine (hy.map _).trans ?_
      have e : List.map (fun k => ((es[k]?).getD (0, Value.none)).2) (List.range es.size) = es.toList.map (·.2) := by
        apply List.ext_getElem
        · simp
        · intro i h1 h2
          simp only [List.length_map, List.length_range] at h1
          simp [Array.getElem?_eq_getElem h1]
      rw [e]
  · rename_i hc
    have hc : ¬ ((!(w.params.followText "set-order") && (!t.plain && decide (es.size > 1))) = true) := hc
    refine wpAny_bind (wpAny_pure ?_)
    refine wpAny_bind (wpAny_bind (wpAny_setState_of ha hd hf (wpAny_pure ?_)))
    dsimp only
    refine wpAny_bind (wpAny_newObj_type ?_ (hd := by show 5 ≤ sizeLine + 2; decide))
    have eI : (s.heap.push (siObj (.int 0 0) 0 a es.size ep)).get? s.heap.objs.size = some (siObj (.int 0 0) 0 a es.size ep) := Heap.get?_push_size _ rfl
    refine wpAny_pure ⟨_, rfl, "set_iterator", _, ⟨_, eI, rfl⟩, slot_si_next.lookup, ?_⟩
    have szE : (s.heap.push (siObj (.int 0 0) 0 a es.size ep)).objs.size = s.heap.objs.size + 1 := Heap.size_push _ _
    by_cases hb : w.params.followText "set-order" = true
    · refine hQ s.heap.objs.size [] ((pickOrder (w.params.setOrder a ep) es).toList.map (·.2)) _ s.drawn (Nat.le_refl _) (fun T hT => absurd hT (by simp)) (fun b hb => by rw [List.mem_singleton.mp hb, Heap.size_push]; exact Nat.lt_succ_self _) (fun b o e => Heap.get?_push_of_some _ e) ((pickOrder_perm _ _).map _) ⟨⟨o, Heap.get?_push_of_some _ ha, hd⟩, .inr (.inl ⟨rfl, hb, eI, rfl⟩)⟩
    · have hb' : w.params.followText "set-order" = false := by simpa using hb
      have hsz : es.size ≤ 1 := by
        rcases hp with hp | hp
        · rw [hb', hp] at hc
          simp at hc
          exact hc
        · exact hp
      refine hQ s.heap.objs.size [] (es.toList.map (·.2)) _ s.drawn (Nat.le_refl _) (fun T hT => absurd hT (by simp)) (fun b hb => by rw [List.mem_singleton.mp hb, Heap.size_push]; exact Nat.lt_succ_self _) (fun b o e => Heap.get?_push_of_some _ e) (.refl _) ⟨⟨o, Heap.get?_push_of_some _ ha, hd⟩, .inr (.inr ⟨rfl, hb', hsz, by rw [hl, hb']; rfl, rfl, 0, eI, fun _ => rfl, fun z => absurd z (by decide)⟩)⟩
end
end L2
set_option Elab.async false
set_option linter.all false
set_option maxRecDepth 100000
set_option maxHeartbeats 2000000
namespace L2
open PySem PySem.Spec PyProof.Rows Ken
section
variable {P : Program} {w : World} {A : Around} {E : Value → Shared → Prop} {s : Shared}
theorem split_set_len : splitId "set.__len__" = some ("set", "__len__") := by decide +kernel
theorem hint_set {a : Addr} {Q : Bool → Shared → Prop} (hT : s.TypeIs (.ref a) "set") (h : Q false s) : wpAny (model P w) A (Builtin.List.listLengthHint (.ref a)) Q E s := by
  unfold Builtin.List.listLengthHint
  refine wpAny_bind (wpAny_specialOf hT F.slot_set_len.lookup ?_)
  dsimp only
  rw [split_set_len]
  dsimp only
  refine wpAny_bind (wpAny_isInstance hT sub_set_self ?_)
  rw [if_neg (by decide)]
  refine wpAny_ite_split (fun _ => wpAny_bind (wpAny_typeOf hT (wpAny_pure h))) fun hz => absurd (by first | rfl | decide +kernel) hz
theorem extend_set {a S : Addr} {o : Obj} {es : Array (Int × Value)} {ep : Nat} {t : SetTable} {R : Result → Shared → Prop} {res : Value} {c₀ : Nat} (hh : A.handled = none) (ha : s.heap.get? a = some o) (hx : o.ExactSet) (hd : o.data = .set es ep t) (hf : t.fits es.size = true) (hl : t.led = !(w.params.followText "set-order")) (hp : t.plain = false ∨ es.size ≤ 1) (hz : es.size ≤ sizeLine)
    (hS : s.heap.get? S = some { cls := .type "list", data := .seq #[] c₀ })
    (hR : ∀ (h' : Heap) (tk : Nat) (d : Drawn) (vs : List Value) (c' : Nat), (∀ b o, b ≠ S → s.heap.get? b = some o → h'.get? b = some o) → h'.get? S = some { cls := .type "list", data := .seq vs.toArray c' } → List.Perm vs (es.toList.map (·.2)) → R (.ok (.ret res)) { s with heap := h', toks := tk, drawn := d }) :
    wpAny (model P w) A.in1 (Builtin.List.listExtendWith (.ref S) (.ref a) res) (fun fin s' => match fin with
      | Fin.done f => R (.ok f) s'
      | Fin.again c' => c'.quiet = true ∧ codeAny (model P w) A c' R s') (fun e s' => R (.error e) s') s := by
  have hT : s.TypeIs (.ref a) "set" := ⟨o, ha, hx.1⟩
  have hSa : S ≠ a := fun z => by
    rw [z, ha] at hS
    cases hS
    cases hd
  unfold Builtin.List.listExtendWith
  refine wpAny_bind (wpAny_typeOf hT ?_)
  rw [if_neg (show ¬ ((Builtin.List.listSameRef (.ref S) (.ref a) || Value.type "set" == Value.type "list" || Value.type "set" == Value.type "tuple") = true) from by
    rw [show Builtin.List.listSameRef (.ref S) (.ref a) = false from by
      show (S == a) = false
      simpa using hSa]
    decide)]
  refine wpAny_bind (iter_set ha hx hd hf hl hp hz fun I fs ord h1 d hI hfs hlt k1 hperm st => ?_)
  have ol : ord.length = es.size := by have := hperm.length_eq; simpa using this
  have haI : a ≠ I := Nat.ne_of_lt (Nat.lt_of_lt_of_le (Heap.lt_size ha) hI)
  have hSI : S ≠ I := Nat.ne_of_lt (Nat.lt_of_lt_of_le (Heap.lt_size hS) hI)
  have hSf : S ∉ I :: a :: fs := fun z => by
    rcases List.mem_cons.mp z with z | z
    · exact hSI z
    rcases List.mem_cons.mp z with z | z
    · exact hSa z
    · exact Nat.ne_of_lt (Nat.lt_of_lt_of_le (Heap.lt_size hS) (hfs S z).1) rfl
  have hS1 := k1 S _ hS
  have hT1 : ({ s with heap := h1, drawn := d } : Shared).TypeIs (.ref a) "set" := ⟨o, k1 a _ ha, hx.1⟩
  have W := walks_set (P := P) (w := w) (A := A.in1) (I := I) (a := a) (es := es) (ep := ep) (t := t) (ord := ord) (fs := fs) hh hf haI fun T hT' => (hfs T hT').2
  have key : ∀ (h : Heap) (c₁ tk : Nat), SiAt w I a es ep t ord fs 0 h → (∀ b o, b ≠ S → s.heap.get? b = some o → h.get? b = some o) → h.get? S = some { cls := .type "list", data := .seq #[] c₁ } →
      codeAny (model P w) A (Code.builtin "list.extend.loop" { pos := [.ref S, .ref I, res] }) R { s with heap := h, toks := tk, drawn := d } := fun h c₁ tk hst hk hS₁ =>
    codeAny_extend_loopS (Walks.toS W) hz S hSf res es.size 0 { s with heap := h, toks := tk, drawn := d } #[] c₁ rfl (Nat.zero_le _) hst hS₁ (ItemsOf.nil _) fun s' acc' c' hm hS' hacc => by
      rw [Moved.eq_with hm]
      refine hR s'.heap s'.toks d acc'.toList c' (fun b o hb e => hm.heap b o (fun hmem => ?_) (hk b o hb e)) (by simpa using hS') ?_
      · rcases List.mem_cons.mp hmem with z | z
        · exact hb z
        · have z' : b = I := List.mem_singleton.mp z
          exact absurd (Heap.lt_size e) (by rw [z']; exact Nat.not_lt.mpr hI)
      · have e : acc'.toList = ord := by
          apply List.ext_getElem?
          intro j
          cases q : acc'.toList[j]? with
          | none =>
            have : acc'.toList.length ≤ j := List.getElem?_eq_none_iff.mp q
            rw [List.getElem?_eq_none (by rw [ol]; have := hacc.1; rw [Array.length_toList] at *; omega)]
          | some v => exact (hacc.2 j v (by simpa using q)).symm
        rw [e]
        exact hperm
  refine wpAny_bind (wpAny_holding (hint_set hT1 ?_))
  refine wpAny_ite_split (fun _ => ?_) fun _ => ?_
  · refine wpAny_bind (wpAny_rule (wpAny_bind ?_))
    have hS2 := Heap.get?_update_self (Obj.mapSeq fun x => x.push Value.none) hS1 rfl
    have hS3 := Heap.get?_update_self (Obj.mapSeq fun x => x.pop) hS2 rfl
    have k3 : ∀ b ob, b ≠ S → h1.get? b = some ob → ((h1.update S (Obj.mapSeq fun x => x.push Value.none)).update S (Obj.mapSeq fun x => x.pop)).get? b = some ob := fun b ob hb e =>
      ((Heap.SameBut.update _ S _).2 b hb).trans (((Heap.SameBut.update _ S _).2 b hb).trans e)
    refine wpAny_bind (wpAny_updateSeq hS1 rfl ?_)
    refine wpAny_updateSeq hS2 rfl ?_
    exact wpAny_pure ⟨plainId_quiet F.plain_extend_loop _, key _ _ s.toks (st.keep fun b hb ob e => k3 b ob (fun z => hSf (z ▸ hb)) e) (fun b ob hb e => k3 b ob hb (k1 b ob e)) hS3⟩
  · exact wpAny_pure ⟨plainId_quiet F.plain_extend_loop _, key h1 c₀ s.toks st (fun b o _ e => k1 b o e) hS1⟩
theorem collect_set {a : Addr} {o : Obj} {es : Array (Int × Value)} {ep : Nat} {t : SetTable} {Q : List Value → Shared → Prop} (hh : A.handled = none) (ha : s.heap.get? a = some o) (hx : o.ExactSet) (hd : o.data = .set es ep t) (hf : t.fits es.size = true) (hl : t.led = !(w.params.followText "set-order")) (hp : t.plain = false ∨ es.size ≤ 1) (hz : es.size ≤ sizeLine)
    (hQ : ∀ (h' : Heap) (tk : Nat) (d : Drawn) (vs : List Value), s.heap.objs.size < h'.objs.size → (∀ b o, s.heap.get? b = some o → h'.get? b = some o) → List.Perm vs (es.toList.map (·.2)) → Q vs { s with heap := h', toks := tk, drawn := d }) :
    wpAny (model P w) A (collect (.ref a)) Q E s := by
  refine wpAny_bind (wpAny_runValue (codeAny_builtin entry_proto_collect' ?_))
  rw [Around.under_plainId F.plain_proto_collect { pos := [Value.ref a] }]
  refine wpAny_bind (wpAny_newObj_type (wpAny_pure ⟨plainId_quiet F.plain_list_iadd _, codeAny_builtin entry_list_iadd' ?_⟩))
  rw [Around.under_plainId F.plain_list_iadd { pos := [Value.ref s.heap.objs.size, Value.ref a] }]
  show wpAny _ _ (Builtin.List.listExtendWith (.ref s.heap.objs.size) (.ref a) (.ref s.heap.objs.size)) _ _ _
  have hS : (s.heap.push { cls := Value.type "list", data := Data.seq ([] : List Value).toArray }).get? s.heap.objs.size = some { cls := Value.type "list", data := Data.seq #[] 0 } := Heap.get?_push_size _ rfl
  refine extend_set (P := P) (w := w) (s := { s with heap := s.heap.push { cls := Value.type "list", data := Data.seq ([] : List Value).toArray } }) (R := fun r s' => match r with
    | .ok (.ret v) => wpAny (model P w) A (match v with
      | .ref a => do
        let o ← load a
        match o.data with
          | .seq xs _ => pure xs.toList
          | _ => unsupported "internal:collect"
      | _ => unsupported "internal:collect") Q E s'
    | .ok _ => False
    | .error e => E e s') hh (Heap.get?_push_of_some _ ha) hx hd hf hl hp hz hS fun h' tk d vs c' k hv hperm => ?_
  refine wpAny_bind (wpAny_load hv (wpAny_pure ?_))
  exact hQ h' tk d vs (Heap.lt_size hv) (fun b ob e => k b ob (Nat.ne_of_lt (Heap.lt_size e)) (Heap.get?_push_of_some _ e)) hperm
theorem strs_paired {es : List (Int × Value)} {ys : List Str} (h : Paired (fun (e : Int × Value) (x : Str) => ∃ tk, e.2 = .str x tk) es ys) : StrsAre (es.map (·.2)) ys := by
  induction h with
  | nil => exact .nil
  | cons hx _ ih =>
    obtain ⟨tk, e⟩ := hx
    rw [List.map_cons, e]
    exact .cons _ tk ih
theorem strs_perm {us vs : List Value} {ys : List Str} (p : List.Perm us vs) (h : StrsAre us ys) : ∃ zs, List.Perm ys zs ∧ StrsAre vs zs := by
  induction p generalizing ys with
  | nil => cases h; exact ⟨[], .nil, .nil⟩
  | cons x _ ih =>
    cases h with
    | cons n tk t =>
      obtain ⟨zs, p', q'⟩ := ih t
      exact ⟨_ :: zs, .cons _ p', .cons _ tk q'⟩
  | swap x y l =>
    cases h with
    | cons n tk t =>
      cases t with
      | cons n2 tk2 t => exact ⟨_, .swap _ _ _, .cons _ tk2 (.cons _ tk t)⟩
  | trans _ _ ih1 ih2 =>
    obtain ⟨m1, p1, q1⟩ := ih1 h
    obtain ⟨m2, p2, q2⟩ := ih2 q1
    exact ⟨m2, p1.trans p2, q2⟩
theorem sorted_set {a : Addr} {xs : List Str} {Q : Value → Shared → Prop} (hh : A.handled = none) (st : SetAt P w s.heap a xs) (h64 : xs.length < 64)
    (hQ : ∀ (D : Addr) (h' : Heap) (tk : Nat) (d : Drawn) (out : List Value) (c : Nat) (ys : List Str), s.heap.objs.size ≤ D → (∀ b o, s.heap.get? b = some o → h'.get? b = some o) → h'.get? D = some { cls := .type "list", data := .seq out.toArray c } → StrsAre out ys → List.Perm ys xs → sortedS ys = true → Q (.ref D) { s with heap := h', toks := tk, drawn := d }) :
    wpAny (model P w) A (call (.builtin "sorted") [.ref a]) Q E s := by
  obtain ⟨o, es, ep, t, ys, h1, h2, h3, h4, h5, h6, h7, h8, h9, h10, h11⟩ := st
  have hlen : es.size = xs.length := by have := Paired.length h5; have := h6.length_eq; rw [← Array.length_toList]; omega
  refine Calls.call_function_entry kind_sorted plain_sorted entry_sorted (args_sorted1 (.ref a)) ?_
  show wpAny _ _ (pure () >>= _) _ _ _
  refine wpAny_bind (wpAny_pure (wpAny_bind (collect_set (A := A.in1) hh h1 h2 h3 h9 h10 (h11.imp id fun z => by rw [hlen, z]; exact Nat.zero_le _) (by rw [hlen]; exact Nat.le_trans (Nat.le_of_lt h64) (by decide)) fun h' tk d vs hlt k hperm => ?_)))
  obtain ⟨zs, pz, sz⟩ := strs_perm hperm.symm (strs_paired h5)
  have hvl : vs.length = xs.length := by have := hperm.length_eq; rw [List.length_map] at this; have e := Array.length_toList (xs := es); omega
  refine wpAny_bind (wpAny_newList ?_ (by rw [hvl]; exact Nat.le_trans (Nat.le_of_lt h64) (by decide)))
  have hoL : (h'.push (seqObj "list" vs.toArray 0)).get? h'.objs.size = some (seqObj "list" vs.toArray 0) := Heap.get?_push_size _ rfl
  refine wpAny_bind (wpAny_holding (wpAny_call_entry slot_list_sort ⟨_, hoL, rfl⟩ entry_list_sort ?_ (args_list_sort (.ref h'.objs.size))))
  refine list_sort_treeK strKind_oneLt hoL (StrsAre.keysOf sz) (fun v₁ v₂ rest e => keyKind_strs (e ▸ sz)) (by rw [hvl]; exact h64) fun st' a1 a2 => ?_
  obtain ⟨ss', b1, b2, b3⟩ := sorted_out_str sz a1 a2
  obtain ⟨c, hc⟩ := sortedHeap_at (out := Array.map (fun x => x.snd) (arrOf st')) hoL
  refine ⟨.none, rfl, wpAny_pure ⟨_, rfl, ?_⟩⟩
  have hsz : s.heap.objs.size ≤ h'.objs.size := Nat.le_of_lt hlt
  exact hQ h'.objs.size _ tk d _ c ss' hsz (fun b ob e => by
    have hb := k b ob e
    rw [sortedHeap_old (Nat.ne_of_lt (Heap.lt_size hb)) (by rw [Heap.size_push]; exact Nat.lt_succ_of_lt (Heap.lt_size hb))]
    exact Heap.get?_push_of_some _ hb) (hc.trans (by rw [Array.toArray_toList])) b1 (b2.trans (pz.symm.trans h6)) b3
end
end L2
set_option Elab.async false
set_option linter.all false
set_option maxRecDepth 100000
set_option maxHeartbeats 2000000
namespace L2
open PySem PySem.Spec PyProof.Rows Ken
theorem cxOf_prog (CX : CXT) (P : Program) (w : World) (K : PySem.W.Frag) (mg : Str → Option Value) (base : Heap) (N : List Str) (qual : Str) (scope : Scope) (f : Addr) (cd : Value) (A : Around) (outer : List Env) (s : Shared) (H : Hp) (E : XK) : (cxOf CX P w K mg base N qual scope f cd A outer s H E).prog = P := rfl
theorem cxOf_w (CX : CXT) (P : Program) (w : World) (K : PySem.W.Frag) (mg : Str → Option Value) (base : Heap) (N : List Str) (qual : Str) (scope : Scope) (f : Addr) (cd : Value) (A : Around) (outer : List Env) (s : Shared) (H : Hp) (E : XK) : (cxOf CX P w K mg base N qual scope f cd A outer s H E).w = w := rfl
theorem blk_prog (X : Cx) (N' : List Str) (scope : Scope) (cl : List (Str × Addr)) (s : Shared) (H : Hp) (C : Addr) (ex : List Addr) : (blk X N' scope cl s H C ex).prog = X.prog := rfl
theorem blk_w (X : Cx) (N' : List Str) (scope : Scope) (cl : List (Str × Addr)) (s : Shared) (H : Hp) (C : Addr) (ex : List Addr) : (blk X N' scope cl s H C ex).w = X.w := rfl
section
variable {X : Cx}
theorem call_sortedS {P : Program} {w : World} (hP : X.prog = P) (hw : X.w = w) (hc : X.calm = true) : CallR X (.builtin "sorted") (fun vs H Q => ∃ (a : Addr) (xs : List Str), vs = [.ref a] ∧ H a = some (setO P w a xs) ∧ xs.length < 64 ∧ ∀ l ys, H l = none → List.Perm ys xs → sortedS ys = true → Q (.ref l) (upd H l (.lst (ys.map V.str)))) := by
  subst hP hw
  intro pins s σ H vs us Q I r h
  obtain ⟨a, xs, rfl, ha, hn, q⟩ := h
  obtain ⟨u, rfl, ru⟩ := vals1 r
  cases ru
  refine sorted_set (I.ok.hd hc) (setO_at I.hok ha) hn fun D h' tk d out c ys hD k hD' hs hp hso => ?_
  have hl : H D = none := I.hok.fresh hD
  have yl : ys.length < 64 := by rw [hp.length_eq]; exact hn
  have ok : ObjOk X.prog X.w (upd H D (.lst (ys.map V.str))) h' D (.lst (ys.map V.str)) := ⟨by rw [List.length_map]; exact Nat.le_trans (Nat.le_of_lt yl) (by decide), out, c, vals_of_strs hs, hD'⟩
  exact ⟨.ref D, _, I.call (g' := s.gens) (t' := tk) (d' := d) (ch := []) (Un.laid k hD hl) (I.hok.laid k hD ok) I.bare (fun b z => absurd z (by simp)), rfl, q D ys hl hp hso⟩
end
end L2
namespace Ken
open PySem L2 PyProof.Rows
def Tm.ltrs : Tm → List Str
  | .low => []
  | .ltr w => [w]
  | .nd _ a b => a.ltrs ++ b.ltrs
def Tm.here : Tm → List Str
  | .ltr w => [w]
  | _ => []
theorem pre_here : ∀ t : Tm, t.pre.flatMap Tm.here = t.ltrs
  | .low => rfl
  | .ltr w => rfl
  | .nd k a b => by
    show [] ++ (a.pre ++ b.pre).flatMap Tm.here = a.ltrs ++ b.ltrs
    rw [List.nil_append, List.flatMap_append, pre_here a, pre_here b]
theorem ltrs_inW {ws : List Str} : ∀ {t : Tm}, t.inW ws → ∀ x ∈ t.ltrs, x ∈ ws
  | .low, _, x, h => absurd h (by simp [Tm.ltrs])
  | .ltr w, h, x, hx => by rw [List.mem_singleton.mp hx]; exact h
  | .nd k a b, h, x, hx => (List.mem_append.mp hx).elim (ltrs_inW h.1 x) (ltrs_inW h.2 x)
def sp_letters (K : PySem.W.Frag) : Sp := fun vs H Q _ => ∃ (v : V) (t : Tm) (ws : List Str), vs = [v] ∧ IsT K H v t ∧ t.parts ≤ 300 ∧ t.inW ws ∧ ws.length ≤ 40 ∧
  ∀ (r : Addr) (H' : Hp) (ys : List Str), Same H H' → H r = none → H' r = some (.lst (ys.map V.str)) → ys.Nodup → sortedS ys = true → (∀ x, x ∈ ys ↔ x ∈ t.ltrs) → Q (.ref r) H'
theorem len_le_sub : ∀ {xs ws : List Str}, xs.Nodup → (∀ x ∈ xs, x ∈ ws) → xs.length ≤ ws.length
  | [], _, _, _ => Nat.zero_le _
  | x :: xs, ws, nd, h => by
    have hx := h x List.mem_cons_self
    have ih := len_le_sub (xs := xs) (ws := ws.erase x) (List.nodup_cons.mp nd).2 fun y hy => (List.mem_erase_of_ne (show y ≠ x from fun z => (List.nodup_cons.mp nd).1 (by rw [← z]; exact hy))).mpr (h y (List.mem_cons_of_mem _ hy))
    have := List.length_erase_of_mem hx
    have : 0 < ws.length := List.length_pos_of_mem hx
    rw [List.length_cons]
    omega
end Ken
set_option Elab.async false
set_option linter.all false
set_option maxRecDepth 100000
set_option maxHeartbeats 2000000
namespace L2
open PySem PySem.Spec PyProof.Rows
theorem lookup_out {α : Type} {x : Str} : ∀ {l : List (Str × α)}, (∀ v, (x, v) ∉ l) → l.lookup x = none
  | [], _ => rfl
  | (y, v) :: l, h => by
    have hy : x ≠ y := fun e => h v (by rw [e]; exact List.mem_cons_self)
    rw [List.lookup_cons, show (x == y) = false from by simpa using hy]
    exact lookup_out fun v hv => h v (List.mem_cons_of_mem _ hv)
theorem lookup_rev_zip : ∀ {ps : List Str} {us : List Value} {i : Nat} {x : Str} {u : Value}, ps.Nodup → ps[i]? = some x → us[i]? = some u → (ps.zip us).reverse.lookup x = some u
  | [], _, _, _, _, _, h, _ => by simp at h
  | _ :: _, [], _, _, _, _, _, h => by simp at h
  | p :: ps, w :: us, 0, x, u, nd, h1, h2 => by
    simp at h1 h2
    subst h1; subst h2
    rw [List.zip_cons_cons, List.reverse_cons, List.lookup_append, lookup_out (fun v hv => (List.nodup_cons.mp nd).1 (List.of_mem_zip (List.mem_reverse.mp hv)).1)]
    simp
  | p :: ps, w :: us, i + 1, x, u, nd, h1, h2 => by
    have ih := lookup_rev_zip (List.nodup_cons.mp nd).2 (show ps[i]? = some x by simpa using h1) (show us[i]? = some u by simpa using h2)
    rw [List.zip_cons_cons, List.reverse_cons, List.lookup_append, ih]
    rfl
structure FnScopeC (N ps fv : List Str) (sc : Scope) : Prop where
  kind : sc.kind = .function
  co : sc.isCoroutine = false
  gen : sc.isGenerator = false
  nd : N.Nodup
  pre : N.take (ps ++ fv).length = ps ++ fv
  par : ∀ x ∈ ps, sc.names.lookup x = some .local
  fr : ∀ x ∈ fv, sc.names.lookup x = some .free
  nocell : ∀ y ∈ sc.names, y.2 ≠ .cell
structure Caught (K : PySem.W.Frag) (sc : Scope) (cl : List (Str × Addr)) (fv : List Str) (frv : List V) : Prop where
  len : frv.length = fv.length
  cell : ∀ (i : Nat) (x : Str) (v : V), fv[i]? = some x → frv[i]? = some v → ∃ c o u, cl.lookup x = some c ∧ K.lookup c = some o ∧ o.data = .cell (some u) ∧ RelV v u
  all : ∀ x c, cl.lookup x = some c → ∃ o v, K.lookup c = some o ∧ o.data = .cell v
  inj : ∀ x y c, cl.lookup x = some c → cl.lookup y = some c → x = y
  has : ∀ x, sc.names.lookup x = some .free → ∃ c, cl.lookup x = some c
def cxC (CX : CXT) (P : Program) (w : World) (K : PySem.W.Frag) (mg : Str → Option Value) (base : Heap) (N : List Str) (qual : Str) (scope : Scope) (f : Addr) (cd : Value) (cl : List (Str × Addr)) (A : Around) (outer : List Env) (s : Shared) (H : Hp) (E : XK) : Cx where
  prog := P
  w := w
  K := K
  mg := mg
  base := base
  A := A.deeper (PySem.W.envX qual scope s.heap.objs.size f cd cl)
  N := N
  s₀ := s
  H₀ := H
  env := PySem.W.envX qual scope s.heap.objs.size f cd cl
  outer := outer
  stack := PySem.W.envX qual scope s.heap.objs.size f cd cl :: outer
  ex := []
  calm := true
  fn := fun _ => false
  pn := []
  xe := fun e s' => wpAny (model P w) (A.deeper (PySem.W.envX qual scope s.heap.objs.size f cd cl)) (leaving (PySem.W.envX qual scope s.heap.objs.size f cd cl) e) (fun _ s'' => CX outer H s E e s'') (fun e' s'' => CX outer H s E e' s'') s'
theorem cxC_K (CX : CXT) (P : Program) (w : World) (K : PySem.W.Frag) (mg : Str → Option Value) (base : Heap) (N : List Str) (qual : Str) (scope : Scope) (f : Addr) (cd : Value) (cl : List (Str × Addr)) (A : Around) (outer : List Env) (s : Shared) (H : Hp) (E : XK) : (cxC CX P w K mg base N qual scope f cd cl A outer s H E).K = K := rfl
theorem inv_startC {CX : CXT} {P : Program} {w : World} {K : PySem.W.Frag} {mg : Str → Option Value} {base : Heap} {N ps fv : List Str} {qual : Str} {scope : Scope} {f : Addr} {cd : Value} {cl : List (Str × Addr)} {A : Around} {outer : List Env} {s : Shared} {H : Hp} {E : XK} {us : List Value} {vs frv : List V} {h1 : Heap} {tk : Nat}
    (S : FnScopeC N ps fv scope) (C : Caught K scope cl fv frv) (hd : A.handled = none) (e0 : Env0 P w K mg base A outer s H) (hl : vs.length = ps.length) (r : Vals vs us)
    (ns : h1.Ns s.heap.objs.size fun x => (ps.zip us).reverse.lookup x) (hk : ∀ b o, s.heap.get? b = some o → h1.get? b = some o) :
    Inv (cxC CX P w K mg base N qual scope f cd cl A outer s H E) [] (start N (vs ++ frv)) H { s with heap := h1, toks := tk } := by
  have hpl : (ps ++ fv).length ≤ N.length := by have := congrArg List.length S.pre; rw [List.length_take] at this; omega
  have noA : ∀ b : Addr, b ∉ (cxC CX P w K mg base N qual scope f cd cl A outer s H E).ex := fun b z => absurd (show b ∈ ([] : List Addr) from z) (by simp)
  have hlen : (vs ++ frv).length = (ps ++ fv).length := by rw [List.length_append, List.length_append, hl, C.len]
  have kin : ∀ c o, K.lookup c = some o → s.heap.get? c = some o ∧ H c = none := fun c o e => e0.bs c o (e0.mod.kin c o e)
  refine ⟨⟨e0.mod, S.kind, rfl, rfl, Nat.le_refl _, C.inj, fun y hy => ?_, fun y c z _ => (nomatch (show false = true from z)), fun _ => hd, Around.frames_deeper e0.frames, .inr ⟨rfl, rfl⟩, fun b z => absurd z (noA b), e0.bs, e0.bsz, fun b _ _ => noA b, fun b z => absurd z (noA b), e0.funs, e0.frf⟩,
    rfl, e0.bare, Un.kept hk, ⟨_, ns, fun i y v h1 h2 h3 => ?_⟩, fun y c h => ?_, e0.hok.fresh (Nat.le_refl _), fun y c h => ?_, fun p hp => absurd (show p ∈ ([] : List (Addr × Obj)) from hp) (by simp), e0.hok.kept hk, ?_⟩
  · have hy : scope.names.lookup y = some .cell ∨ scope.names.lookup y = some .free := hy
    rcases hy with hy | hy
    · exact absurd rfl (S.nocell _ (PySem.mem_of_lookup hy))
    · exact C.has y hy
  · have hi : i < (vs ++ frv).length := by
      unfold start at h2
      by_cases hi : i < (vs ++ frv).length
      · exact hi
      · rw [List.getElem?_append_right (by simpa using hi)] at h2
        rw [List.getElem?_replicate] at h2
        split at h2 <;> cases h2
    have ha : (vs ++ frv)[i]? = some v := by
      unfold start at h2
      rw [List.getElem?_append_left (by simpa using hi), List.getElem?_map] at h2
      cases e : (vs ++ frv)[i]? with
      | none => rw [e] at h2; cases h2
      | some a => rw [e] at h2; cases h2; rfl
    have hp : (ps ++ fv)[i]? = some y := by
      rw [← S.pre, List.getElem?_take_of_lt (by omega)]; exact h1
    have ndP : (ps ++ fv).Nodup := by rw [← S.pre]; exact S.nd.sublist (List.take_sublist _ _)
    by_cases hv : i < vs.length
    · rw [List.getElem?_append_left hv] at ha
      rw [List.getElem?_append_left (by omega)] at hp
      obtain ⟨u, hu, rv⟩ := r.get ha
      exact ⟨u, rv, .inl ⟨S.par y (List.mem_of_getElem? hp), lookup_rev_zip (ndP.sublist (List.sublist_append_left _ _)) hp hu⟩⟩
    · rw [List.getElem?_append_right (by omega)] at ha
      rw [List.getElem?_append_right (by omega), ← hl] at hp
      obtain ⟨c, o, u, e1, e2, e3, rv⟩ := C.cell _ y v hp ha
      refine ⟨u, rv, .inr ⟨.inr (S.fr y (List.mem_of_getElem? hp)), c, e1, o, hk c o (kin c o e2).1, e3⟩⟩
  · obtain ⟨o, v, e1, e2⟩ := C.all y c h
    exact ⟨v, o, hk c o (kin c o e1).1, e2⟩
  · obtain ⟨o, v, e1, e2⟩ := C.all y c h
    exact (kin c o e1).2
  · unfold start
    show _ = N.length
    rw [List.length_append, List.length_map, List.length_replicate]
    omega
theorem fn_ofC {CX : CXT} {P : Program} {w : World} {K : PySem.W.Frag} {mg : Str → Option Value} {base : Heap} {k : Nat} {f : Addr} {name qual : Str} {params : Arguments} {body : List Stmt} {scope : Scope} {cl : List (Str × Addr)} {doc pm cdv ct oc : Value} {od : Option Addr}
    {osl : Array (Option Value)} {N ps fv : List Str} {frv : List V} {sp : Sp} (lk : K.lookup f = some ⟨oc, od, .func (PySem.W.fnX name qual params body scope cl .none .none doc pm none cdv ct), osl⟩) (hcd : PySem.W.codeIn K cdv qual = true) (S : FnScopeC N ps fv scope) (C : Caught K scope cl fv frv)
    (len : ∀ vs H Q E, sp vs H Q E → vs.length = ps.length)
    (hbody : ∀ (A : Around) (outer : List Env) (s : Shared) (H : Hp) (vs : List V) (Q : VK) (E : XK), Room k (A.deeper (PySem.W.envX qual scope s.heap.objs.size f cdv cl)) → sp vs H Q E →
      ∃ t, PSs (cxC CX P w K mg base N qual scope f cdv cl A outer s H E) body t ∧ t { nx := fun _ H' => Q .non H', rt := Q } (start N (vs ++ frv)) H) :
    FnOk P w K mg base CX (k + 1) f (PySem.W.fnX name qual params body scope cl .none .none doc pm none cdv ct) ps sp := by
  refine ⟨len, fun A outer s H args us vs Q E hr e0 hb r hsp => ?_⟩
  have hl := len _ _ _ _ hsp
  have KX : K.In s.heap := e0.mod.kin.keeps fun b o e => (e0.bs b o e).1
  have lim : s.heap.NoLimit := e0.mod.nolimit.keeps fun b o e => (e0.bs b o e).1
  refine codeAny_call_function hr.depth (KX _ _ lk) rfl S.co S.gen rfl (PySem.W.codeRec_of KX hcd) (hb _ _ _ _ ?_)
  refine wpAny_newFunctionEnv S.nocell (fun ⟨n, v⟩ hy => S.par n (List.of_mem_zip hy).1) (fun h1 ns sb => ?_) S.kind
  have hk : ∀ b o, s.heap.get? b = some o → h1.get? b = some o := fun b o e => by
    rw [sb.2 b (Nat.ne_of_lt (Heap.lt_size e))]
    exact Heap.get?_push_of_some _ e
  refine ⟨lim.keeps hk, codeAny_func ?_⟩
  obtain ⟨t, ht, hq⟩ := hbody A outer s H vs Q E (hr.deeper _) hsp
  have I : Inv (cxC CX P w K mg base N qual scope f cdv cl A outer s H E) [] (start N (vs ++ frv)) H { s with heap := h1, toks := s.toks + (ps.zip us).length } := inv_startC S C hr.hd e0 hl r ns hk
  refine wpAny_mono (ht [] _ (start N (vs ++ frv)) H _ I hq) (fun fl s' hs => ?_) fun e s' hs => hs
  have fin : ∀ {σ' : St} {H' : Hp} {v : V} {u : Value}, Inv (cxC CX P w K mg base N qual scope f cdv cl A outer s H E) [] σ' H' s' → RelV v u → Q v H' → CE outer P w H s Q u s' :=
    fun {σ' H' v u} J rv q => ⟨v, H', J.os, J.bare, J.base, J.hok, rv, q⟩
  cases fl with
  | ret u =>
    obtain ⟨v, σ', H', J, rv, q⟩ := hs
    exact fin J rv q
  | next =>
    obtain ⟨σ', H', J, q⟩ := hs
    exact fin (v := V.non) (u := Value.none) J rfl q
  | brk =>
    obtain ⟨_, _, _, q⟩ := hs
    exact False.elim q
  | cont =>
    obtain ⟨_, _, _, q⟩ := hs
    exact False.elim q
end L2
set_option Elab.async false
set_option linter.all false
set_option maxRecDepth 100000
set_option maxHeartbeats 2000000
namespace L2
open PySem PySem.Spec PyProof.Rows
abbrev FZ (o : Obj) : HO := .frz o (.ext fun _ => True)
def SameT (H H' : Hp) : Prop := ∀ b o, (∀ ps, o ≠ .tbl ps) → H b = some o → H' b = some o
theorem SameT.refl (H : Hp) : SameT H H := fun _ _ _ h => h
theorem SameT.trans {H H1 H2 : Hp} (a : SameT H H1) (b : SameT H1 H2) : SameT H H2 := fun c o n h => b c o n (a c o n h)
theorem Same.toT {H H' : Hp} (a : Same H H') : SameT H H' := fun c o _ h => a c o h
structure SameU (P : Addr) (H H' : Hp) : Prop where
  toT : SameT H H'
  off : ∀ b o, b ≠ P → H b = some o → H' b = some o
  tab : ∀ o, H P = some o → ∃ o', H' P = some o'
theorem SameU.trans {P : Addr} {H H1 H2 : Hp} (a : SameU P H H1) (b : SameU P H1 H2) : SameU P H H2 :=
  ⟨a.toT.trans b.toT, fun c o n h => b.off c o n (a.off c o n h), fun o h => by obtain ⟨o', h'⟩ := a.tab o h; exact b.tab o' h'⟩
theorem SameU.free {P : Addr} {H H' : Hp} (a : SameU P H H') {l : Addr} (h : H' l = Option.none) : H l = Option.none := by
  cases e : H l with
  | none => rfl
  | some o =>
    by_cases z : l = P
    · subst z
      obtain ⟨o', e'⟩ := a.tab o e
      rw [h] at e'; cases e'
    · have := a.off l o z e
      rw [h] at this; cases this
theorem SameU.write {P : Addr} {H0 H : Hp} {l : Addr} {o : HO} (e : SameU P H0 H) (h : H0 l = Option.none) : SameU P H0 (upd H l o) := by
  have ne : ∀ {b u}, H0 b = some u → b ≠ l := fun {b u} q z => by rw [z, h] at q; cases q
  refine ⟨fun b u n q => ?_, fun b u n q => ?_, fun u q => ?_⟩
  · rw [upd_ne (ne q)]; exact e.toT b u n q
  · rw [upd_ne (ne q)]; exact e.off b u n q
  · obtain ⟨u', h'⟩ := e.tab u q
    exact ⟨u', by rw [upd_ne (ne q)]; exact h'⟩
def CodeFz (H : Hp) (cv : Value) (q : Str) : Prop := ∃ c o vs t, cv = .ref c ∧ H c = some (FZ o) ∧ o.data = .fields vs ∧ vs[1]? = some (.str q t)
theorem CodeFz.keep {H H' : Hp} {cv : Value} {q : Str} (h : CodeFz H cv q) (k : SameT H H') : CodeFz H' cv q := by
  obtain ⟨c, o, vs, t, h1, h2, h3, h4⟩ := h
  exact ⟨c, o, vs, t, h1, k c _ (fun _ z => nomatch z) h2, h3, h4⟩
def TabOk (H : Hp) (P : Addr) (ds : List (Pos × Str)) : Prop :=
  ∃ ps, H P = some (.tbl ps) ∧ TriplesOk ps.toList ∧ ∀ d ∈ ds, ∀ cv, codeAmong d.1 ps.toList = some cv → CodeFz H cv d.2
theorem TabOk.keep {H H' : Hp} {P : Addr} {ds : List (Pos × Str)} (h : TabOk H P ds) (k : Same H H') : TabOk H' P ds := by
  obtain ⟨ps, h1, h2, h3⟩ := h
  exact ⟨ps, k _ _ h1, h2, fun d hd cv e => (h3 d hd cv e).keep k.toT⟩
theorem TabOk.new {H : Hp} {P : Addr} {ds : List (Pos × Str)} (h : H P = some (.tbl #[])) : TabOk H P ds :=
  ⟨#[], h, trivial, fun d _ cv e => by
    have e' : (none : Option Value) = some cv := e
    cases e'⟩
def FnFz (H : Hp) (f : Addr) (name qual : Str) (params : Arguments) (body : List Stmt) (scope : Scope) (cl : List (Str × Addr)) : Prop :=
  ∃ doc pm ct cv, H f = some (FZ { cls := .type "function", data := .func (PySem.W.fnX name qual params body scope cl .none .none doc pm none cv ct) }) ∧ CodeFz H cv qual
theorem FnFz.keep {H H' : Hp} {f : Addr} {name qual : Str} {params : Arguments} {body : List Stmt} {scope : Scope} {cl : List (Str × Addr)} (h : FnFz H f name qual params body scope cl) (k : SameT H H') : FnFz H' f name qual params body scope cl := by
  obtain ⟨doc, pm, ct, cv, h1, h2⟩ := h
  exact ⟨doc, pm, ct, cv, k _ _ (fun _ z => nomatch z) h1, h2.keep k⟩
end L2
set_option Elab.async false
set_option linter.all false
set_option maxRecDepth 100000
set_option maxHeartbeats 2000000
namespace L2
open PySem PySem.Spec PyProof.Rows
section
variable {X : Cx} {k : Nat} {f : Addr} {fd : FuncData} {ps : List Str} {sp : Sp}
end
end L2
set_option Elab.async false
set_option linter.all false
set_option maxRecDepth 100000
set_option maxHeartbeats 2000000
namespace L2
open PySem PySem.Spec PyProof.Rows
structure BltK (K : PySem.W.Frag) (mg : Str → Option Value) (bm : Addr) : Prop where
  m : mg (Str.ofString "__builtins__") = some (.ref bm)
  l : ∃ ob, K.lookup bm = some ob ∧ ob.cls = .type "module" ∧ ob.dict = some builtinsNs ∧ ob.data = .plain
  n1 : bm ≠ builtinsNs
  n2 : bm ≠ mainGlobals
theorem BltK.at {K : PySem.W.Frag} {mg : Str → Option Value} {bm : Addr} (b : BltK K mg bm) {T : Addr} (n : bm ≠ T) (h : Heap) (k : K.In h) : h.BuiltinsAt mg T := by
  obtain ⟨ob, l, c, d, e⟩ := b.l
  exact ⟨bm, ob, b.m, b.n1, b.n2, n, k _ _ l, c, d, e⟩
end L2
set_option Elab.async false
set_option linter.all false
set_option maxRecDepth 100000
set_option maxHeartbeats 2000000
namespace Ken
open PySem L2
end Ken
set_option Elab.async false
set_option linter.all false
set_option maxRecDepth 100000
set_option maxHeartbeats 2000000
namespace L2
open PySem PySem.Spec PyProof.Rows
theorem codeIn_of {K : PySem.W.Frag} {c : Addr} {o : Obj} {vs : Array Value} {q : Str} {t : Tok} (h : K.lookup c = some o) (hd : o.data = .fields vs) (hv : vs[1]? = some (.str q t)) : PySem.W.codeIn K (.ref c) q = true := by
  obtain ⟨cls, dict, data, slots⟩ := o
  have hd : data = .fields vs := hd
  subst hd
  unfold PySem.W.codeIn
  dsimp only
  rw [show List.lookup c K = _ from h]
  obtain ⟨l⟩ := vs
  have hv : l[1]? = some (.str q t) := by simpa using hv
  match l, hv with
  | a :: b :: r, hv =>
    have hb : b = .str q t := by simpa using hv
    subst hb
    show (q == q) = true
    simp
theorem keepIn_fn {K : PySem.W.Frag} {f : Addr} {oc : Value} {od : Option Addr} {fd : FuncData} {sl : Array (Option Value)} (h : K.lookup f = some ⟨oc, od, .func fd, sl⟩) : PySem.W.keepIn K (.ref f) = true := by
  unfold PySem.W.keepIn
  dsimp only
  rw [show List.lookup f K = _ from h]
structure FunT (K : PySem.W.Frag) (x qual : Str) (st : Stmt) (f : Addr) (fd : FuncData) (P : Addr) : Prop where
  ex : ∃ (oc : Value) (od : Option Addr) (kV doc pm : Value) (an : Option Addr) (c : Addr) (ct : Value) (osl : Array (Option Value)),
    fd = PySem.W.fnOf x qual (defArgs st) (defBody st) (defScope st) .none kV doc pm an (.ref c) ct ∧ K.lookup f = some ⟨oc, od, .func fd, osl⟩ ∧ PySem.W.codeIn K (.ref c) qual = true ∧ ∀ h, K.In h → PySem.W.CodeHd h c P
  kp : PySem.W.keepIn K (.ref f) = true
theorem FunT.ok {P : Program} {w : World} {K : PySem.W.Frag} {mg : Str → Option Value} {base : Heap} {x qual : Str} {st : Stmt} {f : Addr} {fd : FuncData} {T : Addr} {N ps : List Str} {k : Nat} {sp : Sp} (F : FunT K x qual st f fd T) (S : FnScope N ps (defScope st)) (len : ∀ vs H Q E, sp vs H Q E → vs.length = ps.length)
    (hbody : ∀ (c : Addr) (A : Around) (outer : List Env) (s : Shared) (H : Hp) (vs : List V) (Q : VK) (E : XK), (∀ h, K.In h → PySem.W.CodeHd h c T) → Room k (A.deeper (envOfC qual (defScope st) s.heap.objs.size f (.ref c))) → sp vs H Q E →
      ∃ t, PSs (cxOf CX0 P w K mg base N qual (defScope st) f (.ref c) A outer s H E).nox (defBody st) t ∧ t { nx := fun _ H' => Q .non H', rt := Q } (start N vs) H) : FnOk P w K mg base CX0 (k + 1) f fd ps sp := by
  obtain ⟨oc, od, kV, doc, pm, an, c, ct, osl, rfl, lk, hcd, hC⟩ := F.ex
  refine fn_of lk hcd S len fun A outer s H vs Q E hr hsp => ?_
  obtain ⟨t, h, q⟩ := hbody c A outer s H vs Q E hC hr hsp
  exact ⟨t, h.nox, q⟩
structure FunC (K : PySem.W.Frag) (x qual : Str) (st : Stmt) (cl : List (Str × Addr)) (f : Addr) (fd : FuncData) : Prop where
  ex : ∃ (oc : Value) (od : Option Addr) (doc pm cdv ct : Value) (osl : Array (Option Value)),
    fd = PySem.W.fnX x qual (defArgs st) (defBody st) (defScope st) cl .none .none doc pm none cdv ct ∧ K.lookup f = some ⟨oc, od, .func fd, osl⟩ ∧ PySem.W.codeIn K cdv qual = true
  kp : PySem.W.keepIn K (.ref f) = true
theorem FunC.ok {P : Program} {w : World} {K : PySem.W.Frag} {mg : Str → Option Value} {base : Heap} {x qual : Str} {st : Stmt} {cl : List (Str × Addr)} {f : Addr} {fd : FuncData} {N ps fv : List Str} {frv : List V} {k : Nat} {sp : Sp} (F : FunC K x qual st cl f fd) (S : FnScopeC N ps fv (defScope st)) (C : Caught K (defScope st) cl fv frv) (len : ∀ vs H Q E, sp vs H Q E → vs.length = ps.length)
    (hbody : ∀ (cdv : Value) (A : Around) (outer : List Env) (s : Shared) (H : Hp) (vs : List V) (Q : VK) (E : XK), Room k (A.deeper (PySem.W.envX qual (defScope st) s.heap.objs.size f cdv cl)) → sp vs H Q E →
      ∃ t, PSs (cxC CX0 P w K mg base N qual (defScope st) f cdv cl A outer s H E).nox (defBody st) t ∧ t { nx := fun _ H' => Q .non H', rt := Q } (start N (vs ++ frv)) H) : FnOk P w K mg base CX0 (k + 1) f fd ps sp := by
  obtain ⟨oc, od, doc, pm, cdv, ct, osl, rfl, lk, hcd⟩ := F.ex
  refine fn_ofC lk hcd S C len fun A outer s H vs Q E hr hsp => ?_
  obtain ⟨t, h, q⟩ := hbody cdv A outer s H vs Q E hr hsp
  exact ⟨t, h.nox, q⟩
theorem FunC.binds {K : PySem.W.Frag} {x qual : Str} {st : Stmt} {cl : List (Str × Addr)} {f : Addr} {fd : FuncData} {ps : List Str} (F : FunC K x qual st cl f fd)
    (h : ∀ (doc pm cdv ct : Value) (us : List Value), us.length = ps.length → bindArgs (PySem.W.fnX x qual (defArgs st) (defBody st) (defScope st) cl .none .none doc pm none cdv ct) ⟨us, []⟩ = pure (ps.zip us)) : Binds K fd ps [] := by
  obtain ⟨oc, od, doc, pm, cdv, ct, osl, rfl, lk, hcd⟩ := F.ex
  exact .all (h doc pm cdv ct)
theorem FnFz.objs {H : Hp} {f : Addr} {name qual : Str} {st : Stmt} {cl : List (Str × Addr)} (h : FnFz H f name qual (defArgs st) (defBody st) (defScope st) cl) :
    ∃ (o1 : Obj) (c : Addr) (o2 : Obj), H f = some (FZ o1) ∧ H c = some (FZ o2) ∧ (∀ its n, o1.data ≠ .seq its n) ∧ (∀ its n, o2.data ≠ .seq its n) ∧
      ∀ K : PySem.W.Frag, K.lookup f = some o1 → K.lookup c = some o2 → ∃ fd, FunC K name qual st cl f fd := by
  obtain ⟨doc, pm, ct, cv, h1, c, o, vs, t, rfl, h3, h4, h5⟩ := h
  refine ⟨_, c, o, h1, h3, ?_, ?_, fun K e1 e2 => ⟨_, ⟨_, _, doc, pm, _, ct, _, rfl, e1, codeIn_of e2 h4 h5⟩, keepIn_fn e1⟩⟩
  · intro its n z
    cases z
  · intro its n z
    rw [h4] at z; cases z
end L2
set_option Elab.async false
set_option linter.all false
set_option maxRecDepth 100000
set_option maxHeartbeats 2000000
namespace Ken
open PySem L2
def Tm.sub (t : Tm) (x : Str) (o : Tm) : Tm :=
  match t with
  | .low => .low
  | .ltr w => if w = x then o else .ltr w
  | .nd k a b => .nd k (a.sub x o) (b.sub x o)
theorem Tm.sub_self (x : Str) : ∀ t : Tm, t.sub x (.ltr x) = t
  | .low => rfl
  | .ltr w => by
    show (if w = x then Tm.ltr x else .ltr w) = _
    by_cases h : w = x
    · rw [if_pos h, h]
    · rw [if_neg h]
  | .nd k a b => by
    show Tm.nd k (a.sub x (.ltr x)) (b.sub x (.ltr x)) = _
    rw [a.sub_self, b.sub_self]
theorem SameT.keepT {K : PySem.W.Frag} {H H' : Hp} (e : SameT H H') : KeepT K H H' := fun a xs h => by
  rcases h with (h | ⟨o, h⟩) | h
  · exact .inl (.inl (e _ _ (fun _ z => nomatch z) h))
  · exact .inl (.inr ⟨o, e _ _ (fun _ z => nomatch z) h⟩)
  · exact .inr h
theorem SameT.seq {K : PySem.W.Frag} {H H' : Hp} {a : Addr} {xs : List V} (e : SameT H H') (h : SqL K H a xs) : SqL K H' a xs := by
  rcases h with (h | ⟨o, h⟩) | h
  · exact .inl (.inl (e _ _ (fun _ z => nomatch z) h))
  · exact .inl (.inr ⟨o, e _ _ (fun _ z => nomatch z) h⟩)
  · exact .inr h
end Ken
set_option Elab.async false
set_option linter.all false
set_option maxRecDepth 100000
set_option maxHeartbeats 2000000
namespace Ken
open PySem L2
section
variable {X : Cx} {pins : List (Addr × Obj)} {σ : St} {H : Hp} {s : Shared}
theorem isT_inj (I : Inv X pins σ H s) : ∀ {a b : Tm} {v : V}, IsT X.K H v a → IsT X.K H v b → a = b
  | .low, b, v, h, g => by
    obtain ⟨p, rfl, hs⟩ := isT_low.mp h
    cases b with
    | low => rfl
    | ltr w =>
      obtain ⟨q, e, gs⟩ := isT_ltr.mp g
      cases e
      exact absurd (I.tuple_inj hs gs) (by simp)
    | nd k x y =>
      obtain ⟨q, _, _, e, gs, _⟩ := isT_nd.mp g
      cases e
      exact absurd (I.tuple_inj hs gs) (by simp)
  | .ltr w, b, v, h, g => by
    obtain ⟨p, rfl, hs⟩ := isT_ltr.mp h
    cases b with
    | low =>
      obtain ⟨q, e, gs⟩ := isT_low.mp g
      cases e
      exact absurd (I.tuple_inj hs gs) (by simp)
    | ltr w' =>
      obtain ⟨q, e, gs⟩ := isT_ltr.mp g
      cases e
      have := I.tuple_inj hs gs
      simp only [List.cons.injEq, V.str.injEq, and_true, true_and] at this
      rw [this]
    | nd k x y =>
      obtain ⟨q, _, _, e, gs, _⟩ := isT_nd.mp g
      cases e
      exact absurd (I.tuple_inj hs gs) (by simp)
  | .nd k x y, b, v, h, g => by
    obtain ⟨p, vx, vy, rfl, hs, hx, hy⟩ := isT_nd.mp h
    cases b with
    | low =>
      obtain ⟨q, e, gs⟩ := isT_low.mp g
      cases e
      exact absurd (I.tuple_inj hs gs) (by simp)
    | ltr w' =>
      obtain ⟨q, e, gs⟩ := isT_ltr.mp g
      cases e
      exact absurd (I.tuple_inj hs gs) (by simp)
    | nd k' x' y' =>
      obtain ⟨q, _, _, e, gs, gx, gy⟩ := isT_nd.mp g
      cases e
      have := I.tuple_inj hs gs
      simp only [List.cons.injEq, V.str.injEq, and_true] at this
      obtain ⟨e1, rfl, rfl⟩ := this
      rw [Kd.str_inj e1, isT_inj I hx gx, isT_inj I hy gy]
end
theorem tms_dn {K : PySem.W.Frag} {H : Hp} : ∀ {us : List V} {ts : List Tm}, Paired (IsT K H) us ts → DnAll K H us (ts.map Tm.data)
  | _, _, .nil => by rw [List.map_nil, DnAll]
  | _, _, .cons h t => by
    rw [List.map_cons, DnAll]
    exact ⟨_, _, rfl, h, tms_dn t⟩
theorem tms_lay : ∀ {ts : List Tm}, (∀ t ∈ ts, t.ok) → (PyData.list (ts.map Tm.data)).canLay0 = true
  | [], _ => rfl
  | t :: ts, h => by
    have := tms_lay (ts := ts) fun s hs => h s (List.mem_cons_of_mem _ hs)
    show (t.data.canLay0 && (PyData.list (ts.map Tm.data)).canLay0) = true
    rw [t.lay (h t List.mem_cons_self), this]; rfl
end Ken
namespace L2
open PySem PySem.Spec PyProof.Rows
section
variable {X : Cx}
def rInT (K : PySem.W.Frag) (neg : Bool) : R2 := fun x y H Q => ∃ (t : Ken.Tm) (p : Addr) (xs : List V) (ts : List Ken.Tm), Ken.IsT K H x t ∧ y = .ref p ∧ SqL K H p xs ∧ Paired (Ken.IsT K H) xs ts ∧ t.ok ∧ (∀ s ∈ ts, s.ok) ∧ t.deep ≤ 140 ∧ Q (.bl (if neg then !decide (t ∈ ts) else decide (t ∈ ts))) H
theorem mem_at {pins : List (Addr × Obj)} {σ : St} {H : Hp} {s : Shared} {x : V} {v : Value} {t : Ken.Tm} {xs : List V} {ts : List Ken.Tm} {its : List Value} (hu : X.A.units + 150 < cLine) (I : Inv X pins σ H s) (rx : RelV x v) (hT : Ken.IsT X.K H x t) (hP : Paired (Ken.IsT X.K H) xs ts) (r : Vals xs its) (ho : t.ok) (hs : ∀ s ∈ ts, s.ok) (hd : t.deep ≤ 140) :
    ∃ e : Value → Bool, (∀ w ∈ its, SeqAt.EqAt X.A.in1 s w v (e w)) ∧ its.any e = decide (t ∈ ts) ∧ ∀ (j : Nat) (w : Value), its[j]? = some w → e w = true → ts[j]? = some t := by
  classical
  have l1 := Paired.length hP
  have l2 := r.length
  have same : ∀ (i j : Nat) (w : Value) (a b : Ken.Tm), its[i]? = some w → its[j]? = some w → ts[i]? = some a → ts[j]? = some b → a = b := by
    intro i j w a b h1 h2 h3 h4
    have hi : i < xs.length := by have := (List.getElem?_eq_some_iff.mp h3).1; omega
    have hj : j < xs.length := by have := (List.getElem?_eq_some_iff.mp h4).1; omega
    obtain ⟨a', ea, ha⟩ := Ken.paired_get hP (List.getElem?_eq_getElem hi)
    obtain ⟨b', eb, hb⟩ := Ken.paired_get hP (List.getElem?_eq_getElem hj)
    obtain ⟨u1, g1, r1⟩ := r.get (List.getElem?_eq_getElem hi)
    obtain ⟨u2, g2, r2⟩ := r.get (List.getElem?_eq_getElem hj)
    rw [h3] at ea; cases ea
    rw [h4] at eb; cases eb
    rw [h1] at g1; cases g1
    rw [h2] at g2; cases g2
    obtain ⟨p1, _, z1, _⟩ := Ken.isT_tup ha
    obtain ⟨p2, _, z2, _⟩ := Ken.isT_tup hb
    rw [z1] at r1 ha
    rw [z2] at r2 hb
    have y1 : w = .ref p1 := r1
    have y2 : w = .ref p2 := r2
    rw [y1] at y2; cases y2
    exact Ken.isT_inj I ha hb
  refine ⟨fun w => decide (∃ j : Nat, its[j]? = some w ∧ ts[j]? = some t), fun w hw => ?_, ?_, fun j w hj he => ?_⟩
  · obtain ⟨j, hj, ej⟩ := List.mem_iff_getElem.mp hw
    have hjx : j < xs.length := by omega
    have hjt : j < ts.length := by omega
    obtain ⟨a, ea, ha⟩ := Ken.paired_get hP (List.getElem?_eq_getElem hjx)
    obtain ⟨u1, g1, r1⟩ := r.get (List.getElem?_eq_getElem hjx)
    have gj : its[j]? = some w := by rw [List.getElem?_eq_getElem hj, ej]
    rw [gj] at g1; cases g1
    have key : decide (∃ j : Nat, its[j]? = some w ∧ ts[j]? = some t) = decide (a = t) := by
      by_cases h : a = t
      · rw [decide_eq_true h, decide_eq_true ⟨j, gj, by rw [ea, h]⟩]
      · rw [decide_eq_false h, decide_eq_false]
        rintro ⟨i, h1, h2⟩
        exact h (same j i w a t gj h1 ea h2)
    show SeqAt.EqAt X.A.in1 s w v (decide (∃ j : Nat, its[j]? = some w ∧ ts[j]? = some t))
    rw [key]
    obtain ⟨p1, _, z1, _⟩ := Ken.isT_tup ha
    obtain ⟨p2, _, z2, _⟩ := Ken.isT_tup hT
    rw [z1] at r1 ha
    rw [z2] at rx hT
    have y1 : w = .ref p1 := r1
    have y2 : v = .ref p2 := rx
    subst y1
    subst y2
    by_cases h : p1 = p2
    · subst h
      rw [decide_eq_true (Ken.isT_inj I ha hT)]
      exact SeqAt.EqAt.same _
    · obtain ⟨as, q1⟩ := Dn.reads I ha (show RelV (.ref p1) (.ref p1) from rfl)
      obtain ⟨bs, q2⟩ := Dn.reads I hT (show RelV (.ref p2) (.ref p2) from rfl)
      rw [← Ken.Tm.eqv]
      have hu1 : X.A.in1.units = X.A.units + 1 := rfl
      have dm : min a.data.depth t.data.depth ≤ 140 := by rw [Ken.Tm.depth, Ken.Tm.depth]; omega
      exact SeqAt.EqAt.of_refs h (SeqAt.rcAt_reads q1 q2 (a.lay (hs a (List.mem_of_getElem? ea))) (t.lay ho) (by omega))
  · rw [Bool.eq_iff_iff, List.any_eq_true, decide_eq_true_iff]
    constructor
    · rintro ⟨w, hw, h⟩
      obtain ⟨j, _, h2⟩ := of_decide_eq_true h
      exact List.mem_of_getElem? h2
    · intro h
      obtain ⟨j, hj, ej⟩ := List.mem_iff_getElem.mp h
      have hji : j < its.length := by omega
      exact ⟨its[j], List.getElem_mem hji, decide_eq_true ⟨j, List.getElem?_eq_getElem hji, by rw [List.getElem?_eq_getElem hj, ej]⟩⟩
  · obtain ⟨i, h1, h2⟩ := of_decide_eq_true he
    have hji : j < its.length := (List.getElem?_eq_some_iff.mp hj).1
    have hjt : j < ts.length := by omega
    rw [List.getElem?_eq_getElem hjt, same j i w ts[j] t hj h1 (List.getElem?_eq_getElem hjt) h2]
theorem op_notInT (hu : X.A.units + 150 < cLine) : OpR X (compareOp .NotIn) (rInT X.K true) := by
  intro pins s σ H x y v u Q I rx ry h
  obtain ⟨t, p, xs, ts, hT, rfl, hq, hP, ho, hs, hd, q⟩ := h
  cases ry
  obtain ⟨its, r, pl, hz⟩ := I.list hq
  obtain ⟨e, he, ea, _⟩ := mem_at hu I rx hT hP r ho hs hd
  refine SeqAt.notIn_listAt e pl.isList (fun w hw => he w (by simpa using hw)) ⟨.bl _, H, I, rfl, ?_⟩
  rw [show its.toArray.any e = its.any e by simp, ea]
  exact q
end
end L2
set_option Elab.async false
set_option linter.all false
set_option maxRecDepth 100000
set_option maxHeartbeats 2000000
namespace L2
open PySem PySem.Spec PyProof.Rows
def Itd (lo : Int) (n : Nat) : It := ⟨fun i _ => i < n, fun i H x H' => H' = H ∧ x = .int (lo - i), fun i _ => n ≤ i⟩
section
variable {X : Cx} {tg : Expr}
def iRngD (ta : TA) : TI := fun σ H R => ta σ H fun vs H1 => ∃ i j : Int, vs = [.int i, .int j, .int (-1)] ∧ (-10000 ≤ i ∧ i < 10000 ∧ -10000 ≤ j ∧ j < 10000) ∧ R (Itd i (i - j).toNat) H1
end
section
variable {X : Cx}
def rIndexT (K : PySem.W.Frag) : V → List V → Hp → VK → Prop := fun x vs H Q => ∃ (y : V) (t : Ken.Tm) (p : Addr) (xs : List V) (ts : List Ken.Tm), x = .ref p ∧ vs = [y] ∧ Ken.IsT K H y t ∧ SqL K H p xs ∧ Paired (Ken.IsT K H) xs ts ∧ t.ok ∧ (∀ s ∈ ts, s.ok) ∧ t.deep ≤ 140 ∧ t ∈ ts ∧
  ∀ j : Nat, ts[j]? = some t → Q (.int (j : Nat)) H
theorem mt_indexT {K : PySem.W.Frag} (hK : X.K = K) (hu : X.A.units + 150 < cLine) : MtR X "list.index" (rIndexT K) := by
  subst hK
  intro pins s σ H x vs v us Q I rx rv h
  obtain ⟨y, t, p, xs, ts, rfl, rfl, hT, hq, hP, ho, hs, hd, hm, q⟩ := h
  cases rx
  obtain ⟨u, rfl, ru⟩ := rv.one
  obtain ⟨its, r, pl, hz⟩ := I.list hq
  obtain ⟨e, he, ea, eb⟩ := mem_at hu I ru hT hP r ho hs hd
  obtain ⟨⟨cls, dd, data, sl⟩, ho', hc, n, hd'⟩ := id pl.isList
  simp only at hc hd'
  subst hc hd'
  rw [decide_eq_true hm, List.any_eq_true] at ea
  have l1 := Paired.length hP
  have l2 := r.length
  have hf : ∃ j, ∃ h : j < its.length, e its[j] = true ∧ ∀ m (hm : m < its.length), m < j → e its[m] = false := by
    clear he hz r pl l2 ho' eb
    obtain ⟨w, hw, ew⟩ := ea
    induction its with
    | nil => cases hw
    | cons b its ih =>
      by_cases hb : e b = true
      · exact ⟨0, by simp, hb, fun m _ h => absurd h (Nat.not_lt_zero _)⟩
      · rcases List.mem_cons.mp hw with z | z
        · subst z; exact absurd ew hb
        · obtain ⟨j, h1, h2, h3⟩ := ih z
          refine ⟨j + 1, by rw [List.length_cons]; omega, by simpa using h2, fun m hm hlt => ?_⟩
          cases m with
          | zero => simpa using hb
          | succ m => simpa using h3 m (by rw [List.length_cons] at hm; omega) (by omega)
  obtain ⟨j, hj, h2, h3⟩ := hf
  have tj : ts[j]? = some t := by
    exact eb j its[j] (List.getElem?_eq_getElem hj) h2
  refine call_meets PySem.F.slot_list_index ⟨_, ho', rfl⟩ PySem.F.entry_list_index (PySem.F.args_list_index_2 _ _)
    (SeqAt.list_indexAt p its.toArray n dd sl u e j (by simpa using hj) (by rw [← l2] at hj; exact Int.lt_of_lt_of_le (show (j : Int) < (sizeLine : Int) by omega) (by decide)) (by simpa using h2) (fun m hm hlt => by simpa using h3 m (by simpa using hm) hlt)) ⟨ho', fun z hz => he z (by simpa using hz), ?_⟩
  exact ⟨.int (j : Nat), H, I.kept (h' := s.heap) (t' := s.toks + 1) fun b o e => e, ⟨_, rfl⟩, q j tj⟩
end
end L2
set_option Elab.async false
set_option linter.all false
set_option maxRecDepth 100000
set_option maxHeartbeats 2000000
namespace L2
open PySem PySem.Spec PyProof.Rows
section
variable {X : Cx} {scope : Scope} {cl : List (Str × Addr)} {N' : List Str} {nt : Nat} {ci : List Nat} {pins : List (Addr × Obj)} {σ : St} {H : Hp} {s : Shared}
end
end L2
set_option Elab.async false
set_option linter.all false
set_option maxRecDepth 100000
set_option maxHeartbeats 2000000
namespace Ken
open PySem L2
def tg (l : List Bool) (n : Nat) : Bool := l[n]?.getD true
def wStep (ws : List Wd) (l : List Bool) (n : Nat) : List Bool := if tg l n then l else match bef ws n with
  | some j => l.set j false
  | none => l
def wLoop (ws : List Wd) (l : List Bool) : Nat → List Bool
  | 0 => l
  | i + 1 => wStep ws (wLoop ws l i) (ws.length - 1 - i)
def wThen (ws : List Wd) (l : List Bool) : List Bool := wLoop ws l (ws.length - 1)
def ifs (a b : List Bool) : List Bool := List.zipWith (fun x y => !x || y) a b
def tr (ws : List Wd) : Tm → List Bool
  | .low => ws.map fun _ => false
  | .ltr x => ws.map fun w => decide (x ∈ w.2)
  | .nd .both a b => List.zipWith and (tr ws a) (tr ws b)
  | .nd .one a b => List.zipWith or (tr ws a) (tr ws b)
  | .nd .thn a b => wThen ws (ifs (tr ws a) (tr ws b))
end Ken
set_option Elab.async false
set_option linter.all false
set_option maxRecDepth 100000
set_option maxHeartbeats 2000000
namespace L2
open PySem PySem.Spec PyProof.Rows
theorem for_rangeT {n : Nat} {ta : TA} {g : TG} {tb : TS} {D : Ends} {σ : St} {H : Hp} (ht : ∀ Q : List V → Hp → Prop, Q [.int (n : Nat)] H → ta σ H Q) (hn : n ≤ 1000000) (Pv : Nat → St → Hp → Prop) (h0 : Pv 0 σ H)
    (hs : ∀ i σ H, i < n → Pv i σ H → g (.int (i : Nat)) σ H fun σ2 H2 => tb { D with nx := Pv (i + 1), ct := Pv (i + 1), bk := D.nx } σ2 H2) (hd : ∀ σ H, Pv n σ H → D.nx σ H) : tFor (iRng1 ta) g tb D σ H :=
  ht _ ⟨(n : Nat), rfl, by omega, by omega, for_range (lo := 0) (n := n) Pv h0 (fun i σ H hi hp => by rw [Int.zero_add]; exact hs i σ H hi hp) hd⟩
end L2
namespace Ken
open PySem L2
abbrev bls (l : List Bool) : List V := l.map V.bl
theorem take_snoc {α : Type} {l : List α} {i : Nat} {x : α} (h : l[i]? = some x) : l.take (i + 1) = l.take i ++ [x] := by
  rw [List.take_add_one, h]; rfl
end Ken
set_option Elab.async false
set_option linter.all false
set_option maxRecDepth 100000
set_option maxHeartbeats 2000000
namespace Ken
open PySem L2
theorem Tm.self_pre (t : Tm) : t ∈ t.pre := by rw [t.pre_eq]; exact List.mem_cons_self
theorem pre_kids : ∀ {t s c : Tm}, s ∈ t.pre → c ∈ s.kids → c ∈ t.pre
  | .low, s, c, hs, hc => by
    have : s = .low := by simpa [Tm.pre] using hs
    subst this
    cases hc
  | .ltr w, s, c, hs, hc => by
    have : s = .ltr w := by simpa [Tm.pre] using hs
    subst this
    cases hc
  | .nd k a b, s, c, hs, hc => by
    rw [Tm.pre_eq] at hs ⊢
    show c ∈ _ :: ([a, b].flatMap Tm.pre)
    have hs' : s ∈ Tm.nd k a b :: [a, b].flatMap Tm.pre := hs
    simp only [List.mem_cons, List.flatMap_cons, List.flatMap_nil, List.append_nil, List.mem_append] at hs' ⊢
    rcases hs' with rfl | h | h
    · have hc' : c = a ∨ c = b := by simpa [Tm.kids] using hc
      rcases hc' with rfl | rfl
      · exact .inr (.inl c.self_pre)
      · exact .inr (.inr c.self_pre)
    · exact .inr (.inl (pre_kids h hc))
    · exact .inr (.inr (pre_kids h hc))
theorem pre_le : ∀ {t s : Tm}, s ∈ t.pre → s.parts ≤ t.parts ∧ s.deep ≤ t.deep ∧ ∀ us, t.inW us → s.inW us
  | .low, s, hs => by
    have : s = .low := by simpa [Tm.pre] using hs
    subst this
    exact ⟨Nat.le_refl _, Nat.le_refl _, fun _ h => h⟩
  | .ltr w, s, hs => by
    have : s = .ltr w := by simpa [Tm.pre] using hs
    subst this
    exact ⟨Nat.le_refl _, Nat.le_refl _, fun _ h => h⟩
  | .nd k a b, s, hs => by
    rw [Tm.pre_eq] at hs
    have hs' : s ∈ Tm.nd k a b :: [a, b].flatMap Tm.pre := hs
    simp only [List.mem_cons, List.flatMap_cons, List.flatMap_nil, List.append_nil, List.mem_append] at hs'
    rcases hs' with rfl | h | h
    · exact ⟨Nat.le_refl _, Nat.le_refl _, fun _ h => h⟩
    · obtain ⟨h1, h2, h3⟩ := pre_le h
      refine ⟨?_, ?_, fun us hu => h3 us hu.1⟩
      · show s.parts ≤ 1 + a.parts + b.parts; omega
      · show s.deep ≤ 1 + max a.deep b.deep; omega
    · obtain ⟨h1, h2, h3⟩ := pre_le h
      refine ⟨?_, ?_, fun us hu => h3 us hu.2⟩
      · show s.parts ≤ 1 + a.parts + b.parts; omega
      · show s.deep ≤ 1 + max a.deep b.deep; omega
structure AllIn (t : Tm) (ts : List Tm) : Prop where
  head : ts[0]? = some t
  kids : ∀ s ∈ ts, ∀ c ∈ s.kids, c ∈ ts
  pre : ∀ s ∈ ts, s ∈ t.pre
  len : ts.length = t.parts
def sp_withinL (K : PySem.W.Frag) : Sp := fun vs H Q _ => ∃ (v : V) (t : Tm), vs = [v] ∧ IsT K H v t ∧ t.parts ≤ 400 ∧
  ∀ (r : Addr) (H' : Hp) (us : List V) (ts : List Tm), Same H H' → H r = none → H' r = some (.lst us) → Paired (IsT K H') us ts → AllIn t ts → Q (.ref r) H'
end Ken
namespace Ken
open PySem L2
theorem TabOk.write {H : Hp} {P : Addr} {ds : List (Pos × Str)} {l : Addr} {xs : List V} {o : HO} (h : TabOk H P ds) (hl : H l = some (.lst xs)) : TabOk (upd H l o) P ds := by
  obtain ⟨ps, h1, h2, h3⟩ := h
  refine ⟨ps, by rw [upd_ne (ne_of h1 hl (fun z => nomatch z))]; exact h1, h2, fun d hd cv e => ?_⟩
  obtain ⟨c, ob, vs, t, g1, g2, g3, g4⟩ := h3 d hd cv e
  exact ⟨c, ob, vs, t, g1, by rw [upd_ne (ne_of g2 hl (fun z => nomatch z))]; exact g2, g3, g4⟩
def Told (ws : List Wd) (B H : Hp) (lt : Addr) (r : V) (s : Tm) : Prop := ∃ a, r = .ref a ∧ a ≠ lt ∧ B a = none ∧ H a = some (.lst (bls (tr ws s)))
theorem Told.write {ws : List Wd} {B H : Hp} {lt : Addr} {r : V} {s : Tm} {o : HO} (h : Told ws B H lt r s) : Told ws B (upd H lt o) lt r s := by
  obtain ⟨a, h1, h2, h3, h4⟩ := h
  exact ⟨a, h1, h2, h3, by rw [upd_ne h2]; exact h4⟩
end Ken
set_option Elab.async false
set_option linter.all false
set_option maxRecDepth 100000
set_option maxHeartbeats 4000000
namespace PySem.SeqAt
open PySem PySem.MeetsSeq L2 PyProof.Rows
end PySem.SeqAt
namespace L2
open PySem PySem.Spec PyProof.Rows
section
variable {X : Cx}
end
end L2
set_option Elab.async false
set_option linter.all false
set_option maxRecDepth 100000
set_option maxHeartbeats 2000000
namespace Ken
open PySem L2
def cmpT (a b : Tm) : Int := if a = b then 0 else if lexT a.spell b.spell = true then -1 else 1
def lefts (ps : List (Tm × Tm)) : List Str := ps.flatMap fun p => p.1.spell
def rights (ps : List (Tm × Tm)) : List Str := ps.flatMap fun p => p.2.spell
theorem lefts_cons (p : Tm × Tm) (ps : List (Tm × Tm)) : lefts (p :: ps) = p.1.spell ++ lefts ps := List.flatMap_cons
theorem rights_cons (p : Tm × Tm) (ps : List (Tm × Tm)) : rights (p :: ps) = p.2.spell ++ rights ps := List.flatMap_cons
theorem lexT_same (x : Str) (A B : List Str) : lexT (x :: A) (x :: B) = lexT A B := by
  show (if x = x then lexT A B else sLt x x) = _
  rw [if_pos rfl]
theorem lexT_diff {x y : Str} (h : ¬ x = y) (A B : List Str) : lexT (x :: A) (y :: B) = sLt x y := by
  show (if x = y then lexT A B else sLt x y) = _
  rw [if_neg h]
def CmpI (a b : Tm) (ps : List (Tm × Tm)) : Prop := lexT a.spell b.spell = lexT (lefts ps) (rights ps) ∧ (a = b ↔ lefts ps = rights ps)
theorem CmpI.start (a b : Tm) : CmpI a b [(a, b)] := by
  unfold CmpI
  rw [lefts_cons, rights_cons]
  show lexT a.spell b.spell = lexT (a.spell ++ []) (b.spell ++ []) ∧ (a = b ↔ a.spell ++ [] = b.spell ++ [])
  rw [List.append_nil, List.append_nil]
  exact ⟨rfl, ⟨fun e => by rw [e], spell_inj⟩⟩
theorem CmpI.done {a b : Tm} (h : CmpI a b []) : cmpT a b = 0 := by
  unfold cmpT
  rw [if_pos (h.2.mpr rfl)]
theorem CmpI.diff {a b t u : Tm} {x y : Str} {A B : List Str} {ps : List (Tm × Tm)} (h : CmpI a b ((t, u) :: ps)) (ht : t.spell = x :: A) (hu : u.spell = y :: B) (hxy : ¬ x = y) : cmpT a b = if sLt x y = true then -1 else 1 := by
  unfold CmpI at h
  rw [lefts_cons, rights_cons, ht, hu, List.cons_append, List.cons_append, lexT_diff hxy] at h
  unfold cmpT
  rw [if_neg (fun e => hxy (List.cons.inj (h.2.mp e)).1), h.1]
def IsP (K : PySem.W.Frag) (H : Hp) (v : V) (p : Tm × Tm) : Prop := ∃ q x y, v = .ref q ∧ SqT K H q [x, y] ∧ IsT K H x p.1 ∧ IsT K H y p.2
theorem IsP.keep {K : PySem.W.Frag} {H H' : Hp} {v : V} {p : Tm × Tm} (h : IsP K H v p) (k : KeepT K H H') : IsP K H' v p := by
  obtain ⟨q, x, y, e, hs, hx, hy⟩ := h
  exact ⟨q, x, y, e, k _ _ hs, hx.keep k, hy.keep k⟩
end Ken
set_option Elab.async false
set_option linter.all false
set_option maxRecDepth 100000
set_option maxHeartbeats 4000000
namespace PySem.SeqAt
open PySem PySem.MeetsSeq L2 PyProof.Rows
def LtAt (A : Around) (s : Shared) (y x : Value) (k : Bool) : Prop :=
  ∀ (P : Program) (w : World) (E : Value → Shared → Prop) (Q : Value → Shared → Prop), Q (.bool k) s → wpAny (model P w) A (compareOp .Lt y x) Q E s
inductive LexAt (A : Around) (s : Shared) (d : Bool) : List Value → List Value → Bool → Prop
  | one (us : List Value) : LexAt A s d us [] d
  | two (us : List Value) : LexAt A s d [] us d
  | same {u v : Value} {us vs : List Value} {r : Bool} (h : EqAt A.in1 s u v true) (t : LexAt A s d us vs r) : LexAt A s d (u :: us) (v :: vs) r
  | diff {u v : Value} {us vs : List Value} {r : Bool} (h : EqAt A.in1 s u v false) (t : LtAt A.in1 s u v r) : LexAt A s d (u :: us) (v :: vs) r
theorem tuple_ltG (l b : Addr) (items items2 : Array Value) (n n2 : Nat) (dd dd2 : Option Addr) (sl sl2 : Array (Option Value)) (k : Bool) :
    Meets (Builtin.«tuple.__lt__» ⟨[.ref l, .ref b], []⟩)
      (fun A R s => s.heap.get? l = some { cls := .type "tuple", dict := dd, data := .seq items n, slots := sl } ∧ s.heap.get? b = some { cls := .type "tuple", dict := dd2, data := .seq items2 n2, slots := sl2 } ∧
        LexAt A s (decide (items.size < items2.size)) items.toList items2.toList k ∧ R (.ok (.ret (.bool k))) s) :=
  .of_wp fun prog w A R s h => by
    obtain ⟨hp, g, d, tk, os⟩ := s; obtain ⟨hl, hb, he, h⟩ := h
    have f2 := AutoSeq1.sub_tuple_tuple
    wp_walk using wpAny_loadPart' hl, wpAny_loadPart' hb, wpAny_forIn_list _ (fun rest b s' => b.1 = none ∧ s' = ⟨hp, g, d, tk, os⟩ ∧ ∃ us vs, rest = List.zip us vs ∧ LexAt A ⟨hp, g, d, tk, os⟩ (decide (items.size < items2.size)) us vs k) _
    case turn =>
      rintro ⟨y, x⟩ rest b s' ⟨hb', rfl, us, vs, hz, hx⟩
      cases hx with
      | one us => rw [List.zip_nil_right] at hz; cases hz
      | two us => rw [List.zip_nil_left] at hz; cases hz
      | same h1 t =>
        rw [List.zip_cons_cons] at hz
        injection hz with hyx hrest
        injection hyx with e1 e2
        subst e1 e2
        refine wpAny_bind (h1 _ _ _ _ ?_)
        wp_walk
        exact ⟨rfl, rfl, _, _, hrest, t⟩
      | diff h1 t =>
        rw [List.zip_cons_cons] at hz
        injection hz with hyx hrest
        injection hyx with e1 e2
        subst e1 e2
        refine wpAny_bind (h1 _ _ _ _ ?_)
        simp only [Bool.not_false, if_true]
        refine wpAny_bind (wpAny_rule (wpAny_bind (t _ _ _ _ ?_)))
        refine wpAny_bind (wpAny_pure (wpAny_pure (wpAny_pure ⟨_, rfl, ?_⟩)))
        exact h
    case fin =>
      rintro ⟨b1, b2⟩ s' ⟨hb', rfl, us, vs, hz, hx⟩
      simp only at hb'
      subst hb'
      have hf : k = decide (items.size < items2.size) := by
        cases hx with
        | one us => rfl
        | two us => rfl
        | same h1 t => cases hz
        | diff h1 t => cases hz
      rw [hf] at h
      wp_walk
      exact ⟨_, rfl, by simpa [Builtin.Tuple.tupleCompareSizes] using h⟩
    case h => exact ⟨rfl, rfl, _, _, rfl, he⟩
theorem lt_tupleG {A : Around} {s : Shared} {l b : Addr} {items items2 : Array Value} {k : Bool} (hl : s.heap.IsTuple l items) (hb : s.heap.IsTuple b items2) (hu : A.units < cLine)
    (he : LexAt A s (decide (items.size < items2.size)) items.toList items2.toList k) : LtAt A s (.ref l) (.ref b) k := fun P w E Q h => by
  obtain ⟨⟨cls, dd, data, sl⟩, ho, hc, n, hd⟩ := id hl
  obtain ⟨⟨cls2, dd2, data2, sl2⟩, ho2, hc2, n2, hd2⟩ := id hb
  simp only at hc hd hc2 hd2
  subst hc hd hc2 hd2
  exact richCompare_meets_room (op := .Lt) ⟨_, ho, rfl⟩ ⟨_, ho2, rfl⟩ F.slot_tuple_lt F.entry_tuple_lt (F.args_tuple_lt_2 _ _) (tuple_ltG l b items items2 n n2 dd dd2 sl sl2 k)
    ⟨ho, ho2, he, show Value.bool k ≠ Value.notImplemented ∧ Q (.bool k) s from ⟨(fun x => nomatch x), h⟩⟩ hu
theorem lt_texts {A : Around} {s : Shared} {x y : Str} {t u : Tok} : LtAt A s (.str x t) (.str y u) (sLt x y) := fun _ _ _ _ h => PySem.W.cmp_ofLt (P.lt_str h)
theorem eq_texts {A : Around} {s : Shared} {x y : Str} {t u : Tok} : EqAt A s (.str x t) (.str y u) (decide (x = y)) := fun P w E Q h => wpAny_eqBool_str h
end PySem.SeqAt
namespace Ken
open PySem L2 PySem.SeqAt
theorem lexT_app (l : List Str) (A B : List Str) : lexT (l ++ A) (l ++ B) = lexT A B := by
  induction l with
  | nil => rfl
  | cons z l ih => rw [List.cons_append, List.cons_append, lexT_same, ih]
theorem kd_low (k : Kd) : ¬ k.str = ("low" : Str) := by cases k <;> decide
theorem kd_ltr (k : Kd) : ¬ k.str = ("letter" : Str) := by cases k <;> decide
theorem lexT_pre : ∀ {a b : Tm} (A B : List Str), a ≠ b → lexT (a.spell ++ A) (b.spell ++ B) = lexT a.spell b.spell
  | .low, .low, A, B, h => absurd rfl h
  | .low, .ltr y, A, B, h => by show lexT ("low" :: _) ("letter" :: _) = lexT ("low" :: _) ("letter" :: _); rw [lexT_diff (by decide), lexT_diff (by decide)]
  | .low, .nd k c d, A, B, h => by
    rw [spell_nd]
    show lexT ("low" :: _) (k.str :: _) = lexT ("low" :: _) (k.str :: _)
    rw [lexT_diff (Ne.symm (kd_low k)), lexT_diff (Ne.symm (kd_low k))]
  | .ltr x, .low, A, B, h => by show lexT ("letter" :: _) ("low" :: _) = lexT ("letter" :: _) ("low" :: _); rw [lexT_diff (by decide), lexT_diff (by decide)]
  | .ltr x, .ltr y, A, B, h => by
    have hxy : ¬ x = y := fun z => h (by rw [z])
    show lexT ("letter" :: x :: _) ("letter" :: y :: _) = lexT ("letter" :: x :: _) ("letter" :: y :: _)
    rw [lexT_same, lexT_same, lexT_diff hxy, lexT_diff hxy]
  | .ltr x, .nd k c d, A, B, h => by
    rw [spell_nd]
    show lexT ("letter" :: _) (k.str :: _) = lexT ("letter" :: _) (k.str :: _)
    rw [lexT_diff (Ne.symm (kd_ltr k)), lexT_diff (Ne.symm (kd_ltr k))]
  | .nd k a b, .low, A, B, h => by
    rw [spell_nd]
    show lexT (k.str :: _) ("low" :: _) = lexT (k.str :: _) ("low" :: _)
    rw [lexT_diff (kd_low k), lexT_diff (kd_low k)]
  | .nd k a b, .ltr y, A, B, h => by
    rw [spell_nd]
    show lexT (k.str :: _) ("letter" :: _) = lexT (k.str :: _) ("letter" :: _)
    rw [lexT_diff (kd_ltr k), lexT_diff (kd_ltr k)]
  | .nd k a b, .nd k' c d, A, B, h => by
    rw [spell_nd, spell_nd, List.cons_append, List.cons_append]
    by_cases hk : k.str = k'.str
    · rw [hk, lexT_same, lexT_same, List.append_assoc, List.append_assoc]
      by_cases hac : a = c
      · subst hac
        have hbd : b ≠ d := fun z => h (by rw [z, Kd.str_inj hk])
        rw [lexT_app, lexT_app, lexT_pre A B hbd]
      · rw [lexT_pre _ _ hac, lexT_pre _ _ hac]
    · rw [lexT_diff hk, lexT_diff hk]
section
variable {X : Cx} {pins : List (Addr × Obj)} {σ : St} {H : Hp} {s : Shared}
theorem eq_tm (I : Inv X pins σ H s) {a b : Tm} {va vb : V} {ua ub : Value} {A : Around} (ha : IsT X.K H va a) (hb : IsT X.K H vb b) (ra : RelV va ua) (rb : RelV vb ub) (oa : a.ok) (ob : b.ok) (hu : A.units + a.deep < cLine) : EqAt A s ua ub (decide (a = b)) := by
  obtain ⟨p1, _, z1, _⟩ := isT_tup ha
  obtain ⟨p2, _, z2, _⟩ := isT_tup hb
  rw [z1] at ra ha
  rw [z2] at rb hb
  have y1 : ua = .ref p1 := ra
  have y2 : ub = .ref p2 := rb
  subst y1 y2
  by_cases h : p1 = p2
  · subst h
    rw [decide_eq_true (isT_inj I ha hb)]
    exact EqAt.same _
  · obtain ⟨as, q1⟩ := Dn.reads I ha (show RelV (.ref p1) (.ref p1) from rfl)
    obtain ⟨bs, q2⟩ := Dn.reads I hb (show RelV (.ref p2) (.ref p2) from rfl)
    rw [← Tm.eqv]
    have dm : min a.data.depth b.data.depth ≤ a.deep := by rw [Tm.depth, Tm.depth]; omega
    exact EqAt.of_refs h (rcAt_reads q1 q2 (a.lay oa) (b.lay ob) (by omega))
theorem lt_tm (I : Inv X pins σ H s) : ∀ {a b : Tm} {va vb : V} {ua ub : Value} {A : Around}, IsT X.K H va a → IsT X.K H vb b → RelV va ua → RelV vb ub → a.ok → b.ok → a ≠ b → A.units + a.deep + 2 < cLine → LtAt A s ua ub (lexT a.spell b.spell)
  | a, b, va, vb, ua, ub, A, ha, hb, ra, rb, oa, ob, hne, hu => by
    have fst : ∀ {p q : Addr} {x y : Str} {xs ys : List V}, SqT X.K H p (.str x :: xs) → SqT X.K H q (.str y :: ys) → ¬ x = y → LtAt A s (.ref p) (.ref q) (sLt x y) := fun {p q x y xs ys} h1 h2 hxy => by
      obtain ⟨its, r, pl, _⟩ := I.tuple h1
      obtain ⟨its', r', pl', _⟩ := I.tuple h2
      refine lt_tupleG pl pl' (by omega) ?_
      cases r with
      | cons r0 rr =>
        cases r' with
        | cons r0' rr' =>
          obtain ⟨t, rfl⟩ := r0
          obtain ⟨t', rfl⟩ := r0'
          have e := eq_texts (A := A.in1) (s := s) (x := x) (y := y) (t := t) (u := t')
          rw [decide_eq_false hxy] at e
          exact .diff e lt_texts
    match a, b, ha, hb, oa, ob, hne, hu with
    | .low, .low, _, _, _, _, hne, _ => exact absurd rfl hne
    | .low, .ltr y, ha, hb, oa, ob, hne, hu =>
      obtain ⟨p, rfl, hs⟩ := isT_low.mp ha
      obtain ⟨q, rfl, hs'⟩ := isT_ltr.mp hb
      cases ra; cases rb
      have := fst hs hs' (by decide)
      rw [show lexT (Tm.low).spell (Tm.ltr y).spell = sLt "low" "letter" from lexT_diff (by decide) _ _]
      exact this
    | .low, .nd k c d, ha, hb, oa, ob, hne, hu =>
      obtain ⟨p, rfl, hs⟩ := isT_low.mp ha
      obtain ⟨q, _, _, rfl, hs', _, _⟩ := isT_nd.mp hb
      cases ra; cases rb
      have := fst hs hs' (Ne.symm (kd_low k))
      rw [spell_nd, show lexT (Tm.low).spell (k.str :: (c.spell ++ d.spell)) = sLt "low" k.str from lexT_diff (Ne.symm (kd_low k)) _ _]
      exact this
    | .ltr x, .low, ha, hb, oa, ob, hne, hu =>
      obtain ⟨p, rfl, hs⟩ := isT_ltr.mp ha
      obtain ⟨q, rfl, hs'⟩ := isT_low.mp hb
      cases ra; cases rb
      have := fst hs hs' (by decide)
      rw [show lexT (Tm.ltr x).spell (Tm.low).spell = sLt "letter" "low" from lexT_diff (by decide) _ _]
      exact this
    | .ltr x, .nd k c d, ha, hb, oa, ob, hne, hu =>
      obtain ⟨p, rfl, hs⟩ := isT_ltr.mp ha
      obtain ⟨q, _, _, rfl, hs', _, _⟩ := isT_nd.mp hb
      cases ra; cases rb
      have := fst hs hs' (Ne.symm (kd_ltr k))
      rw [spell_nd, show lexT (Tm.ltr x).spell (k.str :: (c.spell ++ d.spell)) = sLt "letter" k.str from lexT_diff (Ne.symm (kd_ltr k)) _ _]
      exact this
    | .nd k c d, .low, ha, hb, oa, ob, hne, hu =>
      obtain ⟨p, _, _, rfl, hs, _, _⟩ := isT_nd.mp ha
      obtain ⟨q, rfl, hs'⟩ := isT_low.mp hb
      cases ra; cases rb
      have := fst hs hs' (kd_low k)
      rw [spell_nd, show lexT (k.str :: (c.spell ++ d.spell)) (Tm.low).spell = sLt k.str "low" from lexT_diff (kd_low k) _ _]
      exact this
    | .nd k c d, .ltr y, ha, hb, oa, ob, hne, hu =>
      obtain ⟨p, _, _, rfl, hs, _, _⟩ := isT_nd.mp ha
      obtain ⟨q, rfl, hs'⟩ := isT_ltr.mp hb
      cases ra; cases rb
      have := fst hs hs' (kd_ltr k)
      rw [spell_nd, show lexT (k.str :: (c.spell ++ d.spell)) (Tm.ltr y).spell = sLt k.str "letter" from lexT_diff (kd_ltr k) _ _]
      exact this
    | .ltr x, .ltr y, ha, hb, oa, ob, hne, hu =>
      obtain ⟨p, rfl, hs⟩ := isT_ltr.mp ha
      obtain ⟨q, rfl, hs'⟩ := isT_ltr.mp hb
      cases ra; cases rb
      have hxy : ¬ x = y := fun z => hne (by rw [z])
      obtain ⟨its, r, pl, _⟩ := I.tuple hs
      obtain ⟨its', r', pl', _⟩ := I.tuple hs'
      refine lt_tupleG pl pl' (by omega) ?_
      rw [show lexT (Tm.ltr x).spell (Tm.ltr y).spell = sLt x y from (lexT_same _ _ _).trans (lexT_diff hxy _ _)]
      cases r with
      | cons r0 rr =>
        cases r' with
        | cons r0' rr' =>
          cases rr with
          | cons r1 rr =>
            cases rr' with
            | cons r1' rr' =>
              obtain ⟨t, rfl⟩ := r0
              obtain ⟨t', rfl⟩ := r0'
              obtain ⟨t1, rfl⟩ := r1
              obtain ⟨t1', rfl⟩ := r1'
              have e0 := eq_texts (A := A.in1) (s := s) (x := "letter") (y := "letter") (t := t) (u := t')
              have e := eq_texts (A := A.in1) (s := s) (x := x) (y := y) (t := t1) (u := t1')
              rw [decide_eq_true rfl] at e0
              rw [decide_eq_false hxy] at e
              exact .same e0 (.diff e lt_texts)
    | .nd k a1 b1, .nd k' a2 b2, ha, hb, oa, ob, hne, hu =>
      obtain ⟨p, vx, vy, rfl, hs, hx, hy⟩ := isT_nd.mp ha
      obtain ⟨q, vx', vy', rfl, hs', hx', hy'⟩ := isT_nd.mp hb
      cases ra; cases rb
      have du : (Tm.nd k a1 b1).deep = 1 + max a1.deep b1.deep := rfl
      have iu : A.in1.units = A.units + 1 := rfl
      by_cases hk : k.str = k'.str
      · obtain ⟨its, r, pl, _⟩ := I.tuple hs
        obtain ⟨its', r', pl', _⟩ := I.tuple hs'
        refine lt_tupleG pl pl' (by omega) ?_
        rw [spell_nd, spell_nd, hk, lexT_same]
        cases r with
        | cons r0 rr =>
          cases r' with
          | cons r0' rr' =>
            cases rr with
            | cons r1 rr =>
              cases rr' with
              | cons r1' rr' =>
                cases rr with
                | cons r2 rr =>
                  cases rr' with
                  | cons r2' rr' =>
                    obtain ⟨t, rfl⟩ := r0
                    obtain ⟨t', rfl⟩ := r0'
                    have e0 := eq_texts (A := A.in1) (s := s) (x := k.str) (y := k'.str) (t := t) (u := t')
                    rw [decide_eq_true hk] at e0
                    refine .same e0 ?_
                    have e1 := eq_tm (A := A.in1) I hx hx' r1 r1' oa.1 ob.1 (by omega)
                    by_cases hac : a1 = a2
                    · rw [decide_eq_true hac] at e1
                      refine .same e1 ?_
                      have hbd : b1 ≠ b2 := fun z => hne (by rw [z, hac, Kd.str_inj hk])
                      have e2 := eq_tm (A := A.in1) I hy hy' r2 r2' oa.2 ob.2 (by omega)
                      rw [decide_eq_false hbd] at e2
                      rw [hac, lexT_app]
                      exact .diff e2 (lt_tm I hy hy' r2 r2' oa.2 ob.2 hbd (by omega))
                    · rw [decide_eq_false hac] at e1
                      rw [lexT_pre _ _ hac]
                      exact .diff e1 (lt_tm I hx hx' r1 r1' oa.1 ob.1 hac (by omega))
      · have := fst hs hs' hk
        rw [spell_nd, spell_nd, lexT_diff hk]
        exact this
termination_by a => a
end
end Ken
namespace L2
open PySem PySem.Spec PyProof.Rows
section
variable {X : Cx}
def rLtTm (K : PySem.W.Frag) : R2 := fun x y H Q => ∃ a b : Ken.Tm, Ken.IsT K H x a ∧ Ken.IsT K H y b ∧ a.ok ∧ b.ok ∧ a ≠ b ∧ a.deep ≤ 140 ∧ Q (.bl (lexT a.spell b.spell)) H
theorem op_ltTm (hu : X.A.units + 150 < cLine) : OpR X (compareOp .Lt) (rLtTm X.K) := by
  intro pins s σ H x y v u Q I rx ry h
  obtain ⟨a, b, ha, hb, oa, ob, hne, hd, q⟩ := h
  exact Ken.lt_tm I ha hb rx ry oa ob hne (by omega) X.prog X.w X.xe _ ⟨.bl _, H, I, rfl, q⟩
end
end L2
set_option Elab.async false
set_option linter.all false
set_option maxRecDepth 100000
set_option maxHeartbeats 4000000
namespace L2
open PySem PySem.Spec PyProof.Rows Ken
def metS (xs : List Str) : Nat → List Str
  | 0 => []
  | i + 1 => match xs[i]? with
    | some x => if x ∈ metS xs i then metS xs i else metS xs i ++ [x]
    | none => metS xs i
theorem metS_succ {xs : List Str} {i : Nat} {x : Str} (h : xs[i]? = some x) : metS xs (i + 1) = if x ∈ metS xs i then metS xs i else metS xs i ++ [x] := by
  show (match xs[i]? with | some x => if x ∈ metS xs i then metS xs i else metS xs i ++ [x] | none => metS xs i) = _
  rw [h]
theorem metS_len {xs : List Str} : ∀ i, (metS xs i).length ≤ i
  | 0 => Nat.le_refl _
  | i + 1 => by
    have := metS_len (xs := xs) i
    cases h : xs[i]? with
    | none =>
      show (match xs[i]? with | some x => if x ∈ metS xs i then metS xs i else metS xs i ++ [x] | none => metS xs i).length ≤ _
      rw [h]
      show (metS xs i).length ≤ i + 1
      omega
    | some x =>
      rw [metS_succ h]
      split
      · omega
      · rw [List.length_append, List.length_singleton]; omega
theorem metS_mem {xs : List Str} (x : Str) : ∀ i, i ≤ xs.length → (x ∈ metS xs i ↔ x ∈ xs.take i)
  | 0, _ => by simp [metS]
  | i + 1, hi => by
    have ih := metS_mem (xs := xs) x i (by omega)
    have hx : xs[i]? = some (xs[i]'(by omega)) := List.getElem?_eq_getElem _
    rw [metS_succ hx, List.take_add_one, hx]
    show _ ↔ x ∈ xs.take i ++ [xs[i]'(by omega)]
    rw [List.mem_append, List.mem_singleton, ← ih]
    split
    · rename_i hm
      exact ⟨.inl, fun z => z.elim id fun e => e ▸ hm⟩
    · rw [List.mem_append, List.mem_singleton]
theorem metS_nodup {xs : List Str} : ∀ i, (metS xs i).Nodup
  | 0 => List.nodup_nil
  | i + 1 => by
    have ih := metS_nodup (xs := xs) i
    cases h : xs[i]? with
    | none =>
      show (match xs[i]? with | some x => if x ∈ metS xs i then metS xs i else metS xs i ++ [x] | none => metS xs i).Nodup
      rw [h]; exact ih
    | some x =>
      rw [metS_succ h]
      split
      · exact ih
      · rename_i hm
        rw [List.nodup_append]
        exact ⟨ih, List.pairwise_singleton _ _, fun a ha b hb e => hm (by rw [List.mem_singleton] at hb; rw [← hb, ← e]; exact ha)⟩
section
variable {P : Program} {w : World} {A : Around} {RR : Result → Shared → Prop} {J : Addr} {fps ws : List Addr} {GG : Array GenState → Array GenState → Prop} {n : Nat} {PP : Nat → Value → Prop} {SS : Nat → Shared → Prop}
theorem loop_texts (W : WalksS P w A.in1 J fps ws GG n PP SS) (a : Addr) (haf : a ∉ fps) (xs : List Str) (hval : ∀ i v, PP i v → ∃ x t, xs[i]? = some x ∧ v = .str x t) (hb : n + 1 < scanBound) :
    ∀ (k i : Nat) (s : Shared), n - i = k → i ≤ n → SS i s → SetAt P w s.heap a (metS xs i) → (∀ s', Moved (a :: ws) GG s s' → SetAt P w s'.heap a (metS xs n) → RR (.ok (.ret .none)) s') →
      codeAny (model P w) A (.builtin "set.update.loop" ⟨[.ref a, .ref J], []⟩) RR s := by
  have haw : a ∉ ws := fun z => haf (W.sub _ z)
  have sub : ∀ b ∈ ws, b ∈ a :: ws := fun b z => List.mem_cons_of_mem _ z
  intro k
  induction k with
  | zero =>
    intro i s e1 e2 st hs hR
    obtain rfl : i = n := by omega
    refine codeAny_builtin F.entry_set_update_loop ?_
    rw [Around.under_plainId F.plain_set_update_loop _]
    show wpAny _ A.in1 (pyNext (.ref J) >>= _) _ _ s
    refine wpAny_bind (W.done s _ _ st fun s' mv => ?_)
    exact wpAny_pure (hR s' (mv.mono sub) (hs.at fun o e => mv.heap a _ haw e))
  | succ k ih =>
    intro i s e1 e2 st hs hR
    have hlt : i < n := by omega
    refine codeAny_builtin F.entry_set_update_loop ?_
    rw [Around.under_plainId F.plain_set_update_loop _]
    show wpAny _ A.in1 (pyNext (.ref J) >>= _) _ _ s
    refine wpAny_bind (W.item i s _ _ hlt st fun v s' hp st' mv => ?_)
    obtain ⟨x, t, hx, rfl⟩ := hval i v hp
    have hs' : SetAt P w s'.heap a (metS xs i) := hs.at fun o e => mv.heap a _ haw e
    have his : (PySem.strKind P w).is x (.str x t) = true := by
      show Value.isStrOf x (.str x t) = true
      simp [Value.isStrOf]
    show wpAny _ A.in1 (holding [Value.str x t] (setAdd a (.str x t)) >>= _) _ _ s'
    refine wpAny_bind (wpAny_holding (wpAny_holding (wpAny_bind ((PySem.strKind P w).pyHash his ?_))))
    have hl := metS_len (xs := xs) i
    refine setAdd_str (s := { s' with toks := s'.toks + 1 }) hs' (by omega) fun h' sb sa b => ?_
    rw [← metS_succ hx] at sa
    refine wpAny_pure ⟨plainId_quiet F.plain_set_update_loop _, ih (i + 1) _ (by omega) hlt (W.frame _ s' _ _ st' (Nat.le_succ _) fun c hc o e => ?_) sa fun s2 mv2 hs2 => ?_⟩
    · rw [sb.2 c (fun z : c = a => haf (by rw [← z]; exact hc))]; exact e
    · refine hR s2 (Moved.trans W.gtrans ((mv.mono sub).then_heap (Nat.le_succ _) fun c o hc e => ?_) mv2) hs2
      rw [sb.2 c (fun z : c = a => hc (by rw [z]; exact List.mem_cons_self))]; exact e
end
section
variable {P : Program} {w : World} {A : Around} {E : Value → Shared → Prop} {s : Shared}
theorem new_texts (v : Value) {Q1 : Value → Shared → Prop} (hq : Q1 (.ref s.heap.objs.size) { s with heap := s.heap.push (setObj0 w) }) : codeAny (model P w) A (.call (.builtin "set.__new__") ⟨[.type "set", v], []⟩) (wants Q1 E) s := by
  refine codeAny_of_tree ?_
  show wpAny _ A.in1 (checkBuiltinCall "set.__new__" ⟨[.type "set", v], []⟩ >>= fun _ => again (.builtin "set.__new__" ⟨[.type "set", v], []⟩)) _ _ s
  refine wpAny_bind (wpAny_of_eq (F.newCall_set_1 v) (wpAny_pure ⟨plainId_quiet F.plain_set_new _, codeAny_builtin F.entry_set_new ?_⟩))
  rw [Around.under_plainId F.plain_set_new _]
  unfold Builtin.«set.__new__» Builtin.Frozenset.newClass
  have sb := sub_set_self
  obtain ⟨hp, g, d, tk, os⟩ := s
  dsimp only
  wp_walk
  refine wpAny_askSetting (wpAny_pure ?_)
  dsimp only [newObj]
  exact wpAny_bind (wpAny_alloc (wpAny_pure (wpAny_pure hq)))
theorem call_texts {l : Addr} {its : Array Value} {xs : List Str} {Q : Value → Shared → Prop} (hh : A.handled = none) (hl : s.heap.IsList l its) (hi : ∀ (i : Nat) (v : Value), its[i]? = some v → ∃ x t, xs[i]? = some x ∧ v = .str x t) (hb : its.size + 1 < scanBound)
    (hq : ∀ (h' : Heap) (tk : Nat), SetAt P w h' s.heap.objs.size (metS xs its.size) → (∀ b o, b < s.heap.objs.size → s.heap.get? b = some o → h'.get? b = some o) → Q (.ref s.heap.objs.size) { s with heap := h', toks := tk }) :
    wpAny (model P w) A (call (.type "set") [.ref l]) Q E s := by
  obtain ⟨c, tl, hmro⟩ := F.called_set.mro
  have u1 := F.called_set.made
  have u2 := F.called_set.sub
  refine wpAny_call (codeAny_of_tree ?_)
  show wpAny _ _ (callAny (.type "set") _) _ _ _
  refine wpAny_pure ⟨Code.quiet_builtin _ (by decide +kernel), codeAny_builtin F.entry_type_call ?_⟩
  rw [Around.under_plain (weight_type_call_type "set" [.ref l] []) rfl]
  have u3 := F.called_set.notType
  have u4 := F.called_set.canCreate
  have u5 := F.typeCall_set_1 (.ref l)
  repeat any_goals first | wp_step | assumption
  refine codeAny_mono (new_texts (.ref l) (E := E) (Q1 := fun ob s1 => ob = .ref s.heap.objs.size ∧ s1 = { s with heap := s.heap.push (setObj0 w) }) ⟨rfl, rfl⟩) fun r s1 hr => ?_
  cases r with
  | error e => exact hr
  | ok fl =>
    cases fl with
    | ret ob =>
      obtain ⟨rfl, rfl⟩ := hr
      have g0 : (s.heap.push (setObj0 w)).get? s.heap.objs.size = some (setObj0 w) := Heap.get?_push_size _ rfl
      have hT : Shared.TypeIs { s with heap := s.heap.push (setObj0 w) } (.ref s.heap.objs.size) "set" := ⟨_, g0, rfl⟩
      have u6 := F.called_set.init.lookup
      have u7 := F.called_set.init.bind (.ref s.heap.objs.size)
      repeat any_goals first | wp_step | assumption
      refine codeAny_mono (codeAny_call_builtin (R := wants (fun r s2 => r = .none ∧ ∃ h' tk, s2 = { s with heap := h', toks := tk } ∧ SetAt P w h' s.heap.objs.size (metS xs its.size) ∧ (∀ b o, b < s.heap.objs.size → s.heap.get? b = some o → h'.get? b = some o)) E) F.called_set.init.plain F.entry_set_init (check_set_init_1 hT ?_)) fun r2 s2 hr2 => ?_
      · obtain ⟨ol, hol, hcl, nl, hdl⟩ := hl
        obtain ⟨k1, k2, k3, k4⟩ := ol
        simp only at hcl hdl
        subst hcl hdl
        have hol1 : (s.heap.push (setObj0 w)).get? l = some ⟨.type "list", k2, .seq its nl, k4⟩ := Heap.get?_push_of_some _ hol
        have v1 := F.sub_list_set
        have v2 := F.sub_list_frozenset
        have v3 : (Value.type "list" == Value.type "dict") = false := by decide
        have hl1 : (s.heap.push (setObj0 w)).IsList l its := ⟨_, hol1, rfl, nl, rfl⟩
        unfold Builtin.«set.__init__» noKeywords Builtin.Frozenset.updateFrom
        generalize hPI : pyIter = PI
        wp_walk
        subst hPI
        refine wpAny_pyIter_list hl1 (wpAny_bind (wpAny_runValue ?_))
        have hls : l < s.heap.objs.size := Heap.lt_size hol
        have h3 : A.in1.in1.in1.handled = none := by simp [hh]
        have sz : (s.heap.push (setObj0 w)).objs.size = s.heap.objs.size + 1 := Heap.size_push ..
        refine loop_texts ((Walks.list h3 _ l (by rw [sz]; exact Nat.ne_of_lt (Nat.lt_succ_of_lt hls)) its).toS) s.heap.objs.size (by
          rw [sz]
          intro z
          rcases List.mem_cons.mp z with z | z
          · exact absurd z (Nat.ne_of_lt (Nat.lt_succ_self _))
          · exact absurd (List.mem_singleton.mp z) (Nat.ne_of_gt hls)) xs hi hb (its.size - 0) 0 _ (by omega) (Nat.zero_le _) ⟨⟨_, Heap.get?_push_size _ rfl, rfl, rfl⟩, hl1.push _⟩ ?_ ?_
        · exact setAt_new (Heap.get?_push_of_some _ g0)
        · intro s' mv st
          obtain ⟨h', g', d', tk', os'⟩ := s'
          have e1 : g' = s.gens := mv.gens
          have e2 : d' = s.drawn := mv.drawn
          have e3 : os' = s.os := mv.os
          subst e1 e2 e3
          refine wpAny_pure (wpAny_pure ⟨rfl, h', tk', rfl, st, fun b o hb e => ?_⟩)
          refine mv.heap b o ?_ (Heap.get?_push_of_some _ (Heap.get?_push_of_some _ e))
          rw [sz]
          intro z
          rcases List.mem_cons.mp z with z | z
          · exact absurd z (Nat.ne_of_lt hb)
          · exact absurd (List.mem_singleton.mp z) (Nat.ne_of_lt (Nat.lt_succ_of_lt hb))
      · cases r2 with
        | error e => exact hr2
        | ok fl2 =>
          cases fl2 with
          | ret r =>
            obtain ⟨rfl, h', tk, rfl, st, kk⟩ := hr2
            repeat any_goals first | wp_step | assumption
            exact hq _ _ st kk
          | _ => exact hr2.elim
    | _ => exact hr.elim
end
section
variable {X : Cx}
def rSetOf (K : PySem.W.Frag) (P : Program) (w : World) : List V → Hp → VK → Prop := fun vs H Q => ∃ (l : Addr) (xs : List Str), vs = [.ref l] ∧ SqL K H l (xs.map V.str) ∧ xs.length < 4000 ∧ ∀ a, H a = none → Q (.ref a) (upd H a (setO P w a (metS xs xs.length)))
theorem call_setL {P : Program} {w : World} (hP : X.prog = P) (hw : X.w = w) (hc : X.calm = true) : CallR X (.type "set") (rSetOf X.K P w) := by
  subst hP hw
  intro pins s σ H vs us Q I r h
  obtain ⟨l, xs, rfl, hq, hn, q⟩ := h
  obtain ⟨u, rfl, ru⟩ := vals1 r
  cases ru
  obtain ⟨its, rv, pl, hz⟩ := I.list hq
  have hlen := rv.length
  rw [List.length_map] at hlen
  refine call_texts (xs := xs) (I.ok.hd hc) pl.isList (fun i v hv => ?_) (by rw [List.size_toArray, ← hlen]; exact Nat.lt_of_le_of_lt hn (by decide)) fun h' tk st kk => ?_
  · have hv' : its[i]? = some v := by simpa using hv
    have hi : i < xs.length := by rw [hlen]; exact (List.getElem?_eq_some_iff.mp hv').1
    obtain ⟨u, hu, ru⟩ := rv.get (i := i) (x := V.str xs[i]) (by rw [List.getElem?_map, List.getElem?_eq_getElem hi]; rfl)
    rw [hv'] at hu
    cases hu
    obtain ⟨t, rfl⟩ := ru
    exact ⟨_, t, List.getElem?_eq_getElem hi, rfl⟩
  · rw [show its.toArray.size = xs.length by rw [List.size_toArray, hlen]] at st
    have hn0 : H s.heap.objs.size = none := I.hok.fresh (Nat.le_refl _)
    exact ⟨.ref s.heap.objs.size, _, I.laid (t' := tk) (fun b o e => kk b o (Heap.lt_size e) e) (Nat.le_refl _) (setO_ok st), rfl, q _ hn0⟩
end
end L2
set_option Elab.async false
set_option linter.all false
set_option maxRecDepth 100000
set_option maxHeartbeats 2000000
namespace L2
open PySem
end L2
namespace Ken
open PySem L2
theorem tms_self (ts : List Tm) : PyData.eqv (.list (ts.map Tm.data)) (.list (ts.map Tm.data)) = true := eqvAll_self fun d hd => by
  obtain ⟨x, _, rfl⟩ := List.mem_map.mp hd
  rw [Tm.eqv]; exact decide_eq_true rfl
theorem tms_depth {ts : List Tm} {n : Nat} (h : ∀ t ∈ ts, t.deep ≤ n) : (PyData.list (ts.map Tm.data)).depth ≤ n + 1 := depth_list fun d hd => by
  obtain ⟨x, hx, rfl⟩ := List.mem_map.mp hd
  rw [Tm.depth]; exact h x hx
end Ken
set_option Elab.async false
set_option linter.all false
set_option maxRecDepth 100000
set_option maxHeartbeats 2000000
namespace L2
open PySem PySem.Spec PyProof.Rows
section
variable {X : Cx}
def rInsert : V → List V → Hp → VK → Prop := fun x vs H Q => ∃ (l : Addr) (xs : List V) (k : Nat) (y : V), x = .ref l ∧ vs = [.int (k : Nat), y] ∧ H l = some (.lst xs) ∧ k ≤ xs.length ∧ xs.length < 1000000 ∧ Q .non (upd H l (.lst (xs.take k ++ y :: xs.drop k)))
end
end L2
namespace Ken
open PySem L2
def pl (ts : List Str) : Tm → Bool
  | .low => false
  | .ltr x => decide (x ∈ ts)
  | .nd .both a b => pl ts a && pl ts b
  | .nd .one a b => pl ts a || pl ts b
  | .nd .thn a b => !pl ts a || pl ts b
end Ken
namespace Ken
open PySem L2
theorem strs_lay {xs : List Str} (h : ∀ y ∈ xs, Word y) : (PyData.list (xs.map PyData.str)).canLay0 = true := canLay_list fun d hd => by
  obtain ⟨y, hy, rfl⟩ := List.mem_map.mp hd
  exact Word.strOk (h y hy)
theorem strs_depth (xs : List Str) : (PyData.list (xs.map PyData.str)).depth ≤ 1 := depth_list (n := 0) fun d hd => by
  obtain ⟨y, hy, rfl⟩ := List.mem_map.mp hd
  exact Nat.le_refl _
theorem strs_self (xs : List Str) : PyData.eqv (.list (xs.map PyData.str)) (.list (xs.map PyData.str)) = true := eqvAll_self fun d hd => by
  obtain ⟨y, _, rfl⟩ := List.mem_map.mp hd
  exact str_self y
end Ken
namespace Ken
open PySem L2
end Ken
set_option Elab.async false
set_option linter.all false
set_option maxRecDepth 100000
set_option maxHeartbeats 2000000
namespace Ken
open PySem L2 PyProof.Rows
theorem uniqS : ∀ {l m : List Str}, l.Pairwise (fun a b => sLt a b = true) → m.Pairwise (fun a b => sLt a b = true) → (∀ x, x ∈ l ↔ x ∈ m) → l = m
  | [], m, _, _, h => by
    cases m with
    | nil => rfl
    | cons y m => exact absurd ((h y).mpr List.mem_cons_self) (by simp)
  | x :: l, [], _, _, h => absurd ((h x).mp List.mem_cons_self) (by simp)
  | x :: l, y :: m, hl, hm, h => by
    rw [List.pairwise_cons] at hl hm
    have e : x = y := by
      by_cases e : x = y
      · exact e
      have h1 : x ∈ m := ((List.mem_cons.mp ((h x).mp List.mem_cons_self)).resolve_left e)
      have h2 : y ∈ l := ((List.mem_cons.mp ((h y).mpr List.mem_cons_self)).resolve_left fun z => e z.symm)
      have a1 := hm.1 x h1
      have a2 := sLt_asym (hl.1 y h2)
      rw [a1] at a2; cases a2
    subst e
    have nx : ∀ {k : List Str}, (∀ a ∈ k, sLt x a = true) → x ∉ k := fun hk z => by
      have := hk x z
      rw [sLt_irr] at this; cases this
    rw [uniqS hl.2 hm.2 fun z => ⟨fun hz => ((List.mem_cons.mp ((h z).mp (List.mem_cons_of_mem _ hz))).resolve_left fun e => nx hl.1 (e ▸ hz)), fun hz => ((List.mem_cons.mp ((h z).mpr (List.mem_cons_of_mem _ hz))).resolve_left fun e => nx hm.1 (e ▸ hz))⟩]
theorem rising_pw : ∀ {p : Str} {l : List Str}, risingS p l = true → (p :: l).Nodup → (p :: l).Pairwise (fun a b => sLt a b = true)
  | p, [], _, _ => List.pairwise_singleton _ _
  | p, x :: l, h, hn => by
    have h' : (!PySem.Spec.ltCps x.cps.toList p.cps.toList && risingS x l) = true := h
    rw [Bool.and_eq_true] at h'
    rw [List.nodup_cons] at hn
    have ih := rising_pw h'.2 hn.2
    have hpx : p ≠ x := fun z => hn.1 (by rw [z]; exact List.mem_cons_self)
    have lt : sLt p x = true := by
      rcases sLt_tot hpx with z | z
      · exact z
      · exfalso
        have h1 := h'.1
        rw [ltCps_eq] at h1
        have z' : decide (x.cps.toList < p.cps.toList) = true := z
        rw [z'] at h1; cases h1
    rw [List.pairwise_cons] at ih ⊢
    refine ⟨fun y hy => ?_, List.pairwise_cons.mpr ih⟩
    rcases List.mem_cons.mp hy with z | z
    · rw [z]; exact lt
    · exact sLt_trans lt (ih.1 y z)
theorem sorted_pw {l : List Str} (h : sortedS l = true) (hn : l.Nodup) : l.Pairwise (fun a b => sLt a b = true) := by
  cases l with
  | nil => exact .nil
  | cons p l => exact rising_pw h hn
theorem sorted_uniq {l m : List Str} (hl : sortedS l = true) (nl : l.Nodup) (hm : sortedS m = true) (nm : m.Nodup) (h : ∀ x, x ∈ l ↔ x ∈ m) : l = m := uniqS (sorted_pw hl nl) (sorted_pw hm nm) h
def fdeep : List Tm → Nat
  | [] => 0
  | t :: r => max t.deep (fdeep r)
theorem fdeep_app : ∀ l m : List Tm, fdeep (l ++ m) = max (fdeep l) (fdeep m)
  | [], m => by show fdeep m = max 0 (fdeep m); omega
  | x :: l, m => by show max x.deep (fdeep (l ++ m)) = max (max x.deep (fdeep l)) (fdeep m); rw [fdeep_app l m]; omega
theorem deep_kids (t : Tm) : t.deep = 1 + fdeep t.kids := by
  cases t with
  | low => rfl
  | ltr w => rfl
  | nd k a b => show 1 + max a.deep b.deep = 1 + max a.deep (max b.deep 0); omega
theorem fdeep_kids : ∀ {l : List Tm}, l ≠ [] → fdeep l = 1 + fdeep (l.flatMap Tm.kids)
  | [], h => absurd rfl h
  | [x], _ => by
    show max x.deep 0 = 1 + fdeep (x.kids ++ [])
    rw [List.append_nil, ← deep_kids]; omega
  | x :: y :: l, _ => by
    have ih := fdeep_kids (l := y :: l) (by simp)
    show max x.deep (fdeep (y :: l)) = 1 + fdeep (x.kids ++ (y :: l).flatMap Tm.kids)
    rw [fdeep_app, ih, deep_kids x]; omega
def sp_parts (K : PySem.W.Frag) : Sp := fun vs H Q _ => ∃ (v : V) (t : Tm), vs = [v] ∧ IsT K H v t ∧ t.parts ≤ 400 ∧ ∀ H', Same H H' → Q (.int (t.parts : Nat)) H'
def sp_deep (K : PySem.W.Frag) : Sp := fun vs H Q _ => ∃ (v : V) (t : Tm), vs = [v] ∧ IsT K H v t ∧ t.parts ≤ 400 ∧ ∀ H', Same H H' → Q (.int (t.deep : Nat)) H'
def sp_depthL (K : PySem.W.Frag) : Sp := fun vs H Q _ => ∃ (v : V) (t : Tm), vs = [v] ∧ IsT K H v t ∧ t.ok ∧ t.parts ≤ 400 ∧ ∀ H', Same H H' → Q (.int (t.deep : Nat)) H'
def sp_counted (K : PySem.W.Frag) : Sp := fun vs H Q _ => ∃ (v : V) (t : Tm) (us : List Str), vs = [v] ∧ IsT K H v t ∧ t.ok ∧ t.parts ≤ 300 ∧ t.deep ≤ 47 ∧ t.inW us ∧ us.length ≤ 6 ∧ ∀ H', Same H H' → Q (.bl true) H'
theorem AllIn.all {t : Tm} {ts : List Tm} (h : AllIn t ts) : ∀ s ∈ t.pre, s ∈ ts := by
  have gen : ∀ u : Tm, u ∈ ts → ∀ s ∈ u.pre, s ∈ ts := by
    intro u
    induction u with
    | low => intro hu s hs; have : s = .low := by simpa [Tm.pre] using hs
             rw [this]; exact hu
    | ltr w => intro hu s hs; have : s = .ltr w := by simpa [Tm.pre] using hs
               rw [this]; exact hu
    | nd k a b iha ihb =>
      intro hu s hs
      rw [Tm.pre_eq] at hs
      have hs' : s ∈ Tm.nd k a b :: [a, b].flatMap Tm.pre := hs
      simp only [List.mem_cons, List.flatMap_cons, List.flatMap_nil, List.append_nil, List.mem_append] at hs'
      rcases hs' with z | z | z
      · rw [z]; exact hu
      · exact iha (h.kids _ hu a (by simp [Tm.kids])) s z
      · exact ihb (h.kids _ hu b (by simp [Tm.kids])) s z
  exact gen t (List.mem_of_getElem? h.head)
theorem AllIn.ltrs {t : Tm} {ts : List Tm} (h : AllIn t ts) (x : Str) : x ∈ ts.flatMap Tm.here ↔ x ∈ t.ltrs := by
  rw [← pre_here, List.mem_flatMap, List.mem_flatMap]
  exact ⟨fun ⟨s, hs, hx⟩ => ⟨s, h.pre s hs, hx⟩, fun ⟨s, hs, hx⟩ => ⟨s, h.all s hs, hx⟩⟩
def AtP (K : PySem.W.Frag) (H : Hp) (v : V) (x : Tm × Nat) : Prop := ∃ p u, v = .ref p ∧ SqT K H p [u, .int (x.2 : Nat)] ∧ IsT K H u x.1
theorem AtP.keep {K : PySem.W.Frag} {H H' : Hp} (k : KeepT K H H') {v : V} {x : Tm × Nat} (h : AtP K H v x) : AtP K H' v x := by
  obtain ⟨p, u, e, h1, h2⟩ := h
  exact ⟨p, u, e, k _ _ h1, h2.keep k⟩
def apD (x : Tm × Nat) : PyData := .tuple [x.1.data, .int (x.2 : Nat)]
theorem ap_dn {K : PySem.W.Frag} {H : Hp} : ∀ {vs : List V} {xs : List (Tm × Nat)}, Paired (AtP K H) vs xs → DnAll K H vs (xs.map apD)
  | _, _, .nil => by rw [List.map_nil, DnAll]
  | _, _, .cons h t => by
    rw [List.map_cons, DnAll]
    refine ⟨_, _, rfl, ?_, ap_dn t⟩
    obtain ⟨p, u, e, h1, h2⟩ := h
    show Dn K H _ (.tuple [_, _])
    rw [Dn]
    refine ⟨p, _, e, h1, ?_⟩
    rw [DnAll]
    refine ⟨_, _, rfl, h2, ?_⟩
    rw [DnAll]
    exact ⟨_, _, rfl, by rw [Dn], by rw [DnAll]⟩
theorem ap_lay {xs : List (Tm × Nat)} (h : ∀ x ∈ xs, x.1.ok) : (PyData.list (xs.map apD)).canLay0 = true := canLay_list fun d hd => by
  obtain ⟨x, hx, rfl⟩ := List.mem_map.mp hd
  show (x.1.data.canLay0 && ((PyData.int (x.2 : Nat)).canLay0 && true)) = true
  rw [x.1.lay (h x hx)]; rfl
theorem ap_nil (xs : List (Tm × Nat)) : PyData.eqv (.list (xs.map apD)) (.list []) = xs.isEmpty := by cases xs <;> rfl
def pdeep : List (Tm × Nat) → Nat
  | [] => 0
  | x :: r => max (x.2 + x.1.deep) (pdeep r)
theorem pdeep_app : ∀ l m : List (Tm × Nat), pdeep (l ++ m) = max (pdeep l) (pdeep m)
  | [], m => by show pdeep m = max 0 (pdeep m); omega
  | x :: l, m => by show max (x.2 + x.1.deep) (pdeep (l ++ m)) = max (max (x.2 + x.1.deep) (pdeep l)) (pdeep m); rw [pdeep_app l m]; omega
theorem paired_snocK {α β : Type} {F : α → β → Prop} : ∀ {l : List α} {m : List β} {y : β}, Paired F l (m ++ [y]) → ∃ l' x, l = l' ++ [x] ∧ Paired F l' m ∧ F x y
  | _, [], _, h => by
    cases h with
    | cons hx t => cases t; exact ⟨[], _, rfl, .nil, hx⟩
  | _, z :: m, _, h => by
    cases h with
    | cons hx t =>
      obtain ⟨l', x, rfl, h1, h2⟩ := paired_snocK t
      exact ⟨_ :: l', x, rfl, .cons hx h1, h2⟩
theorem max_int (i d : Nat) : (if ((d : Nat) : Int) > ((i : Nat) : Int) then ((d : Nat) : Int) else ((i : Nat) : Int)) = ((max i d : Nat) : Int) := by
  split <;> omega
theorem ltrs_ok : ∀ {t : Tm}, t.ok → ∀ x ∈ t.ltrs, Word x
  | .low, _, x, hx => by simp [Tm.ltrs] at hx
  | .ltr w, h, x, hx => by
    have e : x = w := by simpa [Tm.ltrs] using hx
    rw [e]; exact h
  | .nd k a b, h, x, hx => by
    have hx' : x ∈ a.ltrs ++ b.ltrs := hx
    rcases List.mem_append.mp hx' with z | z
    · exact ltrs_ok h.1 x z
    · exact ltrs_ok h.2 x z
theorem here_len (t : Tm) : t.here.length ≤ 1 := by cases t <;> simp [Tm.here]
theorem heres_len : ∀ l : List Tm, (l.flatMap Tm.here).length ≤ l.length
  | [] => Nat.le_refl _
  | x :: l => by
    rw [List.flatMap_cons, List.length_append, List.length_cons]
    have := here_len x
    have := heres_len l
    omega
end Ken
namespace Ken
open PySem L2
def sp_listL (K : PySem.W.Frag) : Sp := fun vs H Q _ => ∃ (a ls : Addr) (ns : List Int) (xs : List V) (ss : List Tm), vs = [.ref a, .ref ls] ∧ SqL K H a (ns.map V.int) ∧ ns.length ≤ 63 ∧ H ls = some (.lst xs) ∧ Paired (IsT K H) xs ss ∧ 1 ≤ ss.length ∧ ss.length ≤ 3 ∧ (∀ s ∈ ss, s.parts ≤ 300) ∧
  ∀ (r : Addr) (H' : Hp) (us : List V) (os : List Tm), Same H H' → H r = none → H' r = some (.lst us) → Paired (IsT K H') us os → os.length ≤ 44 → (∀ o ∈ os, ∃ s ∈ ss, o ∈ s.pre) → Q (.ref r) H'
def sp_sonce (K : PySem.W.Frag) : Sp := fun vs H Q _ => ∃ (f r : Addr) (us rs : List V) (os ts : List Tm), vs = [.ref f, .ref r] ∧ H f = some (.lst us) ∧ H r = some (.lst rs) ∧ Paired (IsT K H) us os ∧ Paired (IsT K H) rs ts ∧ os.Nodup ∧ sortedT os ∧ (∀ t, t ∈ os ↔ t ∈ ts) ∧ (∀ t ∈ ts, t.ok ∧ t.deep ≤ 47) ∧ os.length ≤ 100 ∧ ts.length ≤ 100 ∧ ∀ H', Same H H' → Q (.bl true) H'
theorem cut_initA (xs : List V) : cutV xs none (some (-1)) = xs.dropLast := by
  cases xs with
  | nil => rfl
  | cons x r => exact cut_init (by rw [List.length_cons]; omega)
theorem cut_tailA (xs : List V) : cutV xs (some 1) none = xs.tail := by
  cases xs with
  | nil => rfl
  | cons x r => exact cut_tail (by rw [List.length_cons]; omega)
theorem at_mod {xs : List V} {c m : Int} (h0 : 0 < m) (h1 : m ≤ (xs.length : Int)) : ∃ j, j < xs.length ∧ ∀ v, xs[j]? = some v → atI xs (c % m) = some v := by
  have b0 := Int.emod_nonneg c (show m ≠ 0 by omega)
  have b1 := Int.emod_lt_of_pos c h0
  refine ⟨(c % m).toNat, by omega, fun v hv => ?_⟩
  have := atI_nat hv
  rw [Int.toNat_of_nonneg b0] at this
  exact this
theorem uniqR {α : Type} [DecidableEq α] {lt : α → α → Bool} (asym : ∀ a b, lt a b = true → lt b a = false) : ∀ {l m : List α}, l.Pairwise (fun a b => lt a b = true) → m.Pairwise (fun a b => lt a b = true) → (∀ x, x ∈ l ↔ x ∈ m) → l = m
  | [], m, _, _, h => by
    cases m with
    | nil => rfl
    | cons y m => exact absurd ((h y).mpr List.mem_cons_self) (by simp)
  | x :: l, [], _, _, h => absurd ((h x).mp List.mem_cons_self) (by simp)
  | x :: l, y :: m, hl, hm, h => by
    rw [List.pairwise_cons] at hl hm
    have e : x = y := by
      by_cases e : x = y
      · exact e
      have h1 : x ∈ m := ((List.mem_cons.mp ((h x).mp List.mem_cons_self)).resolve_left e)
      have h2 : y ∈ l := ((List.mem_cons.mp ((h y).mpr List.mem_cons_self)).resolve_left fun z => e z.symm)
      have a1 := hm.1 x h1
      have a2 := asym _ _ (hl.1 y h2)
      rw [a1] at a2; cases a2
    subst e
    have nx : ∀ {k : List α}, (∀ a ∈ k, lt x a = true) → x ∉ k := fun hk z => by
      have a1 := hk x z
      have a2 := asym _ _ a1
      rw [a1] at a2; cases a2
    rw [uniqR asym hl.2 hm.2 fun z => ⟨fun hz => ((List.mem_cons.mp ((h z).mp (List.mem_cons_of_mem _ hz))).resolve_left fun e => nx hl.1 (e ▸ hz)), fun hz => ((List.mem_cons.mp ((h z).mpr (List.mem_cons_of_mem _ hz))).resolve_left fun e => nx hm.1 (e ▸ hz))⟩]
theorem uniqT {l m : List Tm} (hl : sortedT l) (hm : sortedT m) (h : ∀ x, x ∈ l ↔ x ∈ m) : l = m := by
  unfold sortedT at hl hm
  exact uniqR (lt := fun a b => lexT a.spell b.spell) (fun a b z => lexT_asym z) hl hm h
end Ken
set_option Elab.async false
set_option linter.all false
set_option maxRecDepth 100000
set_option maxHeartbeats 2000000
namespace L2
open PySem PySem.Spec PyProof.Rows
section
variable {prog : Program} {w : World} {A : Around} {E : Value → Shared → Prop} {s : Shared}
end
end L2
set_option Elab.async false
set_option linter.all false
set_option maxRecDepth 100000
set_option maxHeartbeats 2000000
namespace L2
open PySem PySem.Spec PyProof.Rows
section
variable {prog : Program} {w : World} {A : Around} {E : Value → Shared → Prop} {s : Shared}
end
end L2
set_option Elab.async false
set_option linter.all false
set_option maxRecDepth 100000
set_option maxHeartbeats 2000000
namespace L2
open PySem PySem.Spec PyProof.Rows
def ItzT (K : PySem.W.Frag) (a b : Addr) : It :=
  ⟨fun i H => ∃ xs ys x y, SqT K H a xs ∧ SqT K H b ys ∧ xs[i]? = some x ∧ ys[i]? = some y,
   fun i H v H' => ∃ T x y, v = .ref T ∧ H T = none ∧ H' = upd H T (.tup [x, y]) ∧ (∀ xs, SqT K H a xs → xs[i]? = some x) ∧ ∀ ys, SqT K H b ys → ys[i]? = some y,
   fun i H => ∃ xs ys, SqT K H a xs ∧ SqT K H b ys ∧ xs.length ≤ i⟩
section
variable {X : Cx}
def iZipT (K : PySem.W.Frag) (ta : TA) : TI := fun σ H R => ta σ H fun vs H1 => ∃ a b, vs = [.ref a, .ref b] ∧ (∃ xs, SqT K H1 a xs) ∧ (∃ ys, SqT K H1 b ys) ∧ R (ItzT K a b) H1
end
end L2
namespace KLaw
open PySem L2 Ken
set_option Elab.async false
set_option linter.all false
set_option maxRecDepth 100000
set_option maxHeartbeats 4000000
local macro_rules | `(tactic| walk_at "rdx_1") => `(tactic| simp only [tSeq, tAsg, gName, tVar, tC, tOp, rI0, rI, rU, tUn, tRet, tRetN, tIfS, tTest, tB, tNext, tCons, tNil, tCB, tCall, tTup, tLst, tDrop, tAug, ipI, tAnd, tOr, tNot, tAndV, tOrV, tNotV, tBM, tBM0, rAppend, rExtend, rPop, rIxL, rIxT, rIxS, rCat, rEq, rNe, rMulS, tSl, rSlL, rSlS, tPart, tNoPart, tRev, rJoin, tDGet, tDisp, tPairs, tFs, tFv, tFc, tF0, tKD, rIsi, rEqD, tNever, tChain, rIn, rSetL, gSub, iEnum, iStr, tKNotIn, tDIn, tDNotIn, sDPut, gTup, gCons, gNil, iRng1, iRng2, iList, iTup, iZip, rRevd, L2.start, capt,
  List.map_cons, List.map_nil, List.length_cons, List.length_nil, List.cons_append, List.nil_append, List.append_nil, List.replicate_succ, List.replicate_zero, Nat.reduceAdd, Nat.reduceSub, Nat.zero_add, Nat.add_zero, Nat.sub_zero, Nat.sub_self, List.getElem?_cons_zero, List.getElem?_cons_succ, List.getElem?_nil, List.set_cons_zero, List.set_cons_succ, Option.some.injEq, V.int.injEq, V.str.injEq, V.ref.injEq, V.bl.injEq, V.ty.injEq, List.cons.injEq, and_true, true_and, exists_eq_left', exists_eq_left, exists_and_left, exists_eq, exists_eq', and_assoc, Option.join_some, Option.join_none, scal_int, scal_str, scal_bl, cxOf_K, blk_K, decide_eq_true_eq])
local macro_rules | `(tactic| walk_at "rd") => `(tactic| walk_at "rdx_1")
local macro_rules | `(tactic| walk_at "rdx_2") => `(tactic| simp only [tFor, tLC, tVar, tC, tOp, rI0, rI, rU, tUn, tTest, tB, tCons, tNil, tCB, tCall, tTup, tLst, ipI, tAnd, tOr, tNot, tAndV, tOrV, tNotV, tBM, tBM0, rAppend, rExtend, rPop, rIxL, rIxT, rIxS, rCat, rEq, rNe, rMulS, tSl, rSlL, rSlS, tPart, tNoPart, tRev, rJoin, tDGet, tDisp, tPairs, tFs, tFv, tFc, tF0, tKD, rIsi, rEqD, tNever, tChain, rIn, rSetL, iEnum, iStr, tKNotIn, tDIn, tDNotIn, iRng1, iRng2, iList, iTup, iZip, rRevd, L2.start, capt,
  List.map_cons, List.map_nil, List.length_cons, List.length_nil, List.cons_append, List.nil_append, List.append_nil, List.replicate_succ, List.replicate_zero, Nat.reduceAdd, Nat.reduceSub, Nat.zero_add, Nat.add_zero, Nat.sub_zero, Nat.sub_self, List.getElem?_cons_zero, List.getElem?_cons_succ, List.getElem?_nil, List.set_cons_zero, List.set_cons_succ, Option.some.injEq, V.int.injEq, V.str.injEq, V.ref.injEq, V.bl.injEq, V.ty.injEq, List.cons.injEq, and_true, true_and, exists_eq_left', exists_eq_left, exists_and_left, exists_eq, exists_eq', and_assoc, Option.join_some, Option.join_none, scal_int, scal_str, scal_bl, cxOf_K, blk_K, decide_eq_true_eq])
local macro_rules | `(tactic| walk_at "ri") => `(tactic| walk_at "rdx_2")
def top (i : Nat) : Stmt := PySem.Challenge.pw_ken_k01_parts_and_letters.main.body.getD i (.Pass ⟨0, 0, 0, 0⟩)
abbrev s__law_mix : Stmt := top 12
theorem sc__law_mix : FnScope ["_law_cell_here", "_law_k", "_law_first"] ["_law_cell_here", "_law_k"] (defScope s__law_mix) := ⟨rfl, rfl, rfl, by decide +kernel, rfl, by decide +kernel, by decide +kernel⟩
abbrev s__law_cell : Stmt := top 13
theorem sc__law_cell : FnScope ["_law_script", "_law_k", "_law_cell_here"] ["_law_script", "_law_k"] (defScope s__law_cell) := ⟨rfl, rfl, rfl, by decide +kernel, rfl, by decide +kernel, by decide +kernel⟩
abbrev s__law_words : Stmt := top 14
theorem sc__law_words : FnScope ["_law_cell_here", "_law_many", "_law_some", "_law_size", "_law_at", "_law_start"] ["_law_cell_here", "_law_many"] (defScope s__law_words) := ⟨rfl, rfl, rfl, by decide +kernel, rfl, by decide +kernel, by decide +kernel⟩
section
variable {P : Program} {w : World} {K : PySem.W.Frag} {mg : Str → Option Value} {base : Heap}
theorem ok__law_mix {k : Nat} {f__law_mix : Addr} {fd__law_mix : FuncData} (F__law_mix : Fun K "_law_mix" "_law_mix" s__law_mix f__law_mix fd__law_mix) : FnOk P w K mg base CX0 (k + 1) f__law_mix fd__law_mix ["_law_cell_here", "_law_k"] sp_mix := by
  refine F__law_mix.ok sc__law_mix (fun vs H Q E h => ?_) (fun cdv A outer s H vs Q E hr h => ?_)
  · obtain ⟨c, k, rfl, _⟩ := h
    rfl
  obtain ⟨c, k, rfl, h0, h1, q⟩ := h
  refine ⟨_, (pss_cons (ps_set (i := 2) sc__law_mix.nd rfl (Or.inl rfl) (pe_op op_mod (pe_op op_mul (pe_op op_add (pv 0) pe_int) (pe_op op_add pe_int (pe_op op_mul pe_int (pv 1)))) pe_int))
  (pss_one (ps_ret (pe_op op_mod (pe_op op_add (pe_op op_add (pe_op op_mul (pe_op op_fdiv (pv 2) pe_int) pe_int) (pe_op op_mul (pv 2) (pe_op op_add (pe_op op_mul (pv 1) (pv 1)) pe_int))) (pv 1)) pe_int)))), ?_⟩
  walk_at "rd"
  have a0 : 0 ≤ (c + 1) * (48271 + 118 * k) % 2147483629 := Int.emod_nonneg _ (by decide)
  have a1 : (c + 1) * (48271 + 118 * k) % 2147483629 < 2147483629 := Int.emod_lt_of_pos _ (by decide)
  refine ⟨mul_left (by decide) (by decide), mul_right (by omega) (by omega), by decide, ⟨by decide, by decide⟩, mul_right (by decide) (by decide), mul_left (by omega) (by omega), mul_left (by omega) (by omega), by decide, ?_⟩
  exact q
theorem ok__law_cell {k : Nat} {f__law_cell : Addr} {fd__law_cell : FuncData} (F__law_cell : Fun K "_law_cell" "_law_cell" s__law_cell f__law_cell fd__law_cell) {f__law_mix : Addr} {fd__law_mix : FuncData} (G__law_mix : FnOk P w K mg base CX0 k f__law_mix fd__law_mix ["_law_cell_here", "_law_k"] (sp_mix)) (m__law_mix : mg "_law_mix" = some (.ref f__law_mix)) (k__law_mix : PySem.W.keepIn K (.ref f__law_mix) = true) (b__law_mix : Binds K fd__law_mix ["_law_cell_here", "_law_k"] []) (m_len : mg "len" = none) : FnOk P w K mg base CX0 (k + 1) f__law_cell fd__law_cell ["_law_script", "_law_k"] (sp_cell K) := by
  refine F__law_cell.ok sc__law_cell (fun vs H Q E h => ?_) (fun cdv A outer s H vs Q E hr h => ?_)
  · obtain ⟨a, ns, k, rfl, _⟩ := h
    rfl
  obtain ⟨a, ns, j, rfl, hS, h63, h0, h1, q⟩ := h
  refine ⟨_, (pss_cons (ps_set (i := 2) sc__law_cell.nd rfl (Or.inl rfl) pe_int)
  (pss_cons (ps_if (pt_cmpR (op_lt) (pv 1) (pe_callB call_len_seq (by exact rfl) m_len Ken.boot_len (pa_cons (pv 0) pa_nil)) (nomark _))
    (pss_one (ps_set (i := 2) sc__law_cell.nd rfl (Or.inl rfl) (pe_op op_mod (pe_ix ix_list (pv 0) (pv 1) (fun _ _ => rfl)) pe_int)))
    pss_nil)
  (pss_one (ps_ret (pe_call G__law_mix hr (by exact rfl) m__law_mix k__law_mix b__law_mix .nil pass0 (pa_cons (pv 2) (pa_cons (pe_op op_add (pv 1) pe_int) pa_nil))))))), ?_⟩
  walk_at "rd"
  refine ⟨_, .inl hS, ?_⟩
  rw [List.length_map]
  have e : cellOf ns j = mix (if j < (ns.length : Int) then (ns[j.toNat]?.getD 0) % 2147483647 else 0) (j + 101) := rfl
  refine ite2 (fun c => ?_) (fun c => ?_)
  · rw [if_pos c] at e
    have hj : j.toNat < ns.length := by omega
    refine ⟨_, hS, V.int (ns[j.toNat]), ?_, _, rfl, by decide, ?_⟩
    · have ej : j = ((j.toNat : Nat) : Int) := by omega
      have q : atI (ns.map V.int) ((j.toNat : Nat) : Int) = some (.int ns[j.toNat]) := atI_nat (by rw [List.getElem?_map, List.getElem?_eq_getElem hj] <;> rfl)
      rw [← ej] at q
      exact q
    · rw [List.getElem?_eq_getElem hj] at e
      rw [e] at q
      exact ⟨_, _, rfl, by omega, by omega, q⟩
  · rw [if_neg c] at e
    rw [e] at q
    exact ⟨_, _, rfl, by omega, by omega, q⟩
end
set_option Elab.async false
set_option linter.all false
set_option maxRecDepth 100000
set_option maxHeartbeats 4000000
local macro_rules | `(tactic| walk_at "rd") => `(tactic| walk_at "rdx_1")
local macro_rules | `(tactic| walk_at "ri") => `(tactic| walk_at "rdx_2")
abbrev s_within : Stmt := top 3
theorem sc_within : FnScope ["statement"] ["statement"] (defScope s_within) := ⟨rfl, rfl, rfl, by decide +kernel, rfl, by decide +kernel, by decide +kernel⟩
abbrev s_pieces : Stmt := top 4
theorem sc_pieces : FnScope ["statement", "found", "waiting", "piece"] ["statement"] (defScope s_pieces) := ⟨rfl, rfl, rfl, by decide +kernel, rfl, by decide +kernel, by decide +kernel⟩
section
variable {P : Program} {w : World} {K : PySem.W.Frag} {mg : Str → Option Value} {base : Heap}
theorem ok_within {k : Nat} {f_within : Addr} {fd_within : FuncData} (F_within : Fun K "within" "within" s_within f_within fd_within) {aPAIRED : Addr} (m_PAIRED : mg "PAIRED" = some (.ref aPAIRED)) (t_PAIRED : ∀ H, SqT K H aPAIRED [.str "both", .str "one", .str "then"]) : FnOk P w K mg base CX0 (k + 1) f_within fd_within ["statement"] (sp_within K) := by
  refine F_within.ok sc_within (fun vs H Q E h => ?_) (fun cdv A outer s H vs Q E hr h => ?_)
  · obtain ⟨v, t, rfl, _⟩ := h
    rfl
  obtain ⟨v, t, rfl, hT, q⟩ := h
  refine ⟨_, (pss_cons (ps_if (pt_cmpR (op_in_seq) (pe_ix ix_tup (pv 0) pe_int (fun _ _ => rfl)) (pe_glob (v := .ref aPAIRED) (by exact rfl) m_PAIRED (by exact rfl)) (by with_unfolding_all rfl))
    (pss_one (ps_ret (pe_lst (pa_cons (pe_ix ix_tup (pv 0) pe_int (fun _ _ => rfl)) (pa_cons (pe_ix ix_tup (pv 0) pe_int (fun _ _ => rfl)) pa_nil)))))
    pss_nil)
  (pss_one (ps_ret (pe_lst pa_nil)))), ?_⟩
  walk_at "rd"
  cases t with
  | low =>
    obtain ⟨a, rfl, hs⟩ := isT_low.mp hT
    refine ⟨a, rfl, _, hs, _, rfl, _, .inr (t_PAIRED H), rfl, rfl, ?_⟩
    rw [if_neg (by decide)]
    exact ⟨by decide, fun p hp => q p _ _ (same_new hp _) hp upd_same .nil⟩
  | ltr x =>
    obtain ⟨a, rfl, hs⟩ := isT_ltr.mp hT
    refine ⟨a, rfl, _, hs, _, rfl, _, .inr (t_PAIRED H), rfl, rfl, ?_⟩
    rw [if_neg (by decide)]
    exact ⟨by decide, fun p hp => q p _ _ (same_new hp _) hp upd_same .nil⟩
  | nd kd x y =>
    obtain ⟨a, vx, vy, rfl, hs, hx, hy⟩ := isT_nd.mp hT
    refine ⟨a, rfl, _, hs, _, rfl, _, .inr (t_PAIRED H), rfl, rfl, ?_⟩
    rw [if_pos (by cases kd <;> decide)]
    exact ⟨a, rfl, _, hs, _, rfl, a, rfl, _, hs, _, rfl, by decide, fun p hp => q p _ _ (same_new hp _) hp upd_same (.cons (hx.keep (keepT_new hp)) (.cons (hy.keep (keepT_new hp)) .nil))⟩
end
set_option Elab.async false
set_option linter.all false
set_option maxRecDepth 100000
set_option maxHeartbeats 4000000
local macro_rules | `(tactic| walk_at "rd") => `(tactic| walk_at "rdx_1")
local macro_rules | `(tactic| walk_at "ri") => `(tactic| walk_at "rdx_2")
def sumP (ts : List Tm) : Nat := (ts.map Tm.parts).sum
theorem sumP_cons (t : Tm) (ts : List Tm) : sumP (t :: ts) = t.parts + sumP ts := by unfold sumP; rw [List.map_cons, List.sum_cons]
theorem sumP_app (a b : List Tm) : sumP (a ++ b) = sumP a + sumP b := by unfold sumP; rw [List.map_append, List.sum_append]
theorem sumP_kids (t : Tm) : sumP t.kids + 1 = t.parts := by
  cases t with
  | low => rfl
  | ltr w => rfl
  | nd k a b => show sumP [a, b] + 1 = 1 + a.parts + b.parts; rw [sumP_cons, sumP_cons]; show a.parts + (b.parts + 0) + 1 = _; omega
theorem len_sumP : ∀ ts : List Tm, ts.length ≤ sumP ts
  | [] => Nat.le_refl _
  | t :: ts => by
    rw [sumP_cons, List.length_cons]
    have := len_sumP ts
    have := t.parts_pos
    omega
section
variable {P : Program} {w : World} {K : PySem.W.Frag} {mg : Str → Option Value} {base : Heap}
theorem ok_pieces {k : Nat} {f_pieces : Addr} {fd_pieces : FuncData} (F_pieces : Fun K "pieces" "pieces" s_pieces f_pieces fd_pieces) {f_within : Addr} {fd_within : FuncData} (G_within : FnOk P w K mg base CX0 k f_within fd_within ["statement"] (sp_within K)) (m_within : mg "within" = some (.ref f_within)) (k_within : PySem.W.keepIn K (.ref f_within) = true) (b_within : Binds K fd_within ["statement"] []) : FnOk P w K mg base CX0 (k + 1) f_pieces fd_pieces ["statement"] (sp_pieces K) := by
  refine F_pieces.ok sc_pieces (fun vs H Q E h => ?_) (fun cdv A outer s H vs Q E hr h => ?_)
  · obtain ⟨v, t, rfl, _⟩ := h
    rfl
  obtain ⟨v, t, rfl, hT, hp, q⟩ := h
  refine ⟨_, (pss_cons (ps_set (i := 1) sc_pieces.nd rfl (Or.inl rfl) (pe_lst pa_nil))
  (pss_cons (ps_set (i := 2) sc_pieces.nd rfl (Or.inl rfl) (pe_lst (pa_cons (pv 0) pa_nil)))
  (pss_cons (ps_while PassesOwn.never (pt_truth (pv 2) (fun _ => rfl))
    (pss_cons (ps_set (i := 3) sc_pieces.nd rfl (Or.inl rfl) (pe_bm0 PySem.F.plainAttrs_list PySem.F.slot_list_pop PySem.F.type_list_pop mt_pop (pv 2)))
  (pss_cons (ps_expr (pe_bm PySem.F.plainAttrs_list PySem.F.slot_list_append PySem.F.type_list_append mt_append (pv 1) (pa_cons (pv 3) pa_nil)))
  (pss_one (ps_expr (pe_bm PySem.F.plainAttrs_list PySem.F.slot_list_extend PySem.F.type_list_extend mt_extend (pv 2) (pa_cons (pe_rev (pe_call G_within hr (by exact rfl) m_within k_within b_within .nil pass0 (pa_cons (pv 3) pa_nil)) (pe_un un_neg pe_int)) pa_nil)))))))
  (pss_one (ps_ret (pv 1)))))), ?_⟩
  walk_at "rd"
  refine ⟨by decide, fun lt hlt => ⟨by decide, fun lw hlw => ?_⟩⟩
  have hlw0 : H lw = none := (same_new hlt _).free hlw
  have hne : lw ≠ lt := fun z => by subst z; rw [upd_same] at hlw; cases hlw
  refine ⟨fun m σ' H' => ∃ st ts us ds x3, m = sumP ts ∧ σ' = [some v, some (.ref lt), some (.ref lw), x3] ∧ Same H H' ∧ H' lt = some (.lst us) ∧ H' lw = some (.lst st.reverse) ∧ Paired (IsT K H') st ts ∧ Paired (IsT K H') us ds ∧ ds ++ ts.flatMap Tm.pre = t.pre ∧ us.length + sumP ts ≤ 400,
    ⟨_, [v], [t], [], [], none, rfl, rfl, (same_new hlt _).trans (same_new hlw _), ?_, upd_same, .cons ((hT.keep (keepT_new hlt)).keep (keepT_new hlw)) .nil, .nil, ?_, ?_⟩, ?_⟩
  · rw [upd_ne (Ne.symm hne), upd_same]
  · show [] ++ (t.pre ++ []) = t.pre
    simp
  · show 0 + (t.parts + 0) ≤ 400
    omega
  rintro m σ1 H1 ⟨st, ts, us, ds, x3, rfl, rfl, e1, h1, h2, hd, hu, ht, hn⟩
  refine ⟨_, rfl, !st.reverse.isEmpty, .inl ⟨_, SqL.of h2, rfl⟩, ?_⟩
  cases hd with
  | nil =>
    rw [if_neg (by decide)]
    walk_at "rd"
    rw [List.flatMap_nil, List.append_nil] at ht
    rw [ht] at hu
    exact q lt H1 us e1 hlt h1 hu
  | @cons u i st is hi hst =>
    have hrev : (u :: st).reverse = st.reverse ++ [u] := List.reverse_cons
    rw [if_pos (by rw [hrev]; simp)]
    refine ⟨_, fun σ' H' z => z, ?_⟩
    walk_at "rd"
    rw [hrev] at h2
    have ne1 : lt ≠ lw := Ne.symm hne
    refine ⟨.inl ⟨rfl, _, SqL.of h2⟩, _, h2, u, by simp, ?_⟩
    rw [List.dropLast_concat]
    have k1 : KeepT K H1 (upd H1 lw (.lst st.reverse)) := keepT_lst h2
    rw [sumP_cons] at hn
    have pp := i.parts_pos
    have h1' : upd H1 lw (.lst st.reverse) lt = some (.lst us) := by rw [upd_ne ne1]; exact h1
    have k2 : KeepT K H1 (upd (upd H1 lw (.lst st.reverse)) lt (.lst (us ++ [u]))) := k1.trans (keepT_lst h1')
    refine ⟨.inl ⟨rfl, _, SqL.of h1'⟩, _, h1', small1M (by omega), ?_⟩
    have h2lw0 : upd (upd H1 lw (.lst st.reverse)) lt (.lst (us ++ [u])) lw = some (.lst st.reverse) := by rw [upd_ne hne, upd_same]
    refine ⟨.inl ⟨rfl, _, SqL.of h2lw0⟩, u, i, rfl, hi.keep k2, fun r H2 zs e2 hr0 hr2 hz => ?_⟩
    have h2lw := e2 lw _ h2lw0
    have h2lt := e2 lt _ upd_same
    have l1 := Paired.length hz
    have l2 := Paired.length hst
    have l3 := len_sumP is
    have l4 := len_sumP i.kids
    have l5 := sumP_kids i
    have E2 : Same H H2 := ((e1.write hlw0).write hlt).trans e2
    refine ⟨r, rfl, zs, SqL.of hr2, fun p hp => ⟨st.reverse, by rw [upd_ne (ne_of_none h2lw hp)]; exact h2lw, zs.reverse, upd_same, ?_, sumP (i.kids ++ is), ?_, zs ++ st, i.kids ++ is, rfl, ?_, us ++ [u], ?_, ?_, ?_, ds ++ [i], ?_, ?_, ?_⟩⟩
    · rw [List.length_reverse, List.length_reverse]
      exact Nat.le_of_lt (small1M (by omega))
    · rw [sumP_app, sumP_cons]; omega
    · exact (E2.trans (same_new hp _)).write hlw0
    · rw [upd_ne ne1, upd_ne (ne_of_none h2lt hp)]; exact h2lt
    · rw [upd_same, List.reverse_append]
    · have k3 : KeepT K H2 (upd (upd H2 p (.lst zs.reverse)) lw (.lst (st.reverse ++ zs.reverse))) := (keepT_new hp).trans (keepT_lst (by rw [upd_ne (ne_of_none h2lw hp)]; exact h2lw))
      exact paired_app (paired_keepT k3 hz) (paired_keepT ((k2.trans e2.keepT).trans k3) hst)
    · have k3 : KeepT K H2 (upd (upd H2 p (.lst zs.reverse)) lw (.lst (st.reverse ++ zs.reverse))) := (keepT_new hp).trans (keepT_lst (by rw [upd_ne (ne_of_none h2lw hp)]; exact h2lw))
      exact paired_keepT ((k2.trans e2.keepT).trans k3) (paired_app hu (.cons hi .nil))
    · rw [← ht, List.flatMap_append, List.flatMap_cons, Tm.pre_eq i]; simp
    · rw [List.length_append, List.length_singleton, sumP_app]; omega
end
set_option Elab.async false
set_option linter.all false
set_option maxRecDepth 100000
set_option maxHeartbeats 4000000
local macro_rules | `(tactic| walk_at "rdx_3") => `(tactic| simp only [tCompA, kAdd, iRngD, rRep, rIndexT, rInsert, rSetOf, rLtTm, tIf, rInT, iRev, tCallL, tComp, kNest, kTest, kApp, kPut, tSeq, tAsg, gName, tVar, tC, tOp, rI0, rI, rU, tUn, tRet, tRetN, tIfS, tTest, tB, tNext, tCons, tNil, tCB, tCall, tTup, tLst, tDrop, tAug, ipI, tAnd, tOr, tNot, tAndV, tOrV, tNotV, tBM, tBM0, rAppend, rExtend, rPop, rIxL, rIxT, rIxS, rCat, rEq, rNe, rMulS, tSl, rSlL, rSlS, tPart, tNoPart, tRev, rJoin, tDGet, tDisp, tPairs, tFs, tFv, tFc, tF0, tKD, rIsi, rEqD, tNever, tChain, rIn, rSetL, gSub, iEnum, iStr, tKNotIn, tDIn, tDNotIn, sDPut, gTup, gCons, gNil, iRng1, iRng2, iList, iTup, iZip, iZipT, rRevd, L2.start, capt,
  List.map_cons, List.map_nil, List.length_cons, List.length_nil, List.cons_append, List.nil_append, List.append_nil, List.replicate_succ, List.replicate_zero, Nat.reduceAdd, Nat.reduceSub, Nat.zero_add, Nat.add_zero, Nat.sub_zero, Nat.sub_self, List.getElem?_cons_zero, List.getElem?_cons_succ, List.getElem?_nil, List.set_cons_zero, List.set_cons_succ, Option.some.injEq, V.int.injEq, V.str.injEq, V.ref.injEq, V.bl.injEq, V.ty.injEq, List.cons.injEq, and_true, true_and, exists_eq_left', exists_eq_left, exists_and_left, exists_eq, exists_eq', and_assoc, Option.join_some, Option.join_none, scal_int, scal_str, scal_bl, cxOf_K, cxC_K, cxOf_prog, cxOf_w, blk_prog, blk_w, blk_K, decide_eq_true_eq])
local macro_rules | `(tactic| walk_at "rd") => `(tactic| walk_at "rdx_3")
local macro_rules | `(tactic| walk_at "rdx_4") => `(tactic| simp only [tCompA, kAdd, iRngD, rRep, rIndexT, rInsert, rSetOf, rLtTm, tIf, rInT, iRev, tCallL, tComp, kNest, kTest, kApp, kPut, tFor, tLC, tVar, tC, tOp, rI0, rI, rU, tUn, tTest, tB, tCons, tNil, tCB, tCall, tTup, tLst, ipI, tAnd, tOr, tNot, tAndV, tOrV, tNotV, tBM, tBM0, rAppend, rExtend, rPop, rIxL, rIxT, rIxS, rCat, rEq, rNe, rMulS, tSl, rSlL, rSlS, tPart, tNoPart, tRev, rJoin, tDGet, tDisp, tPairs, tFs, tFv, tFc, tF0, tKD, rIsi, rEqD, tNever, tChain, rIn, rSetL, iEnum, iStr, tKNotIn, tDIn, tDNotIn, iRng1, iRng2, iList, iTup, iZip, iZipT, rRevd, L2.start, capt,
  List.map_cons, List.map_nil, List.length_cons, List.length_nil, List.cons_append, List.nil_append, List.append_nil, List.replicate_succ, List.replicate_zero, Nat.reduceAdd, Nat.reduceSub, Nat.zero_add, Nat.add_zero, Nat.sub_zero, Nat.sub_self, List.getElem?_cons_zero, List.getElem?_cons_succ, List.getElem?_nil, List.set_cons_zero, List.set_cons_succ, Option.some.injEq, V.int.injEq, V.str.injEq, V.ref.injEq, V.bl.injEq, V.ty.injEq, List.cons.injEq, and_true, true_and, exists_eq_left', exists_eq_left, exists_and_left, exists_eq, exists_eq', and_assoc, Option.join_some, Option.join_none, scal_int, scal_str, scal_bl, cxOf_K, cxC_K, cxOf_prog, cxOf_w, blk_prog, blk_w, blk_K, decide_eq_true_eq])
local macro_rules | `(tactic| walk_at "ri") => `(tactic| walk_at "rdx_4")
abbrev s_parts : Stmt := top 5
theorem sc_parts : FnScope ["statement"] ["statement"] (defScope s_parts) := ⟨rfl, rfl, rfl, by decide +kernel, rfl, by decide +kernel, by decide +kernel⟩
abbrev s_deep : Stmt := top 6
theorem sc_deep : FnScope ["statement", "levels", "level"] ["statement"] (defScope s_deep) := ⟨rfl, rfl, rfl, by decide +kernel, rfl, by decide +kernel, by decide +kernel⟩
abbrev s_negated : Stmt := top 8
theorem sc_negated : FnScope ["statement"] ["statement"] (defScope s_negated) := ⟨rfl, rfl, rfl, by decide +kernel, rfl, by decide +kernel, by decide +kernel⟩
abbrev s__law_depth : Stmt := top 22
theorem sc__law_depth : FnScope ["_law_statement_here", "_law_most", "_law_todo", "_law_here", "_law_depth_here"] ["_law_statement_here"] (defScope s__law_depth) := ⟨rfl, rfl, rfl, by decide +kernel, rfl, by decide +kernel, by decide +kernel⟩
section
variable {P : Program} {w : World} {K : PySem.W.Frag} {mg : Str → Option Value} {base : Heap}
theorem ok_parts {k : Nat} {f_parts : Addr} {fd_parts : FuncData} (F_parts : Fun K "parts" "parts" s_parts f_parts fd_parts) {f_pieces : Addr} {fd_pieces : FuncData} (G_pieces : FnOk P w K mg base CX0 k f_pieces fd_pieces ["statement"] (sp_pieces K)) (m_pieces : mg "pieces" = some (.ref f_pieces)) (k_pieces : PySem.W.keepIn K (.ref f_pieces) = true) (b_pieces : Binds K fd_pieces ["statement"] []) (m_len : mg "len" = none) : FnOk P w K mg base CX0 (k + 1) f_parts fd_parts ["statement"] (sp_parts K) := by
  refine F_parts.ok sc_parts (fun vs H Q E h => ?_) (fun cdv A outer s H vs Q E hr h => ?_)
  · obtain ⟨v, t, rfl, _⟩ := h
    rfl
  obtain ⟨v, t, rfl, hT, hp, q⟩ := h
  refine ⟨_, (pss_one (ps_ret (pe_callB call_len_seq (by exact rfl) m_len Ken.boot_len (pa_cons (pe_call G_pieces hr (by exact rfl) m_pieces k_pieces b_pieces .nil pass0 (pa_cons (pv 0) pa_nil)) pa_nil)))), ?_⟩
  walk_at "rd"
  refine ⟨v, t, rfl, hT, hp, fun r H1 us e1 f1 h1 hu => ⟨r, rfl, us, .inl (SqL.of h1), ?_⟩⟩
  rw [Paired.length hu, Tm.pre_len]
  exact q _ e1
theorem ok_negated {k : Nat} {f_negated : Addr} {fd_negated : FuncData} (F_negated : Fun K "negated" "negated" s_negated f_negated fd_negated) {aLOW : Addr} (m_LOW : mg "LOW" = some (.ref aLOW)) (t_LOW : ∀ H, SqT K H aLOW [.str "low"]) : FnOk P w K mg base CX0 (k + 1) f_negated fd_negated ["statement"] (sp_neg K) := by
  refine F_negated.ok sc_negated (fun vs H Q E h => ?_) (fun cdv A outer s H vs Q E hr h => ?_)
  · obtain ⟨v, t, rfl, _⟩ := h
    rfl
  obtain ⟨v, t, rfl, hT, q⟩ := h
  refine ⟨_, (pss_one (ps_ret (pe_tup (pa_cons pe_str (pa_cons (pv 0) (pa_cons (pe_glob (v := .ref aLOW) (by exact rfl) m_LOW (by exact rfl)) pa_nil)))))), ?_⟩
  walk_at "rd"
  refine ⟨by decide, fun p hp => ?_⟩
  have s1 := same_new hp (HO.tup [.str "then", v, .ref aLOW])
  exact q _ _ s1 (isT_nd.mpr ⟨p, v, .ref aLOW, rfl, .inl (.inl upd_same), hT.keep s1.keepT, isT_low.mpr ⟨aLOW, rfl, t_LOW _⟩⟩)
theorem ok_deep {k : Nat} {f_deep : Addr} {fd_deep : FuncData} (F_deep : Fun K "deep" "deep" s_deep f_deep fd_deep) {f_within : Addr} {fd_within : FuncData} (G_within : FnOk P w K mg base CX0 k f_within fd_within ["statement"] (sp_within K)) (m_within : mg "within" = some (.ref f_within)) (k_within : PySem.W.keepIn K (.ref f_within) = true) (b_within : Binds K fd_within ["statement"] []) : FnOk P w K mg base CX0 (k + 1) f_deep fd_deep ["statement"] (sp_deep K) := by
  refine F_deep.ok sc_deep (fun vs H Q E h => ?_) (fun cdv A outer s H vs Q E hr h => ?_)
  · obtain ⟨v, t, rfl, _⟩ := h
    rfl
  obtain ⟨v, t, rfl, hT, hp, q⟩ := h
  refine ⟨_, (pss_cons (ps_set (i := 1) sc_deep.nd rfl (Or.inl rfl) pe_int)
  (pss_cons (ps_set (i := 2) sc_deep.nd rfl (Or.inl rfl) (pe_lst (pa_cons (pv 0) pa_nil)))
  (pss_cons (ps_while PassesOwn.never (pt_truth (pv 2) (fun _ => rfl))
    (pss_cons (ps_aug (i := 1) sc_deep.nd rfl (Or.inl rfl) pe_int ip_add)
  (pss_one (ps_setLCG (i := 2) sc_deep.nd rfl (Or.inl rfl) (blk0 (N' := ["piece", "inner"]) (by decide +kernel) (by decide +kernel) rfl (by decide +kernel)) rfl (pi_list (pv 2)) (fun _ _ _ _ => (pg_name (i := 0) (show (["piece", "inner"] : List Str).Nodup from by decide +kernel) rfl (Or.inl rfl))) (fun _ _ => turn_L2a00 (c := (.Name "" ⟨0, 0, 0, 0⟩)) (c2 := (.Name "" ⟨0, 0, 0, 0⟩))) (fun _ _ _ _ _ => (pk_nest rfl rfl den_L rfl (pi_listK (K := K) rfl (pe_call G_within hr (by exact rfl) m_within k_within b_within .nil pass0 (pa_cons (pv 0) pa_nil))) (fun _ => rfl) (turn_L2b00 (c := (.Name "" ⟨0, 0, 0, 0⟩)) (c2 := (.Name "" ⟨0, 0, 0, 0⟩))) (pg_name (i := 1) (show (["piece", "inner"] : List Str).Nodup from by decide +kernel) rfl (Or.inl rfl)) (pk_emitL (pv 1)))) rfl))))
  (pss_one (ps_ret (pv 1)))))), ?_⟩
  walk_at "rd"
  refine ⟨by decide, fun l0 hl0 => ?_⟩
  refine ⟨fun m σ' H' => ∃ (i : Nat) (l : Addr) (us : List V) (fs : List Tm), m = fdeep fs ∧ σ' = [some v, some (.int (i : Nat)), some (.ref l)] ∧ Same H H' ∧ H' l = some (.lst us) ∧ Paired (IsT K H') us fs ∧ i + fdeep fs = t.deep ∧ sumP fs ≤ 400,
    ⟨_, 0, l0, [v], [t], rfl, rfl, same_new hl0 _, upd_same, .cons (hT.keep (keepT_new hl0)) .nil, ?_, ?_⟩, ?_⟩
  · show 0 + max t.deep 0 = t.deep; omega
  · show t.parts + 0 ≤ 400; omega
  rintro m σ1 H1 ⟨i, l, us, fs, rfl, rfl, e1, h1, hu, hd, hn⟩
  refine ⟨_, rfl, !us.isEmpty, .inl ⟨_, SqL.of h1, rfl⟩, ?_⟩
  cases hu with
  | nil =>
    rw [if_neg (by decide)]
    walk_at "rd"
    have hd' : i + 0 = t.deep := hd
    rw [← hd', Nat.add_zero] at q
    exact q _ e1
  | @cons u f us fs hu0 hus =>
    rw [if_pos (show (!(u :: us).isEmpty) = true from rfl)]
    refine ⟨_, fun σ' H' z => z, ?_⟩
    have hu : Paired (IsT K H1) (u :: us) (f :: fs) := .cons hu0 hus
    have lu := Paired.length hu
    have fk := fdeep_kids (l := f :: fs) (by simp)
    have lf := len_sumP (f :: fs)
    have kk : ∀ l : List Tm, sumP (l.flatMap Tm.kids) + l.length = sumP l := by
      intro l
      induction l with
      | nil => rfl
      | cons x l ih =>
        rw [List.flatMap_cons, sumP_app, sumP_cons, List.length_cons]
        have := sumP_kids x
        omega
    have k2 : ∀ l : List Tm, (l.flatMap Tm.kids).length ≤ 2 * l.length := by
      intro l
      induction l with
      | nil => exact Nat.le_refl _
      | cons x l ih =>
        rw [List.flatMap_cons, List.length_append, List.length_cons]
        have : x.kids.length ≤ 2 := by cases x <;> simp [Tm.kids]
        omega
    walk_at "rd"
    refine ⟨⟨_, SqL.of h1⟩, fun acc hacc => ?_⟩
    have hacc0 : H acc = none := e1.free hacc
    have nal : l ≠ acc := fun z => by rw [z, hacc] at h1; cases h1
    refine comp_list (xs := u :: us) (fun j H2 => Same H H2 ∧ KeepT K H1 H2 ∧ H2 l = some (.lst (u :: us)) ∧ ∃ ws, H2 acc = some (.lst ws) ∧ Paired (IsT K H2) ws (((f :: fs).take j).flatMap Tm.kids)) ⟨e1.trans (same_new hacc _), (same_new hacc _).keepT, (same_new hacc _) _ _ h1, [], upd_same, .nil⟩ (fun j H2 _ ⟨_, _, h, _⟩ => SqL.of h) (fun j x H2 N hx ⟨e, kk2, hl2, ws, ha, hw⟩ hN => ?_) (fun H2 ⟨e, kk2, hl2, ws, ha, hw⟩ => ?_)
    · obtain ⟨s', hs', hxT⟩ := paired_get hu hx
      have lw := Paired.length hw
      have lw2 := k2 ((f :: fs).take j)
      rw [List.length_take] at lw2
      walk_at "rd"
      refine ⟨wk_head, x, s', rfl, hxT.keep kk2, fun r H3 kv e3 f3 h3 hk3 => ⟨r, rfl, ⟨_, SqL.of h3⟩, ?_⟩⟩
      have nra : r ≠ acc := fun z => by rw [z, ha] at f3; cases f3
      have nrl : r ≠ l := fun z => by rw [z, hl2] at f3; cases f3
      have lk := Paired.length hk3
      have lk2 : s'.kids.length ≤ 2 := by cases s' <;> simp [Tm.kids]
      refine comp_list (xs := kv) (fun n H4 => Same H H4 ∧ KeepT K H3 H4 ∧ H4 l = some (.lst (u :: us)) ∧ H4 r = some (.lst kv) ∧ H4 acc = some (.lst (ws ++ kv.take n))) ⟨e.trans e3, fun _ _ z => z, e3 _ _ hl2, h3, by rw [List.take_zero, List.append_nil]; exact e3 _ _ ha⟩ (fun n H4 _ ⟨_, _, _, h, _⟩ => SqL.of h) (fun n y H4 M hy ⟨e4, k4, l4, r4, a4⟩ hM => ?_) (fun H4 ⟨e4, k4, l4, r4, a4⟩ => ?_)
      · walk_at "rd"
        refine ⟨wk_set (i := 1) rfl, _, a4, small1M (by rw [List.length_append, List.length_take]; omega), hM _ ⟨e4.write hacc0, k4.trans (keepT_lst a4), by rw [upd_ne nal]; exact l4, by rw [upd_ne nra]; exact r4, ?_⟩⟩
        rw [upd_same, List.take_add_one, hy, List.append_assoc]; rfl
      · rw [List.take_length] at a4
        refine hN _ ⟨e4, kk2.trans (KeepT.trans e3.keepT k4), l4, _, a4, ?_⟩
        have ek : ((f :: fs).take (j + 1)).flatMap Tm.kids = ((f :: fs).take j).flatMap Tm.kids ++ s'.kids := by
          rw [take_snoc hs', List.flatMap_append]
          show _ ++ (s'.kids ++ []) = _
          rw [List.append_nil]
        rw [ek]
        exact paired_app (Paired.mapP hw fun _ _ z => (z.keep e3.keepT).keep k4) (Paired.mapP hk3 fun _ _ z => z.keep k4)
    · rw [lu, List.take_length] at hw
      have := kk (f :: fs)
      exact ⟨_, by omega, i + 1, acc, ws, (f :: fs).flatMap Tm.kids, rfl, by omega, rfl, e, ha, hw, by omega, by omega⟩
theorem ok__law_depth {k : Nat} {f__law_depth : Addr} {fd__law_depth : FuncData} (F__law_depth : Fun K "_law_depth" "_law_depth" s__law_depth f__law_depth fd__law_depth) (m_max : mg "max" = none) (m_len : mg "len" = none) : FnOk P w K mg base CX0 (k + 1) f__law_depth fd__law_depth ["_law_statement_here"] (sp_depthL K) := by
  refine F__law_depth.ok sc__law_depth (fun vs H Q E h => ?_) (fun cdv A outer s H vs Q E hr h => ?_)
  · obtain ⟨v, t, rfl, _⟩ := h
    rfl
  obtain ⟨v, t, rfl, hT, hok, hp, q⟩ := h
  refine ⟨_, (pss_cons (ps_set (i := 1) sc__law_depth.nd rfl (Or.inl rfl) pe_int)
  (pss_cons (ps_set (i := 2) sc__law_depth.nd rfl (Or.inl rfl) (pe_lst (pa_cons (pe_tup (pa_cons (pv 0) (pa_cons pe_int pa_nil))) pa_nil)))
  (pss_cons (ps_while PassesOwn.never (pt_cmpR (op_neD (hu_150 hr)) (pv 2) (pe_lst pa_nil) (nomark _))
    (pss_cons (ps_asg (pe_bm0 PySem.F.plainAttrs_list PySem.F.slot_list_pop PySem.F.type_list_pop mt_pop (pv 2)) (pg_tup rfl (pgs_cons (pg_name (i := 3) sc__law_depth.nd rfl (Or.inl rfl)) (pgs_cons (pg_name (i := 4) sc__law_depth.nd rfl (Or.inl rfl)) pgs_nil))))
  (pss_cons (ps_set (i := 1) sc__law_depth.nd rfl (Or.inl rfl) (pe_callB (call_max2 rfl) (by exact rfl) m_max Ken.boot_max (pa_cons (pv 1) (pa_cons (pv 4) pa_nil))))
  (pss_one (ps_if (pt_cmpR (op_eq) (pe_callB call_len_seq (by exact rfl) m_len Ken.boot_len (pa_cons (pv 3) pa_nil)) pe_int (nomark _))
    (pss_cons (ps_expr (pe_bm PySem.F.plainAttrs_list PySem.F.slot_list_append PySem.F.type_list_append mt_append (pv 2) (pa_cons (pe_tup (pa_cons (pe_ix ix_tup (pv 3) pe_int (fun _ _ => rfl)) (pa_cons (pe_op op_add (pv 4) pe_int) pa_nil))) pa_nil)))
  (pss_one (ps_expr (pe_bm PySem.F.plainAttrs_list PySem.F.slot_list_append PySem.F.type_list_append mt_append (pv 2) (pa_cons (pe_tup (pa_cons (pe_ix ix_tup (pv 3) pe_int (fun _ _ => rfl)) (pa_cons (pe_op op_add (pv 4) pe_int) pa_nil))) pa_nil)))))
    pss_nil)))))
  (pss_one (ps_ret (pv 1)))))), ?_⟩
  walk_at "rd"
  refine ⟨by decide, fun p0 hp0 => ⟨by decide, fun l hl => ?_⟩⟩
  have hl0 : H l = none := (same_new hp0 _).free hl
  have s0 := (same_new hp0 (HO.tup [v, .int 1])).trans (same_new hl (HO.lst [V.ref p0]))
  refine ⟨fun m σ' H' => ∃ (i : Nat) (us : List V) (ps : List (Tm × Nat)) (x3 x4 : Option V), m = sumP (ps.map (·.1)) ∧ σ' = [some v, some (.int (i : Nat)), some (.ref l), x3, x4] ∧ Same H H' ∧ H' l = some (.lst us) ∧ Paired (AtP K H') us ps ∧ max (i + 1) (pdeep ps) = t.deep + 1 ∧ sumP (ps.map (·.1)) ≤ 400 ∧ ∀ x ∈ ps, x.1.ok,
    ⟨_, 0, [.ref p0], [(t, 1)], none, none, rfl, rfl, s0, upd_same, .cons ⟨p0, v, rfl, (same_new hl _).sqt (.inl (.inl upd_same)), hT.keep s0.keepT⟩ .nil, ?_, ?_, ?_⟩, ?_⟩
  · show max (0 + 1) (max (1 + t.deep) 0) = t.deep + 1; omega
  · show t.parts + 0 ≤ 400; omega
  · intro x hx
    rw [List.mem_singleton.mp hx]; exact hok
  rintro m σ1 H1 ⟨i, us, ps, x3, x4, rfl, rfl, e1, h1, hu, hd, hn, hoks⟩
  walk_at "rd"
  refine ⟨Nat.zero_le _, fun p hp' => ?_⟩
  have sp := same_new hp' (HO.lst [])
  have h1' := sp _ _ h1
  have hu' := Paired.mapP hu fun _ _ z => AtP.keep sp.keepT z
  refine ⟨.list (ps.map apD), ?_, .list [], ?_, ap_lay hoks, rfl, Nat.le_trans (Nat.min_le_right _ _) (by decide), ?_⟩
  · rw [Dn]; exact ⟨l, _, rfl, SqL.of h1', ap_dn hu'⟩
  · rw [Dn]; exact ⟨p, [], rfl, SqL.of upd_same, by rw [DnAll]⟩
  rw [if_pos trivial, ap_nil]
  have E1 := e1.trans sp
  generalize upd H1 p (HO.lst []) = H2 at sp h1' hu' E1
  rcases List.eq_nil_or_concat ps with rfl | ⟨ps', ⟨s', d⟩, rfl⟩
  · rw [if_neg (by decide)]
    have hd' : max (i + 1) 0 = t.deep + 1 := hd
    rw [show i = t.deep by omega]
    exact q _ E1
  rw [List.concat_eq_append] at hu' hd hn hoks ⊢
  obtain ⟨us', u, rfl, hus, hAt⟩ := paired_snocK hu'
  obtain ⟨a, wv, rfl, hsq, hwT⟩ := hAt
  rw [if_pos (by cases ps' <;> rfl)]
  have so : s'.ok := hoks (s', d) (by simp)
  have k2 : KeepT K H2 (upd H2 l (.lst us')) := keepT_lst h1'
  have es : sumP ((ps' ++ [(s', d)]).map (·.1)) = sumP (ps'.map (·.1)) + s'.parts := by
    rw [List.map_append, sumP_app]; rfl
  rw [es] at hn
  have lps := len_sumP (ps'.map (·.1))
  rw [List.length_map] at lps
  have lus := Paired.length hus
  have pp := s'.parts_pos
  rw [pdeep_app] at hd
  have hd1 : max (i + 1) (max (pdeep ps') (max (d + s'.deep) 0)) = t.deep + 1 := hd
  have dk := deep_kids s'
  refine ⟨_, fun σ' H' z => z, .inl ⟨rfl, _, SqL.of h1'⟩, _, h1', .ref a, by simp, a, rfl, _, by rw [List.dropLast_concat]; exact k2 _ _ hsq, rfl, _, _, rfl, _, _, rfl, rfl, _, rfl, ?_⟩
  rw [List.dropLast_concat, max_int]
  have fin : s'.kids = [] → ∃ m', m' < sumP ((ps' ++ [(s', d)]).map (·.1)) ∧ ∃ (i_1 : Nat) (us : List V) (ps : List (Tm × Nat)), m' = sumP (ps.map (·.1)) ∧ ∃ x x_1, [some v, some (V.int ((max i d : Nat) : Int)), some (V.ref l), some wv, some (V.int (d : Nat))] = [some v, some (V.int ↑i_1), some (V.ref l), x, x_1] ∧ Same H (upd H2 l (.lst us')) ∧ upd H2 l (.lst us') l = some (HO.lst us) ∧ Paired (AtP K (upd H2 l (.lst us'))) us ps ∧ max (i_1 + 1) (pdeep ps) = t.deep + 1 ∧ sumP (ps.map (·.1)) ≤ 400 ∧ ∀ x ∈ ps, x.1.ok := fun hkd => by
    rw [hkd] at dk
    have dk' : s'.deep = 1 := dk
    exact ⟨_, by rw [es]; omega, max i d, us', ps', rfl, _, _, rfl, E1.write hl0, upd_same, Paired.mapP hus fun _ _ z => AtP.keep k2 z, by omega, by omega, fun x hx => hoks x (List.mem_append_left _ hx)⟩
  have hwT' := hwT.keep k2
  cases s' with
  | low =>
    obtain ⟨b, rfl, hs⟩ := isT_low.mp hwT'
    refine ⟨b, rfl, _, .inr hs, ?_⟩
    rw [if_neg (by decide)]
    exact fin rfl
  | ltr y =>
    obtain ⟨b, rfl, hs⟩ := isT_ltr.mp hwT'
    refine ⟨b, rfl, _, .inr hs, ?_⟩
    rw [if_neg (show ¬ ((([V.str "letter", V.str y].length : Nat) : Int) = 3) from fun z => absurd z (show ¬ (((2 : Nat) : Int) = 3) by decide))]
    exact fin rfl
  | nd kd a1 b1 =>
    obtain ⟨b, vx, vy, rfl, hs, hx1, hy1⟩ := isT_nd.mp hwT'
    refine ⟨b, rfl, _, .inr hs, ?_⟩
    rw [if_pos (show (([V.str kd.str, vx, vy].length : Nat) : Int) = 3 from rfl)]
    have h3 : upd H2 l (HO.lst us') l = some (.lst us') := upd_same
    have E3 := E1.write (o := HO.lst us') hl0
    have hus3 := Paired.mapP hus fun _ _ z => AtP.keep k2 z
    generalize upd H2 l (HO.lst us') = H3 at h3 E3 hus3 hs hx1 hy1
    refine ⟨.inl ⟨rfl, _, SqL.of h3⟩, b, rfl, _, hs, vx, rfl, _, rfl, by decide, fun p1 hp1 => ?_⟩
    have s1 := same_new hp1 (HO.tup [vx, V.int ((d : Nat) + 1)])
    have h4 := s1 _ _ h3
    have g1 : upd H3 p1 (HO.tup [vx, V.int ((d : Nat) + 1)]) p1 = some (.tup [vx, V.int ((d : Nat) + 1)]) := upd_same
    refine ⟨_, h4, small1M (by omega), ?_⟩
    have n1 : p1 ≠ l := fun z => by rw [z, h3] at hp1; cases hp1
    have k5 := s1.keepT.trans (keepT_lst (K := K) (o := HO.lst (us' ++ [V.ref p1])) h4)
    have h5 : upd (upd H3 p1 (HO.tup [vx, V.int ((d : Nat) + 1)])) l (HO.lst (us' ++ [V.ref p1])) l = some (.lst (us' ++ [V.ref p1])) := upd_same
    have g5 : upd (upd H3 p1 (HO.tup [vx, V.int ((d : Nat) + 1)])) l (HO.lst (us' ++ [V.ref p1])) p1 = some (.tup [vx, V.int ((d : Nat) + 1)]) := by rw [upd_ne n1]; exact g1
    have E5 := (E3.trans s1).write (o := HO.lst (us' ++ [V.ref p1])) hl0
    generalize upd (upd H3 p1 (HO.tup [vx, V.int ((d : Nat) + 1)])) l (HO.lst (us' ++ [V.ref p1])) = H5 at k5 h5 g5 E5
    refine ⟨.inl ⟨rfl, _, SqL.of h5⟩, b, rfl, _, k5 _ _ hs, vy, rfl, _, rfl, by decide, fun p2 hp2 => ?_⟩
    have s2 := same_new hp2 (HO.tup [vy, V.int ((d : Nat) + 1)])
    have h6 := s2 _ _ h5
    have n2 : p2 ≠ l := fun z => by rw [z, h5] at hp2; cases hp2
    have k7 := s2.keepT.trans (keepT_lst (K := K) (o := HO.lst (us' ++ [V.ref p1] ++ [V.ref p2])) h6)
    have g7 : upd (upd H5 p2 (HO.tup [vy, V.int ((d : Nat) + 1)])) l (HO.lst (us' ++ [V.ref p1] ++ [V.ref p2])) p2 = some (.tup [vy, V.int ((d : Nat) + 1)]) := by rw [upd_ne n2, upd_same]
    have dd : (Tm.nd kd a1 b1).deep = 1 + max a1.deep b1.deep := rfl
    have pn : (Tm.nd kd a1 b1).parts = 1 + a1.parts + b1.parts := rfl
    have es2 : sumP ((ps' ++ [(a1, d + 1), (b1, d + 1)]).map (·.1)) = sumP (ps'.map (·.1)) + (a1.parts + b1.parts) := by
      rw [List.map_append, sumP_app]; rfl
    refine ⟨_, h6, small1M (by rw [List.length_append, List.length_singleton]; omega), sumP ((ps' ++ [(a1, d + 1), (b1, d + 1)]).map (·.1)), by rw [es, es2]; omega, max i d, _, ps' ++ [(a1, d + 1), (b1, d + 1)], rfl, _, _, rfl, (E5.trans s2).write hl0, upd_same, ?_, ?_, by rw [es2]; omega, fun x hx => ?_⟩
    · have pr := paired_app (Paired.mapP hus3 fun _ _ z => AtP.keep (k5.trans k7) z) (Paired.cons (show AtP K _ (.ref p1) (a1, d + 1) from ⟨p1, vx, rfl, k7 _ _ (.inl (.inl g5)), hx1.keep (k5.trans k7)⟩) (Paired.cons (show AtP K _ (.ref p2) (b1, d + 1) from ⟨p2, vy, rfl, .inl (.inl g7), hy1.keep (k5.trans k7)⟩) .nil))
      rw [show us' ++ [V.ref p1] ++ [V.ref p2] = us' ++ [V.ref p1, V.ref p2] by simp] at pr ⊢
      exact pr
    · rw [pdeep_app]
      show max (max i d + 1) (max (pdeep ps') (max (d + 1 + a1.deep) (max (d + 1 + b1.deep) 0))) = t.deep + 1
      omega
    · rcases List.mem_append.mp hx with z | z
      · exact hoks x (List.mem_append_left _ z)
      · simp only [List.mem_cons, List.not_mem_nil, or_false] at z
        rcases z with rfl | rfl
        · exact so.1
        · exact so.2
end
set_option Elab.async false
set_option linter.all false
set_option maxRecDepth 100000
set_option maxHeartbeats 4000000
local macro_rules | `(tactic| walk_at "rdx_5") => `(tactic| simp only [tCompA, kAdd, tIf, rInT, iRev, tCallL, tComp, kNest, kTest, kApp, kPut, tSeq, tAsg, gName, tVar, tC, tOp, rI0, rI, rU, tUn, tRet, tRetN, tIfS, tTest, tB, tNext, tCons, tNil, tCB, tCall, tTup, tLst, tDrop, tAug, ipI, tAnd, tOr, tNot, tAndV, tOrV, tNotV, tBM, tBM0, rAppend, rExtend, rPop, rIxL, rIxT, rIxS, rCat, rEq, rNe, rMulS, tSl, rSlL, rSlS, tPart, tNoPart, tRev, rJoin, tDGet, tDisp, tPairs, tFs, tFv, tFc, tF0, tKD, rIsi, rEqD, tNever, tChain, rIn, rSetL, gSub, iEnum, iStr, tKNotIn, tDIn, tDNotIn, sDPut, gTup, gCons, gNil, iRng1, iRng2, iList, iTup, iZip, iZipT, rRevd, L2.start, capt,
  List.map_cons, List.map_nil, List.length_cons, List.length_nil, List.cons_append, List.nil_append, List.append_nil, List.replicate_succ, List.replicate_zero, Nat.reduceAdd, Nat.reduceSub, Nat.zero_add, Nat.add_zero, Nat.sub_zero, Nat.sub_self, List.getElem?_cons_zero, List.getElem?_cons_succ, List.getElem?_nil, List.set_cons_zero, List.set_cons_succ, Option.some.injEq, V.int.injEq, V.str.injEq, V.ref.injEq, V.bl.injEq, V.ty.injEq, List.cons.injEq, and_true, true_and, exists_eq_left', exists_eq_left, exists_and_left, exists_eq, exists_eq', and_assoc, Option.join_some, Option.join_none, scal_int, scal_str, scal_bl, cxOf_K, cxC_K, cxOf_prog, cxOf_w, blk_prog, blk_w, blk_K, decide_eq_true_eq])
local macro_rules | `(tactic| walk_at "rd") => `(tactic| walk_at "rdx_5")
local macro_rules | `(tactic| walk_at "rdx_6") => `(tactic| simp only [tCompA, kAdd, tIf, rInT, iRev, tCallL, tComp, kNest, kTest, kApp, kPut, tFor, tLC, tVar, tC, tOp, rI0, rI, rU, tUn, tTest, tB, tCons, tNil, tCB, tCall, tTup, tLst, ipI, tAnd, tOr, tNot, tAndV, tOrV, tNotV, tBM, tBM0, rAppend, rExtend, rPop, rIxL, rIxT, rIxS, rCat, rEq, rNe, rMulS, tSl, rSlL, rSlS, tPart, tNoPart, tRev, rJoin, tDGet, tDisp, tPairs, tFs, tFv, tFc, tF0, tKD, rIsi, rEqD, tNever, tChain, rIn, rSetL, iEnum, iStr, tKNotIn, tDIn, tDNotIn, iRng1, iRng2, iList, iTup, iZip, iZipT, rRevd, L2.start, capt,
  List.map_cons, List.map_nil, List.length_cons, List.length_nil, List.cons_append, List.nil_append, List.append_nil, List.replicate_succ, List.replicate_zero, Nat.reduceAdd, Nat.reduceSub, Nat.zero_add, Nat.add_zero, Nat.sub_zero, Nat.sub_self, List.getElem?_cons_zero, List.getElem?_cons_succ, List.getElem?_nil, List.set_cons_zero, List.set_cons_succ, Option.some.injEq, V.int.injEq, V.str.injEq, V.ref.injEq, V.bl.injEq, V.ty.injEq, List.cons.injEq, and_true, true_and, exists_eq_left', exists_eq_left, exists_and_left, exists_eq, exists_eq', and_assoc, Option.join_some, Option.join_none, scal_int, scal_str, scal_bl, cxOf_K, cxC_K, cxOf_prog, cxOf_w, blk_prog, blk_w, blk_K, decide_eq_true_eq])
local macro_rules | `(tactic| walk_at "ri") => `(tactic| walk_at "rdx_6")
abbrev s_letters : Stmt := top 7
theorem sc_letters : FnScope ["statement"] ["statement"] (defScope s_letters) := ⟨rfl, rfl, rfl, by decide +kernel, rfl, by decide +kernel, by decide +kernel⟩
section
variable {P : Program} {w : World} {K : PySem.W.Frag} {mg : Str → Option Value} {base : Heap}
theorem ok_letters {k : Nat} {f_letters : Addr} {fd_letters : FuncData} (F_letters : Fun K "letters" "letters" s_letters f_letters fd_letters) {f_pieces : Addr} {fd_pieces : FuncData} (G_pieces : FnOk P w K mg base CX0 k f_pieces fd_pieces ["statement"] (sp_pieces K)) (m_pieces : mg "pieces" = some (.ref f_pieces)) (k_pieces : PySem.W.keepIn K (.ref f_pieces) = true) (b_pieces : Binds K fd_pieces ["statement"] []) (m_sorted : mg "sorted" = none) : FnOk P w K mg base CX0 (k + 1) f_letters fd_letters ["statement"] (sp_letters K) := by
  refine F_letters.ok sc_letters (fun vs H Q E h => ?_) (fun cdv A outer s H vs Q E hr h => ?_)
  · obtain ⟨v, t, ws, rfl, _⟩ := h
    rfl
  obtain ⟨v, t, ws, rfl, hT, hp, hW, hwl, q⟩ := h
  refine ⟨_, (pss_one (ps_ret (pe_callB (call_sortedS (P := P) (w := w) rfl rfl rfl) (by exact rfl) m_sorted Ken.boot_sorted (pa_cons (pe_sc (P := P) (w := w) rfl rfl (blk0 (N' := ["piece"]) (by decide +kernel) (by decide +kernel) rfl (by decide +kernel)) rfl (pi_list (pe_call G_pieces hr (by exact rfl) m_pieces k_pieces b_pieces .nil pass0 (pa_cons (pv 0) pa_nil))) (fun _ _ _ _ => (pg_name (i := 0) (show (["piece"] : List Str).Nodup from by decide +kernel) rfl (Or.inl rfl))) (fun _ _ => turn_S1 (tg2 := (.Name "" ⟨0, 0, 0, 0⟩)) (iter2 := (.Name "" ⟨0, 0, 0, 0⟩))) (fun _ _ _ _ _ => (pk_test (pt_cmpR (op_eq) (pe_ix (ix_tupK (K := K) rfl) (pv 0) pe_int (fun _ _ => rfl)) pe_str (nomark _)) (pk_emitS (P := P) (w := w) rfl rfl (pe_ix (ix_tupK (K := K) rfl) (pv 0) pe_int (fun _ _ => rfl)))))) pa_nil)))), ?_⟩
  walk_at "rd"
  refine ⟨_, t, rfl, hT, by omega, fun r H1 us e1 f1 h1 hu => ⟨r, rfl, ⟨_, SqL.of h1⟩, fun acc hacc => ?_⟩⟩
  have lu := Paired.length hu
  have hsub : ∀ i x, x ∈ (t.pre.take i).flatMap Tm.here → x ∈ ws := fun i x hx => ltrs_inW hW x (by
    rw [← pre_here, ← List.take_append_drop i t.pre, List.flatMap_append]
    exact List.mem_append_left _ hx)
  refine comp_list (xs := us) (fun i H' => Same H1 H' ∧ ∃ xs, H' acc = some (setO P w acc xs) ∧ xs.Nodup ∧ ∀ x, x ∈ xs ↔ x ∈ (t.pre.take i).flatMap Tm.here) ⟨same_new hacc _, [], upd_same, List.nodup_nil, fun x => by simp⟩ (fun i H' _ ⟨e, _⟩ => SqL.of (e _ _ h1)) (fun i u H' N hx ⟨e, xs, ha, nd, hm⟩ hN => ?_) (fun H' ⟨e, xs, ha, nd, hm⟩ => ?_)
  · obtain ⟨s', hs', hxT⟩ := paired_get hu hx
    have hT' := hxT.keep e.keepT
    have xl : xs.length ≤ 40 := Nat.le_trans (len_le_sub nd fun x hx => hsub i x ((hm x).mp hx)) hwl
    have eo : (t.pre.take (i + 1)).flatMap Tm.here = (t.pre.take i).flatMap Tm.here ++ s'.here := by
      rw [List.take_add_one, hs', List.flatMap_append]
      show _ ++ (s'.here ++ []) = _
      rw [List.append_nil]
    walk_at "rd"
    cases s' with
    | low =>
      obtain ⟨a, rfl, hs⟩ := isT_low.mp hT'
      refine ⟨wk_head, a, rfl, _, hs, _, rfl, rfl, ?_⟩
      rw [if_neg (by decide)]
      exact hN _ ⟨e, xs, ha, nd, fun x => by rw [eo]; show _ ↔ x ∈ _ ++ []; rw [List.append_nil]; exact hm x⟩
    | ltr y =>
      obtain ⟨a, rfl, hs⟩ := isT_ltr.mp hT'
      refine ⟨wk_head, a, rfl, _, hs, _, rfl, rfl, ?_⟩
      rw [if_pos (by decide)]
      refine ⟨a, rfl, _, hs, _, rfl, y, rfl, xs, ha, by omega, hN _ ⟨e.write hacc, _, upd_same, ?_, fun x => ?_⟩⟩
      · by_cases hy : y ∈ xs
        · rw [if_pos hy]; exact nd
        · rw [if_neg hy, List.nodup_append]
          exact ⟨nd, by simp, fun a ha b hb => by rw [List.mem_singleton.mp hb]; exact fun z => hy (z ▸ ha)⟩
      · rw [eo]
        show _ ↔ x ∈ _ ++ [y]
        rw [List.mem_append, ← hm x, List.mem_singleton]
        by_cases hy : y ∈ xs
        · rw [if_pos hy]
          exact ⟨.inl, fun z => z.elim id fun z => by rw [z]; exact hy⟩
        · rw [if_neg hy, List.mem_append, List.mem_singleton]
    | nd kd a b =>
      obtain ⟨p, va, vb, rfl, hs, _⟩ := isT_nd.mp hT'
      refine ⟨wk_head, p, rfl, _, hs, _, rfl, rfl, ?_⟩
      rw [if_neg (by cases kd <;> decide)]
      exact hN _ ⟨e, xs, ha, nd, fun x => by rw [eo]; show _ ↔ x ∈ _ ++ []; rw [List.append_nil]; exact hm x⟩
  · have full : (t.pre.take us.length).flatMap Tm.here = t.ltrs := by rw [lu, List.take_length, pre_here]
    have xl : xs.length ≤ 40 := Nat.le_trans (len_le_sub nd fun x hx => hsub _ x ((hm x).mp hx)) hwl
    refine ⟨xs, ha, by omega, fun l ys hl hpm hso => q l _ ys ((e1.trans e).trans (same_new hl _)) ((e1.trans e).free hl) upd_same (hpm.nodup_iff.mpr nd) hso fun x => ?_⟩
    rw [hpm.mem_iff, hm x, full]
end
set_option Elab.async false
set_option linter.all false
set_option maxRecDepth 100000
set_option maxHeartbeats 4000000
local macro_rules | `(tactic| walk_at "rdx_7") => `(tactic| simp only [tCompA, kAdd, iRngD, rRep, rIndexT, tIf, rInT, iRev, tCallL, tComp, kNest, kTest, kApp, kPut, tSeq, tAsg, gName, tVar, tC, tOp, rI0, rI, rU, tUn, tRet, tRetN, tIfS, tTest, tB, tNext, tCons, tNil, tCB, tCall, tTup, tLst, tDrop, tAug, ipI, tAnd, tOr, tNot, tAndV, tOrV, tNotV, tBM, tBM0, rAppend, rExtend, rPop, rIxL, rIxT, rIxS, rCat, rEq, rNe, rMulS, tSl, rSlL, rSlS, tPart, tNoPart, tRev, rJoin, tDGet, tDisp, tPairs, tFs, tFv, tFc, tF0, tKD, rIsi, rEqD, tNever, tChain, rIn, rSetL, gSub, iEnum, iStr, tKNotIn, tDIn, tDNotIn, sDPut, gTup, gCons, gNil, iRng1, iRng2, iList, iTup, iZip, iZipT, rRevd, L2.start, capt,
  List.map_cons, List.map_nil, List.length_cons, List.length_nil, List.cons_append, List.nil_append, List.append_nil, List.replicate_succ, List.replicate_zero, Nat.reduceAdd, Nat.reduceSub, Nat.zero_add, Nat.add_zero, Nat.sub_zero, Nat.sub_self, List.getElem?_cons_zero, List.getElem?_cons_succ, List.getElem?_nil, List.set_cons_zero, List.set_cons_succ, Option.some.injEq, V.int.injEq, V.str.injEq, V.ref.injEq, V.bl.injEq, V.ty.injEq, List.cons.injEq, and_true, true_and, exists_eq_left', exists_eq_left, exists_and_left, exists_eq, exists_eq', and_assoc, Option.join_some, Option.join_none, scal_int, scal_str, scal_bl, cxOf_K, cxC_K, cxOf_prog, cxOf_w, blk_prog, blk_w, blk_K, decide_eq_true_eq])
local macro_rules | `(tactic| walk_at "rd") => `(tactic| walk_at "rdx_7")
local macro_rules | `(tactic| walk_at "rdx_8") => `(tactic| simp only [tCompA, kAdd, iRngD, rRep, rIndexT, tIf, rInT, iRev, tCallL, tComp, kNest, kTest, kApp, kPut, tFor, tLC, tVar, tC, tOp, rI0, rI, rU, tUn, tTest, tB, tCons, tNil, tCB, tCall, tTup, tLst, ipI, tAnd, tOr, tNot, tAndV, tOrV, tNotV, tBM, tBM0, rAppend, rExtend, rPop, rIxL, rIxT, rIxS, rCat, rEq, rNe, rMulS, tSl, rSlL, rSlS, tPart, tNoPart, tRev, rJoin, tDGet, tDisp, tPairs, tFs, tFv, tFc, tF0, tKD, rIsi, rEqD, tNever, tChain, rIn, rSetL, iEnum, iStr, tKNotIn, tDIn, tDNotIn, iRng1, iRng2, iList, iTup, iZip, iZipT, rRevd, L2.start, capt,
  List.map_cons, List.map_nil, List.length_cons, List.length_nil, List.cons_append, List.nil_append, List.append_nil, List.replicate_succ, List.replicate_zero, Nat.reduceAdd, Nat.reduceSub, Nat.zero_add, Nat.add_zero, Nat.sub_zero, Nat.sub_self, List.getElem?_cons_zero, List.getElem?_cons_succ, List.getElem?_nil, List.set_cons_zero, List.set_cons_succ, Option.some.injEq, V.int.injEq, V.str.injEq, V.ref.injEq, V.bl.injEq, V.ty.injEq, List.cons.injEq, and_true, true_and, exists_eq_left', exists_eq_left, exists_and_left, exists_eq, exists_eq', and_assoc, Option.join_some, Option.join_none, scal_int, scal_str, scal_bl, cxOf_K, cxC_K, cxOf_prog, cxOf_w, blk_prog, blk_w, blk_K, decide_eq_true_eq])
local macro_rules | `(tactic| walk_at "ri") => `(tactic| walk_at "rdx_8")
abbrev s__law_within : Stmt := top 21
theorem sc__law_within : FnScope ["_law_statement_here", "_law_found", "_law_at"] ["_law_statement_here"] (defScope s__law_within) := ⟨rfl, rfl, rfl, by decide +kernel, rfl, by decide +kernel, by decide +kernel⟩
section
variable {P : Program} {w : World} {K : PySem.W.Frag} {mg : Str → Option Value} {base : Heap}
theorem ok__law_within {k : Nat} {f__law_within : Addr} {fd__law_within : FuncData} (F__law_within : Fun K "_law_within" "_law_within" s__law_within f__law_within fd__law_within) (m_len : mg "len" = none) : FnOk P w K mg base CX0 (k + 1) f__law_within fd__law_within ["_law_statement_here"] (sp_withinL K) := by
  refine F__law_within.ok sc__law_within (fun vs H Q E h => ?_) (fun cdv A outer s H vs Q E hr h => ?_)
  · obtain ⟨v, t, rfl, _⟩ := h
    rfl
  obtain ⟨v, t, rfl, hT, hp, q⟩ := h
  refine ⟨_, (pss_cons (ps_set (i := 1) sc__law_within.nd rfl (Or.inl rfl) (pe_lst (pa_cons (pv 0) pa_nil)))
  (pss_cons (ps_set (i := 2) sc__law_within.nd rfl (Or.inl rfl) pe_int)
  (pss_cons (ps_while PassesOwn.never (pt_cmpR (op_lt) (pv 2) (pe_callB call_len_seq (by exact rfl) m_len Ken.boot_len (pa_cons (pv 1) pa_nil)) (nomark _))
    (pss_cons (ps_if (pt_cmpR (op_eq) (pe_callB call_len_seq (by exact rfl) m_len Ken.boot_len (pa_cons (pe_ix ix_list (pv 1) (pv 2) (fun _ _ => rfl)) pa_nil)) pe_int (nomark _))
    (pss_cons (ps_expr (pe_bm PySem.F.plainAttrs_list PySem.F.slot_list_append PySem.F.type_list_append mt_append (pv 1) (pa_cons (pe_ix ix_tup (pe_ix ix_list (pv 1) (pv 2) (fun _ _ => rfl)) pe_int (fun _ _ => rfl)) pa_nil)))
  (pss_one (ps_expr (pe_bm PySem.F.plainAttrs_list PySem.F.slot_list_append PySem.F.type_list_append mt_append (pv 1) (pa_cons (pe_ix ix_tup (pe_ix ix_list (pv 1) (pv 2) (fun _ _ => rfl)) pe_int (fun _ _ => rfl)) pa_nil)))))
    pss_nil)
  (pss_one (ps_aug (i := 2) sc__law_within.nd rfl (Or.inl rfl) pe_int ip_add))))
  (pss_one (ps_ret (pv 1)))))), ?_⟩
  walk_at "rd"
  refine ⟨by decide, fun r hr0 => ?_⟩
  refine ⟨fun m σ' H' => ∃ (i : Nat) (us : List V) (ts : List Tm), m = t.parts - i ∧ σ' = [some v, some (.ref r), some (.int (i : Nat))] ∧ Same H H' ∧ H' r = some (.lst us) ∧ Paired (IsT K H') us ts ∧ ts[0]? = some t ∧ (∀ (j : Nat) (s : Tm), j < i → ts[j]? = some s → ∀ c ∈ s.kids, c ∈ ts) ∧ (∀ s ∈ ts, s ∈ t.pre) ∧ i ≤ ts.length ∧ i + sumP (ts.drop i) = t.parts,
    ⟨_, 0, [v], [t], rfl, rfl, same_new hr0 _, upd_same, .cons (hT.keep (keepT_new hr0)) .nil, rfl, fun j s hj => absurd hj (Nat.not_lt_zero _), fun s hs => ?_, Nat.zero_le _, ?_⟩, ?_⟩
  · obtain rfl : s = t := by simpa using hs
    exact s.self_pre
  · show 0 + (t.parts + 0) = t.parts; omega
  rintro m σ1 H1 ⟨i, us, ts, rfl, rfl, e1, h1, hu, h0, hk, hpre, hi, hsum⟩
  have lu := Paired.length hu
  walk_at "rd"
  refine ⟨_, .inl (SqL.of h1), ?_⟩
  by_cases hlt : i < us.length
  · rw [if_pos (by omega)]
    refine ⟨_, fun σ' H' z => z, ?_⟩
    obtain ⟨s', hs', hxT⟩ := paired_get hu (List.getElem?_eq_getElem hlt)
    have hdr : ts.drop i = s' :: ts.drop (i + 1) := by
      obtain ⟨hl, e⟩ := List.getElem?_eq_some_iff.mp hs'
      rw [List.drop_eq_getElem_cons hl, e]
    rw [hdr, sumP_cons] at hsum
    have pp := s'.parts_pos
    have lsm := len_sumP (ts.drop (i + 1))
    rw [List.length_drop] at lsm
    have fin : s'.kids = [] → ∃ m', m' < t.parts - i ∧ ∃ i_1 : Nat, m' = t.parts - i_1 ∧ [some v, some (V.ref r), some (V.int (↑i + 1))] = [some v, some (V.ref r), some (V.int ↑i_1)] ∧ Same H H1 ∧ ∃ x, H1 r = some (HO.lst x) ∧ ∃ x_1, Paired (Ken.IsT K H1) x x_1 ∧ x_1[0]? = some t ∧ (∀ (j : Nat) (s : Tm), j < i_1 → x_1[j]? = some s → ∀ c ∈ s.kids, c ∈ x_1) ∧ (∀ s ∈ x_1, s ∈ t.pre) ∧ i_1 ≤ x_1.length ∧ i_1 + sumP (x_1.drop i_1) = t.parts := fun hkd => by
      refine ⟨t.parts - (i + 1), by omega, i + 1, rfl, rfl, e1, us, h1, ts, hu, h0, fun j s hj es c hc => ?_, hpre, by omega, ?_⟩
      · by_cases ej : j = i
        · subst ej
          rw [hs'] at es; cases es
          rw [hkd] at hc; cases hc
        · exact hk j s (by omega) es c hc
      · have : s'.parts = 1 := by
          cases s' with
          | low => rfl
          | ltr w => rfl
          | nd k a b => cases hkd
        omega
    have ai : atI us (i : Int) = some us[i] := atI_nat (List.getElem?_eq_getElem hlt)
    cases s' with
    | low =>
      obtain ⟨a, ea, hs⟩ := isT_low.mp hxT
      refine ⟨_, SqL.of h1, _, ai, a, ea, _, .inr hs, ?_⟩
      rw [if_neg (by decide)]
      exact fin rfl
    | ltr w =>
      obtain ⟨a, ea, hs⟩ := isT_ltr.mp hxT
      refine ⟨_, SqL.of h1, _, ai, a, ea, _, .inr hs, ?_⟩
      rw [if_neg (show ¬ ((([V.str "letter", V.str w].length : Nat) : Int) = 3) from fun z => absurd z (show ¬ (((2 : Nat) : Int) = 3) by decide))]
      exact fin rfl
    | nd kd a b =>
      obtain ⟨p, vx, vy, ea, hs, hx1, hy1⟩ := isT_nd.mp hxT
      refine ⟨_, SqL.of h1, _, ai, p, ea, _, .inr hs, ?_⟩
      rw [if_pos (show (([V.str kd.str, vx, vy].length : Nat) : Int) = 3 from rfl)]
      have h2 : upd H1 r (HO.lst (us ++ [vx])) r = some (.lst (us ++ [vx])) := upd_same
      have k2 : KeepT K H1 (upd H1 r (HO.lst (us ++ [vx]))) := keepT_lst h1
      have k3 : KeepT K H1 (upd (upd H1 r (HO.lst (us ++ [vx]))) r (HO.lst (us ++ [vx] ++ [vy]))) := k2.trans (keepT_lst h2)
      have ai2 : atI (us ++ [vx]) (i : Int) = some us[i] := atI_nat (by rw [List.getElem?_append_left hlt]; exact List.getElem?_eq_getElem hlt)
      refine ⟨.inl ⟨rfl, _, SqL.of h1⟩, _, SqL.of h1, _, ai, p, ea, _, hs, _, rfl, _, h1, small1M (by omega), .inl ⟨rfl, _, SqL.of h2⟩, _, SqL.of h2, _, ai2, p, ea, _, k2 _ _ hs, _, rfl, _, h2, small1M (by rw [List.length_append, List.length_singleton]; omega), ?_⟩
      have pn : (Tm.nd kd a b).parts = 1 + a.parts + b.parts := rfl
      have mt : ∀ s ∈ ts, s ∈ ts ++ [a, b] := fun s hs => List.mem_append_left _ hs
      refine ⟨t.parts - (i + 1), by omega, i + 1, rfl, rfl, (e1.write hr0).write hr0, _, upd_same, ts ++ [a, b], ?_, ?_, fun j s hj es c hc => ?_, fun s hs => ?_, ?_, ?_⟩
      · have pr := paired_app (Paired.mapP hu fun _ _ z => z.keep k3) (.cons (hx1.keep k3) (.cons (hy1.keep k3) .nil))
        rw [show us ++ [vx] ++ [vy] = us ++ [vx, vy] by simp] at pr ⊢
        exact pr
      · rw [List.getElem?_append_left (by omega)]; exact h0
      · by_cases ej : j = i
        · subst ej
          rw [List.getElem?_append_left (by omega), hs'] at es
          cases es
          have hc' : c ∈ [a, b] := hc
          exact List.mem_append_right _ hc'
        · rw [List.getElem?_append_left (by omega)] at es
          exact mt _ (hk j s (by omega) es c hc)
      · rcases List.mem_append.mp hs with z | z
        · exact hpre s z
        · exact pre_kids (hpre _ (List.mem_of_getElem? hs')) z
      · rw [List.length_append]; omega
      · rw [List.drop_append_of_le_length (by omega), sumP_app]
        show i + 1 + (sumP (ts.drop (i + 1)) + (a.parts + (b.parts + 0))) = _
        omega
  · rw [if_neg (by omega)]
    have ei : i = ts.length := by omega
    rw [ei, List.drop_length] at hsum
    have hsum' : ts.length + 0 = t.parts := hsum
    refine q r H1 us ts e1 hr0 h1 hu ⟨h0, fun s hs c hc => ?_, hpre, by omega⟩
    obtain ⟨j, hj, e⟩ := List.getElem_of_mem hs
    exact hk j s (by omega) (by rw [List.getElem?_eq_getElem hj, e]) c hc
end
set_option Elab.async false
set_option linter.all false
set_option maxRecDepth 100000
set_option maxHeartbeats 4000000
local macro_rules | `(tactic| walk_at "rd") => `(tactic| walk_at "rdx_1")
local macro_rules | `(tactic| walk_at "ri") => `(tactic| walk_at "rdx_2")
abbrev s__law_whole : Stmt := top 19
theorem sc__law_whole : FnScope ["_law_found"] ["_law_found"] (defScope s__law_whole) := ⟨rfl, rfl, rfl, by decide +kernel, rfl, by decide +kernel, by decide +kernel⟩
section
variable {P : Program} {w : World} {K : PySem.W.Frag} {mg : Str → Option Value} {base : Heap}
theorem ok__law_whole {k : Nat} {f__law_whole : Addr} {fd__law_whole : FuncData} (F__law_whole : Fun K "_law_whole" "_law_whole" s__law_whole f__law_whole fd__law_whole) (m_isinstance : mg "isinstance" = none) (m_int : mg "int" = none) (m_bool : mg "bool" = none) : FnOk P w K mg base CX0 (k + 1) f__law_whole fd__law_whole ["_law_found"] sp_whole := by
  refine F__law_whole.ok sc__law_whole (fun vs H Q E h => ?_) (fun cdv A outer s H vs Q E hr h => ?_)
  · obtain ⟨i, rfl, _⟩ := h
    rfl
  obtain ⟨i, rfl, q⟩ := h
  refine ⟨_, (pss_one (ps_ret (pe_and (pe_callB call_isi (by exact rfl) m_isinstance Ken.boot_isinstance (pa_cons (pv 0) (pa_cons (pe_bltn (v := .ty "int") (by exact rfl) m_int Ken.boot_int (by exact rfl)) pa_nil))) (pe_one (pe_not (pe_callB call_isi (by exact rfl) m_isinstance Ken.boot_isinstance (pa_cons (pv 0) (pa_cons (pe_bltn (v := .ty "bool") (by exact rfl) m_bool Ken.boot_bool (by exact rfl)) pa_nil)))))))), ?_⟩
  walk_at "rd"
  refine ⟨_, .of (.int _), _, kit_same K "int", ?_⟩
  rw [if_pos rfl]
  refine ⟨_, .of (.int _), _, rfl, ?_⟩
  exact q
end
set_option Elab.async false
set_option linter.all false
set_option maxRecDepth 100000
set_option maxHeartbeats 4000000
local macro_rules | `(tactic| walk_at "rdx_9") => `(tactic| simp only [tSeq, tAsg, gName, tVar, tC, tOp, rI0, rI, rU, tUn, tRet, tRetN, tIfS, tTest, tB, tNext, tCons, tNil, tCB, tCall, tTup, tLst, tDrop, tAug, ipI, tAnd, tOr, tNot, tAndV, tOrV, tNotV, tBM, tBM0, rAppend, rExtend, rPop, rIxL, rIxT, rIxS, rCat, rEq, rNe, rMulS, tSl, rSlL, rSlS, tPart, tNoPart, tRev, rJoin, tDGet, tDisp, tPairs, tFs, tFv, tFc, tF0, tKD, rIsi, rEqD, tNever, tChain, rIn, rSetL, gSub, iEnum, iStr, tKNotIn, gTup, gCons, gNil, iRng1, iRng2, iList, iTup, iZip, rRevd, L2.start, capt,
  List.map_cons, List.map_nil, List.length_cons, List.length_nil, List.cons_append, List.nil_append, List.append_nil, List.replicate_succ, List.replicate_zero, Nat.reduceAdd, Nat.reduceSub, Nat.zero_add, Nat.add_zero, Nat.sub_zero, Nat.sub_self, List.getElem?_cons_zero, List.getElem?_cons_succ, List.getElem?_nil, List.set_cons_zero, List.set_cons_succ, Option.some.injEq, V.int.injEq, V.str.injEq, V.ref.injEq, V.bl.injEq, V.ty.injEq, List.cons.injEq, and_true, true_and, exists_eq_left', exists_eq_left, exists_and_left, exists_eq, exists_eq', and_assoc, Option.join_some, Option.join_none, scal_int, scal_str, scal_bl, cxOf_K, blk_K, decide_eq_true_eq])
local macro_rules | `(tactic| walk_at "rd") => `(tactic| walk_at "rdx_9")
local macro_rules | `(tactic| walk_at "rdx_10") => `(tactic| simp only [tFor, tLC, tVar, tC, tOp, rI0, rI, rU, tUn, tTest, tB, tCons, tNil, tCB, tCall, tTup, tLst, ipI, tAnd, tOr, tNot, tAndV, tOrV, tNotV, tBM, tBM0, rAppend, rExtend, rPop, rIxL, rIxT, rIxS, rCat, rEq, rNe, rMulS, tSl, rSlL, rSlS, tPart, tNoPart, tRev, rJoin, tDGet, tDisp, tPairs, tFs, tFv, tFc, tF0, tKD, rIsi, rEqD, tNever, tChain, rIn, rSetL, iEnum, iStr, tKNotIn, iRng1, iRng2, iList, iTup, iZip, rRevd, L2.start, capt,
  List.map_cons, List.map_nil, List.length_cons, List.length_nil, List.cons_append, List.nil_append, List.append_nil, List.replicate_succ, List.replicate_zero, Nat.reduceAdd, Nat.reduceSub, Nat.zero_add, Nat.add_zero, Nat.sub_zero, Nat.sub_self, List.getElem?_cons_zero, List.getElem?_cons_succ, List.getElem?_nil, List.set_cons_zero, List.set_cons_succ, Option.some.injEq, V.int.injEq, V.str.injEq, V.ref.injEq, V.bl.injEq, V.ty.injEq, List.cons.injEq, and_true, true_and, exists_eq_left', exists_eq_left, exists_and_left, exists_eq, exists_eq', and_assoc, Option.join_some, Option.join_none, scal_int, scal_str, scal_bl, cxOf_K, blk_K, decide_eq_true_eq])
local macro_rules | `(tactic| walk_at "ri") => `(tactic| walk_at "rdx_10")
abbrev s__law_same : Stmt := top 20
theorem sc__law_same : FnScope ["_law_found", "_law_due", "_law_k"] ["_law_found", "_law_due"] (defScope s__law_same) := ⟨rfl, rfl, rfl, by decide +kernel, rfl, by decide +kernel, by decide +kernel⟩
section
variable {P : Program} {w : World} {K : PySem.W.Frag} {mg : Str → Option Value} {base : Heap}
theorem ok__law_same {k n : Nat} {f__law_same : Addr} {fd__law_same : FuncData} (F__law_same : Fun K "_law_same" "_law_same" s__law_same f__law_same fd__law_same) (G__law_same : FnOk P w K mg base CX0 k f__law_same fd__law_same ["_law_found", "_law_due"] (sp_same K n)) (m__law_same : mg "_law_same" = some (.ref f__law_same)) (k__law_same : PySem.W.keepIn K (.ref f__law_same) = true) (b__law_same : Binds K fd__law_same ["_law_found", "_law_due"] []) (m_isinstance : mg "isinstance" = none) (m_str : mg "str" = none) (m_range : mg "range" = none) (m_len : mg "len" = none) (m_tuple : mg "tuple" = none) : FnOk P w K mg base CX0 (k + 1) f__law_same fd__law_same ["_law_found", "_law_due"] (sp_same K (n + 1)) := by
  refine F__law_same.ok sc__law_same (fun vs H Q E h => ?_) (fun cdv A outer s H vs Q E hr h => ?_)
  · obtain ⟨v, t, i, rfl, _⟩ := h
    rfl
  obtain ⟨v, u, i, rfl, h1, h2, hn, q⟩ := h
  refine ⟨_, (pss_cons (ps_if (pt_val (pe_callB call_isi (by exact rfl) m_isinstance Ken.boot_isinstance (pa_cons (pv 1) (pa_cons (pe_bltn (v := .ty "str") (by exact rfl) m_str Ken.boot_str (by exact rfl)) pa_nil))))
    (pss_one (ps_ret (pe_and (pe_callB call_isi (by exact rfl) m_isinstance Ken.boot_isinstance (pa_cons (pv 0) (pa_cons (pe_bltn (v := .ty "str") (by exact rfl) m_str Ken.boot_str (by exact rfl)) pa_nil))) (pe_one (pe_cmpR (op_eq) (pv 0) (pv 1) (nomark _))))))
    pss_nil)
  (pss_cons (ps_if ((pw_or (pt_not (pt_val (pe_callB call_isi (by exact rfl) m_isinstance Ken.boot_isinstance (pa_cons (pv 0) (pa_cons (pe_bltn (v := .ty "tuple") (by exact rfl) m_tuple Ken.boot_tuple (by exact rfl)) pa_nil))))) (pw_or1 (pt_cmpR (op_ne) (pe_callB call_len_seq (by exact rfl) m_len Ken.boot_len (pa_cons (pv 0) pa_nil)) (pe_callB call_len_seq (by exact rfl) m_len Ken.boot_len (pa_cons (pv 1) pa_nil)) (nomark _))))).pt
    (pss_one (ps_ret pe_bl))
    pss_nil)
  (pss_cons (ps_for PassesOwn.never rfl (pi_range1 rfl m_range (pa_cons (pe_callB call_len_seq (by exact rfl) m_len Ken.boot_len (pa_cons (pv 1) pa_nil)) pa_nil)) (pg_name (i := 2) sc__law_same.nd rfl (Or.inl rfl))
    (pss_one (ps_if (pt_not (pt_val (pe_call G__law_same hr (by exact rfl) m__law_same k__law_same b__law_same .nil pass0 (pa_cons (pe_ix ix_tup (pv 0) (pv 2) (fun _ _ => rfl)) (pa_cons (pe_ix ix_tup (pv 1) (pv 2) (fun _ _ => rfl)) pa_nil)))))
    (pss_one (ps_ret pe_bl))
    pss_nil)))
  (pss_one (ps_ret pe_bl))))), ?_⟩
  walk_at "rd"
  cases i with
  | inl z =>
    have e1 : v = .str z := h1
    have e2 : u = .str z := h2
    subst e1; subst e2
    refine ⟨_, .of (.str z), _, kit_same K "str", ?_⟩
    rw [if_pos rfl]
    refine ⟨_, .of (.str z), _, kit_same K "str", ?_⟩
    rw [if_pos rfl, decide_eq_true rfl]
    exact ⟨scal_str _ _, q⟩
  | inr t =>
    have h1' : IsT K H v t := h1
    have h2' : IsT K H u t := h2
    obtain ⟨p1, xs1, rfl, s1, d1⟩ := isT_subs h1'
    obtain ⟨p2, xs2, rfl, s2, d2⟩ := isT_subs h2'
    have l1 := Paired.length d1
    have l2 := Paired.length d2
    have l3 := subs_len t
    refine ⟨_, .tupK s2, _, kit_ts K, ?_⟩
    rw [if_neg Bool.false_ne_true]
    refine ⟨_, .tupK s1, _, kit_same K "tuple", ?_⟩
    rw [if_neg (by decide)]
    refine ⟨p1, rfl, xs1, .inr s1, p2, rfl, xs2, .inr s2, ?_⟩
    rw [if_neg (by rw [l1, l2]; simp)]
    walk_at "ri"
    refine ⟨xs2, .inr s2, by omega, by omega, ?_⟩
    refine for_range (D := { nx := tRet (tC (.bl true)) { nx := fun _ H' => Q .non H', rt := Q }, rt := Q }) (n := ((xs2.length : Int)).toNat) (lo := 0) (fun i σ' H' => ∃ x2, σ' = [some (.ref p1), some (.ref p2), x2] ∧ H' = H) ⟨none, rfl, rfl⟩ (fun i σ' H' hi hp => ?_) (fun σ' H' hp => ?_)
    · obtain ⟨x2, rfl, rfl⟩ := hp
      have hi2 : i < xs2.length := by omega
      have hi1 : i < xs1.length := by omega
      obtain ⟨j, hj, dj⟩ := paired_get d1 (List.getElem?_eq_getElem hi1)
      obtain ⟨j', hj', dj'⟩ := paired_get d2 (List.getElem?_eq_getElem hi2)
      rw [hj] at hj'
      cases hj'
      have hin := subs_deep j (List.mem_of_getElem? hj)
      have hn' : t.deep < n + 1 := hn
      walk_at "rd"
      have a1 : atI xs1 (0 + (i : Int)) = some xs1[i] := by rw [Int.zero_add]; exact atI_nat (List.getElem?_eq_getElem hi1)
      have a2 : atI xs2 (0 + (i : Int)) = some xs2[i] := by rw [Int.zero_add]; exact atI_nat (List.getElem?_eq_getElem hi2)
      refine ⟨_, s1, _, a1, _, s2, _, a2, _, _, j, rfl, dj, dj', by omega, _, rfl, ?_⟩
      rw [if_neg (by decide)]
    · obtain ⟨x2, rfl, rfl⟩ := hp
      walk_at "rd"
      exact q
theorem same_zero {f : Addr} {fd : FuncData} {ps : List Str} {k : Nat} : FnOk P w K mg base CX0 k f fd ps (sp_same K 0) := by
  have no : ∀ vs H Q E, ¬ sp_same K 0 vs H Q E := fun vs H Q E h => by
    obtain ⟨_, _, _, _, _, _, hn, _⟩ := h
    exact absurd hn (Nat.not_lt_zero _)
  exact ⟨fun vs H Q E h => absurd h (no vs H Q E), fun A outer s H args us vs Q E _ _ _ _ h => absurd h (no vs H Q E)⟩
theorem all__law_same {f__law_same : Addr} {fd__law_same : FuncData} (F__law_same : Fun K "_law_same" "_law_same" s__law_same f__law_same fd__law_same) (m__law_same : mg "_law_same" = some (.ref f__law_same)) (b__law_same : Binds K fd__law_same ["_law_found", "_law_due"] []) (m_isinstance : mg "isinstance" = none) (m_str : mg "str" = none) (m_range : mg "range" = none) (m_len : mg "len" = none) (m_tuple : mg "tuple" = none) :
    ∀ n : Nat, FnOk P w K mg base CX0 (n + 1) f__law_same fd__law_same ["_law_found", "_law_due"] (sp_same K n)
  | 0 => same_zero
  | n + 1 => ok__law_same F__law_same (all__law_same F__law_same m__law_same b__law_same m_isinstance m_str m_range m_len m_tuple n) m__law_same F__law_same.kp b__law_same m_isinstance m_str m_range m_len m_tuple
end
set_option Elab.async false
set_option linter.all false
set_option maxRecDepth 100000
set_option maxHeartbeats 4000000
local macro_rules | `(tactic| walk_at "rd") => `(tactic| walk_at "rdx_3")
local macro_rules | `(tactic| walk_at "ri") => `(tactic| walk_at "rdx_4")
abbrev s__law_counted : Stmt := top 23
theorem sc__law_counted : FnScope ["_law_statement_here", "_law_some", "_law_found", "_law_depth_here", "_law_due", "_law_told"] ["_law_statement_here"] (defScope s__law_counted) := ⟨rfl, rfl, rfl, by decide +kernel, rfl, by decide +kernel, by decide +kernel⟩
section
variable {P : Program} {w : World} {K : PySem.W.Frag} {mg : Str → Option Value} {base : Heap}
theorem ok__law_counted {k : Nat} {f__law_counted : Addr} {fd__law_counted : FuncData} (F__law_counted : Fun K "_law_counted" "_law_counted" s__law_counted f__law_counted fd__law_counted) {f__law_within : Addr} {fd__law_within : FuncData} (G__law_within : FnOk P w K mg base CX0 k f__law_within fd__law_within ["_law_statement_here"] (sp_withinL K)) (m__law_within : mg "_law_within" = some (.ref f__law_within)) (k__law_within : PySem.W.keepIn K (.ref f__law_within) = true) (b__law_within : Binds K fd__law_within ["_law_statement_here"] []) {f_parts : Addr} {fd_parts : FuncData} (G_parts : FnOk P w K mg base CX0 k f_parts fd_parts ["statement"] (sp_parts K)) (m_parts : mg "parts" = some (.ref f_parts)) (k_parts : PySem.W.keepIn K (.ref f_parts) = true) (b_parts : Binds K fd_parts ["statement"] []) {f_deep : Addr} {fd_deep : FuncData} (G_deep : FnOk P w K mg base CX0 k f_deep fd_deep ["statement"] (sp_deep K)) (m_deep : mg "deep" = some (.ref f_deep)) (k_deep : PySem.W.keepIn K (.ref f_deep) = true) (b_deep : Binds K fd_deep ["statement"] []) {f_letters : Addr} {fd_letters : FuncData} (G_letters : FnOk P w K mg base CX0 k f_letters fd_letters ["statement"] (sp_letters K)) (m_letters : mg "letters" = some (.ref f_letters)) (k_letters : PySem.W.keepIn K (.ref f_letters) = true) (b_letters : Binds K fd_letters ["statement"] []) {f__law_same : Addr} {fd__law_same : FuncData} (G__law_same : FnOk P w K mg base CX0 k f__law_same fd__law_same ["_law_found", "_law_due"] (sp_same K 60)) (m__law_same : mg "_law_same" = some (.ref f__law_same)) (k__law_same : PySem.W.keepIn K (.ref f__law_same) = true) (b__law_same : Binds K fd__law_same ["_law_found", "_law_due"] []) {f_negated : Addr} {fd_negated : FuncData} (G_negated : FnOk P w K mg base CX0 k f_negated fd_negated ["statement"] (sp_neg K)) (m_negated : mg "negated" = some (.ref f_negated)) (k_negated : PySem.W.keepIn K (.ref f_negated) = true) (b_negated : Binds K fd_negated ["statement"] []) {f__law_whole : Addr} {fd__law_whole : FuncData} (G__law_whole : FnOk P w K mg base CX0 k f__law_whole fd__law_whole ["_law_found"] (sp_whole)) (m__law_whole : mg "_law_whole" = some (.ref f__law_whole)) (k__law_whole : PySem.W.keepIn K (.ref f__law_whole) = true) (b__law_whole : Binds K fd__law_whole ["_law_found"] []) {f__law_depth : Addr} {fd__law_depth : FuncData} (G__law_depth : FnOk P w K mg base CX0 k f__law_depth fd__law_depth ["_law_statement_here"] (sp_depthL K)) (m__law_depth : mg "_law_depth" = some (.ref f__law_depth)) (k__law_depth : PySem.W.keepIn K (.ref f__law_depth) = true) (b__law_depth : Binds K fd__law_depth ["_law_statement_here"] []) (m_sorted : mg "sorted" = none) (m_len : mg "len" = none) (m_isinstance : mg "isinstance" = none) (m_list : mg "list" = none) (m_set : mg "set" = none) (m_str : mg "str" = none) : FnOk P w K mg base CX0 (k + 1) f__law_counted fd__law_counted ["_law_statement_here"] (sp_counted K) := by
  refine F__law_counted.ok sc__law_counted (fun vs H Q E h => ?_) (fun cdv A outer s H vs Q E hr h => ?_)
  · obtain ⟨v, t, us, rfl, _⟩ := h
    rfl
  obtain ⟨v, t, us, rfl, hT, hok, hp, hd, hW, lus, q⟩ := h
  refine ⟨_, (pss_cons (ps_set (i := 1) sc__law_counted.nd rfl (Or.inl rfl) (pe_call G__law_within hr (by exact rfl) m__law_within k__law_within b__law_within .nil pass0 (pa_cons (pv 0) pa_nil)))
  (pss_cons (ps_set (i := 2) sc__law_counted.nd rfl (Or.inl rfl) (pe_call G_parts hr (by exact rfl) m_parts k_parts b_parts .nil pass0 (pa_cons (pv 0) pa_nil)))
  (pss_cons (ps_set (i := 3) sc__law_counted.nd rfl (Or.inl rfl) (pe_call G_deep hr (by exact rfl) m_deep k_deep b_deep .nil pass0 (pa_cons (pv 0) pa_nil)))
  (pss_cons (ps_if ((pw_or (pt_not (pt_val (pe_call G__law_whole hr (by exact rfl) m__law_whole k__law_whole b__law_whole .nil pass0 (pa_cons (pv 2) pa_nil)))) (pw_or (pt_cmpR (op_ne) (pv 2) (pe_callB call_len_seq (by exact rfl) m_len Ken.boot_len (pa_cons (pv 1) pa_nil)) (nomark _)) (pw_or (pt_not (pt_val (pe_call G__law_whole hr (by exact rfl) m__law_whole k__law_whole b__law_whole .nil pass0 (pa_cons (pv 3) pa_nil)))) (pw_or1 (pt_cmpR (op_ne) (pv 3) (pe_call G__law_depth hr (by exact rfl) m__law_depth k__law_depth b__law_depth .nil pass0 (pa_cons (pv 0) pa_nil)) (nomark _))))))).pt
    (pss_one (ps_ret pe_bl))
    pss_nil)
  (pss_cons (ps_setLCG (i := 4) sc__law_counted.nd rfl (Or.inl rfl) (blk0 (N' := ["_law_here"]) (by decide +kernel) (by decide +kernel) rfl (by decide +kernel)) rfl (pi_list (pv 1)) (fun _ _ _ _ => (pg_name (i := 0) (show (["_law_here"] : List Str).Nodup from by decide +kernel) rfl (Or.inl rfl))) (fun _ _ => turn_L1 (tg2 := (.Name "" ⟨0, 0, 0, 0⟩)) (iter2 := (.Name "" ⟨0, 0, 0, 0⟩))) (fun _ _ _ _ _ => (pk_test (pt_cmpR (op_eq) (pe_ix (ix_tupK (K := K) rfl) (pv 0) pe_int (fun _ _ => rfl)) pe_str (nomark _)) (pk_emitL (pe_ix (ix_tupK (K := K) rfl) (pv 0) pe_int (fun _ _ => rfl))))) rfl)
  (pss_cons (ps_set (i := 5) sc__law_counted.nd rfl (Or.inl rfl) (pe_call G_letters hr (by exact rfl) m_letters k_letters b_letters .nil pass0 (pa_cons (pv 0) pa_nil)))
  (pss_cons (ps_if ((pw_or (pt_not (pt_val (pe_callB call_isi (by exact rfl) m_isinstance Ken.boot_isinstance (pa_cons (pv 5) (pa_cons (pe_bltn (v := .ty "list") (by exact rfl) m_list Ken.boot_list (by exact rfl)) pa_nil))))) (pw_or1 (pt_cmpR (op_neD (hu_150 hr)) (pe_lcG (blk0 (N' := ["_law_word"]) (by decide +kernel) (by decide +kernel) rfl (by decide +kernel)) rfl (pi_list (pv 5)) (fun _ _ _ _ => (pg_name (i := 0) (show (["_law_word"] : List Str).Nodup from by decide +kernel) rfl (Or.inl rfl))) (fun _ _ => turn_L1 (tg2 := (.Name "" ⟨0, 0, 0, 0⟩)) (iter2 := (.Name "" ⟨0, 0, 0, 0⟩))) (fun _ _ _ _ _ => (pk_test (pt_not (pt_val (pe_callB (call_isiK (K := K) rfl) (by exact rfl) (by exact m_isinstance) Ken.boot_isinstance (pa_cons (pv 0) (pa_cons (pe_bltn (v := .ty "str") (by exact rfl) (by exact m_str) Ken.boot_str (by exact rfl)) pa_nil))))) (pk_emitL (pv 0))))) (pe_lst pa_nil) (nomark _))))).pt
    (pss_one (ps_ret pe_bl))
    pss_nil)
  (pss_cons (ps_if (pt_cmpR (op_neD (hu_150 hr)) (pv 5) (pe_callB (call_sortedS (P := P) (w := w) rfl rfl rfl) (by exact rfl) m_sorted Ken.boot_sorted (pa_cons (pe_callTy (call_setL (P := P) (w := w) rfl rfl rfl) (by exact rfl) m_set Ken.boot_set (pa_cons (pv 4) pa_nil)) pa_nil)) (nomark _))
    (pss_one (ps_ret pe_bl))
    pss_nil)
  (pss_cons (ps_expr (pe_bm PySem.F.plainAttrs_list PySem.F.slot_list_append PySem.F.type_list_append mt_append (pv 5) (pa_cons pe_str pa_nil)))
  (pss_cons (ps_if (pt_cmpR (op_neD (hu_150 hr)) (pe_call G_letters hr (by exact rfl) m_letters k_letters b_letters .nil pass0 (pa_cons (pv 0) pa_nil)) (pe_slice sl_list (pv 5) po_none (po_some (pe_un un_neg pe_int))) (nomark _))
    (pss_one (ps_ret pe_bl))
    pss_nil)
  (pss_one (ps_ret (pe_call G__law_same hr (by exact rfl) m__law_same k__law_same b__law_same .nil pass0 (pa_cons (pe_call G_negated hr (by exact rfl) m_negated k_negated b_negated .nil pass0 (pa_cons (pv 0) pa_nil)) (pa_cons (pe_tup (pa_cons pe_str (pa_cons (pv 0) (pa_cons (pe_tup (pa_cons pe_str pa_nil)) pa_nil)))) pa_nil))))))))))))))), ?_⟩
  refine seq_then (fun σ' H' => ∃ ls zs ts, σ' = [some v, some (.ref ls), none, none, none, none] ∧ Same H H' ∧ H' ls = some (.lst zs) ∧ Paired (IsT K H') zs ts ∧ AllIn t ts) ?_ ?_
  rotate_left
  · intro C hC
    walk_at "rd"
    exact ⟨v, t, rfl, hT, by omega, fun r H' us ts e fr h hP hA => hC _ _ ⟨r, us, ts, rfl, e, h, hP, hA⟩⟩
  rintro σ1 H1 ⟨ls, zs, ts, rfl, e1, h1, hP1, hA⟩
  have lz : zs.length = ts.length := Paired.length hP1
  have lts := hA.len
  refine seq_then (fun σ' H' => σ' = [some v, some (.ref ls), some (.int (t.parts : Nat)), none, none, none] ∧ Same H1 H') ?_ ?_
  rotate_left
  · intro C hC
    walk_at "rd"
    exact ⟨v, t, rfl, hT.keep e1.keepT, by omega, fun H' e => hC _ _ ⟨rfl, e⟩⟩
  rintro σ2 H2 ⟨rfl, e2⟩
  refine seq_then (fun σ' H' => σ' = [some v, some (.ref ls), some (.int (t.parts : Nat)), some (.int (t.deep : Nat)), none, none] ∧ Same H1 H') ?_ ?_
  rotate_left
  · intro C hC
    walk_at "rd"
    exact ⟨v, t, rfl, hT.keep (e1.trans e2).keepT, by omega, fun H' e => hC _ _ ⟨rfl, e2.trans e⟩⟩
  rintro σ3 H3 ⟨rfl, e3⟩
  refine seq_then (fun σ' H' => σ' = [some v, some (.ref ls), some (.int (t.parts : Nat)), some (.int (t.deep : Nat)), none, none] ∧ Same H1 H') ?_ ?_
  rotate_left
  · intro C hC
    walk_at "rd"
    refine ⟨(t.parts : Nat), rfl, true, rfl, ?_⟩
    rw [if_neg (by decide)]
    refine ⟨zs, .inl (SqL.of (e3 _ _ h1)), ?_⟩
    rw [if_neg (by rw [lz, lts]; simp)]
    refine ⟨(t.deep : Nat), rfl, true, rfl, ?_⟩
    rw [if_neg (by decide)]
    refine ⟨v, t, rfl, hT.keep (e1.trans e3).keepT, hok, by omega, fun H' e => ⟨rfl, ?_⟩⟩
    rw [if_neg (by simp)]
    exact hC _ _ ⟨rfl, e3.trans e⟩
  rintro σ4 H4 ⟨rfl, e4⟩
  refine seq_then (fun σ' H' => ∃ ld, σ' = [some v, some (.ref ls), some (.int (t.parts : Nat)), some (.int (t.deep : Nat)), some (.ref ld), none] ∧ Same H1 H' ∧ H' ld = some (.lst ((ts.flatMap Tm.here).map V.str))) ?_ ?_
  rotate_left
  · intro C hC
    walk_at "rd"
    refine ⟨⟨_, SqL.of (e4 _ _ h1)⟩, fun acc hacc => ?_⟩
    refine comp_list (xs := zs) (fun i H' => Same H4 H' ∧ H' acc = some (.lst (((ts.take i).flatMap Tm.here).map V.str))) ⟨same_new hacc _, upd_same⟩ (fun i H' _ ⟨e, _⟩ => SqL.of (e _ _ (e4 _ _ h1))) (fun i u H' N hx ⟨e, h⟩ hN => ?_) (fun H' ⟨e, h⟩ => hC _ _ ⟨acc, rfl, e4.trans e, ?_⟩)
    · obtain ⟨s', hs', hxT⟩ := paired_get hP1 hx
      have hxT' := hxT.keep (e4.trans e).keepT
      have eh : (ts.take (i + 1)).flatMap Tm.here = (ts.take i).flatMap Tm.here ++ s'.here := by
        rw [take_snoc hs', List.flatMap_append]
        show _ ++ (s'.here ++ []) = _
        rw [List.append_nil]
      have hl := heres_len (ts.take i)
      rw [List.length_take] at hl
      walk_at "rd"
      cases s' with
      | low =>
        obtain ⟨b, rfl, hs⟩ := isT_low.mp hxT'
        refine ⟨wk_set (i := 0) rfl, b, rfl, _, hs, _, rfl, rfl, ?_⟩
        rw [if_neg (by decide)]
        exact hN _ ⟨e, by rw [eh]; show _ = some (HO.lst ((_ ++ []).map V.str)); rw [List.append_nil]; exact h⟩
      | ltr y =>
        obtain ⟨b, rfl, hs⟩ := isT_ltr.mp hxT'
        refine ⟨wk_set (i := 0) rfl, b, rfl, _, hs, _, rfl, rfl, ?_⟩
        rw [if_pos rfl]
        refine ⟨b, rfl, _, hs, _, rfl, _, h, small1M (by rw [List.length_map]; omega), hN _ ⟨e.write hacc, ?_⟩⟩
        rw [upd_same, eh, List.map_append]; rfl
      | nd kd a1 b1 =>
        obtain ⟨b, vx, vy, rfl, hs, hx1, hy1⟩ := isT_nd.mp hxT'
        refine ⟨wk_set (i := 0) rfl, b, rfl, _, hs, _, rfl, rfl, ?_⟩
        rw [if_neg (by cases kd <;> decide)]
        exact hN _ ⟨e, by rw [eh]; show _ = some (HO.lst ((_ ++ []).map V.str)); rw [List.append_nil]; exact h⟩
    · rw [h, lz, List.take_length]
  rintro σ5 H5 ⟨ld, rfl, e5, h5⟩
  have E5 := e1.trans e5
  refine seq_then (fun σ' H' => ∃ lt ys, σ' = [some v, some (.ref ls), some (.int (t.parts : Nat)), some (.int (t.deep : Nat)), some (.ref ld), some (.ref lt)] ∧ Same H5 H' ∧ H5 lt = none ∧ H' lt = some (.lst (ys.map V.str)) ∧ ys.Nodup ∧ PyProof.Rows.sortedS ys = true ∧ ∀ x, x ∈ ys ↔ x ∈ t.ltrs) ?_ ?_
  rotate_left
  · intro C hC
    walk_at "rd"
    exact ⟨v, t, us, rfl, hT.keep E5.keepT, hp, hW, by omega, fun r H' ys e fr h hn hs hm => hC _ _ ⟨r, ys, rfl, e, fr, h, hn, hs, hm⟩⟩
  rintro σ6 H6 ⟨lt, ys, rfl, e6, f6, h6, hn6, hs6, hm6⟩
  have wy : ∀ y ∈ ys, Word y := fun y hy => by
    exact ltrs_ok hok y ((hm6 y).mp hy)
  have ly : ys.length ≤ 6 := Nat.le_trans (len_le_sub hn6 fun x hx => ltrs_inW hW x ((hm6 x).mp hx)) lus
  refine seq_then (fun σ' H' => σ' = [some v, some (.ref ls), some (.int (t.parts : Nat)), some (.int (t.deep : Nat)), some (.ref ld), some (.ref lt)] ∧ Same H6 H') ?_ ?_
  rotate_left
  · intro C hC
    walk_at "rd"
    refine ⟨_, .of (.lst h6), _, kit_same K "list", ?_⟩
    rw [if_neg (by decide)]
    refine ⟨⟨_, SqL.of h6⟩, fun acc hacc => ?_⟩
    refine comp_list (xs := ys.map V.str) (fun i H' => Same H6 H' ∧ H' acc = some (.lst [])) ⟨same_new hacc _, upd_same⟩ (fun i H' _ ⟨e, _⟩ => SqL.of (e _ _ h6)) (fun i u H' N hx ⟨e, h⟩ hN => ?_) (fun H' ⟨e, h⟩ => ?_)
    · rw [List.getElem?_map] at hx
      cases el : ys[i]? with
      | none => rw [el] at hx; cases hx
      | some y =>
        rw [el] at hx; cases hx
        walk_at "rd"
        refine ⟨wk_set (i := 0) rfl, _, .of (.str _), _, kit_same K "str", ?_⟩
        rw [if_neg (by decide)]
        exact hN _ ⟨e, h⟩
    · refine ⟨Nat.zero_le _, fun p hp => ?_⟩
      have sp := same_new hp (HO.lst [])
      refine ⟨.list [], ?_, .list [], ?_, rfl, rfl, by decide, ?_⟩
      · rw [Dn]; exact ⟨acc, [], rfl, SqL.of (sp _ _ h), by rw [DnAll]⟩
      · rw [Dn]; exact ⟨p, [], rfl, SqL.of upd_same, by rw [DnAll]⟩
      rw [if_pos trivial, if_neg (by decide)]
      exact hC _ _ ⟨rfl, e.trans sp⟩
  rintro σ7 H7 ⟨rfl, e7⟩
  refine seq_then (fun σ' H' => σ' = [some v, some (.ref ls), some (.int (t.parts : Nat)), some (.int (t.deep : Nat)), some (.ref ld), some (.ref lt)] ∧ Same H6 H') ?_ ?_
  rotate_left
  · intro C hC
    walk_at "rd"
    have hdl := heres_len ts
    have h7d := (e6.trans e7) _ _ h5
    have mm : ∀ x, x ∈ metS (ts.flatMap Tm.here) (ts.flatMap Tm.here).length ↔ x ∈ t.ltrs := fun x => by rw [metS_mem x _ (Nat.le_refl _), List.take_length, hA.ltrs]
    refine ⟨_, SqL.of h7d, by omega, fun a ha => ⟨_, upd_same, ?_, fun l ys' hl hperm hso => ?_⟩⟩
    · have := len_le_sub (metS_nodup (xs := ts.flatMap Tm.here) (ts.flatMap Tm.here).length) fun x hx => ltrs_inW hW x ((mm x).mp hx)
      omega
    have ey : ys' = ys := sorted_uniq hso (hperm.nodup_iff.mpr (metS_nodup _)) hs6 hn6 fun x => by rw [hperm.mem_iff, mm x, hm6 x]
    subst ey
    have sp := (same_new ha (setO P w a (metS (ts.flatMap Tm.here) (ts.flatMap Tm.here).length))).trans (same_new hl (HO.lst (ys'.map V.str)))
    refine ⟨.list (ys'.map PyData.str), ?_, .list (ys'.map PyData.str), ?_, strs_lay wy, strs_lay wy, Nat.le_trans (Nat.min_le_left _ _) (Nat.le_trans (strs_depth _) (by decide)), ?_⟩
    · rw [Dn]; exact ⟨lt, _, rfl, SqL.of (sp _ _ (e7 _ _ h6)), strs_dn _⟩
    · rw [Dn]; exact ⟨l, _, rfl, SqL.of upd_same, strs_dn _⟩
    rw [if_pos trivial, strs_self, if_neg (by decide)]
    exact hC _ _ ⟨rfl, e7.trans sp⟩
  rintro σ8 H8 ⟨rfl, e8⟩
  have h8t := e8 _ _ h6
  refine seq_then (fun σ' H' => σ' = [some v, some (.ref ls), some (.int (t.parts : Nat)), some (.int (t.deep : Nat)), some (.ref ld), some (.ref lt)] ∧ Same H5 H' ∧ H' lt = some (.lst (ys.map V.str ++ [.str "zz"]))) ?_ ?_
  rotate_left
  · intro C hC
    walk_at "rd"
    exact ⟨.inl ⟨rfl, _, SqL.of h8t⟩, _, h8t, small1M (by rw [List.length_map]; omega), hC _ _ ⟨rfl, (e6.trans e8).write f6, upd_same⟩⟩
  rintro σ9 H9 ⟨rfl, e9, h9⟩
  have E9 := E5.trans e9
  refine seq_then (fun σ' H' => σ' = [some v, some (.ref ls), some (.int (t.parts : Nat)), some (.int (t.deep : Nat)), some (.ref ld), some (.ref lt)] ∧ Same H5 H') ?_ ?_
  rotate_left
  · intro C hC
    walk_at "rd"
    refine ⟨v, t, us, rfl, hT.keep E9.keepT, hp, hW, by omega, fun r H' ys' e fr h hn hs hm => ?_⟩
    have ey : ys' = ys := sorted_uniq hs hn hs6 hn6 fun x => by rw [hm x, hm6 x]
    subst ey
    refine ⟨_, SqL.of (e _ _ h9), fun p hp => ?_⟩
    have ec : cutV (ys'.map V.str ++ [V.str "zz"]) none (some (-1)) = ys'.map V.str := by
      rw [cut_init (by rw [List.length_append, List.length_singleton]; omega), List.dropLast_concat]
    rw [ec]
    have sp := same_new hp (HO.lst (ys'.map V.str))
    refine ⟨.list (ys'.map PyData.str), ?_, .list (ys'.map PyData.str), ?_, strs_lay wy, strs_lay wy, Nat.le_trans (Nat.min_le_left _ _) (Nat.le_trans (strs_depth _) (by decide)), ?_⟩
    · rw [Dn]; exact ⟨r, _, rfl, SqL.of (sp _ _ h), strs_dn _⟩
    · rw [Dn]; exact ⟨p, _, rfl, SqL.of upd_same, strs_dn _⟩
    rw [if_pos trivial, strs_self, if_neg (by decide)]
    exact hC _ _ ⟨rfl, (e9.trans e).trans sp⟩
  rintro σ10 H10 ⟨rfl, e10⟩
  have E10 := E5.trans e10
  walk_at "rd"
  refine ⟨v, t, rfl, hT.keep E10.keepT, fun r H' e hrT => ⟨by decide, fun p hp => ⟨by decide, fun p1 hp1 => ?_⟩⟩⟩
  have s1 := same_new hp (HO.tup [V.str "low"])
  have s2 := same_new hp1 (HO.tup [V.str "then", v, V.ref p])
  have lowT : IsT K (upd H' p (HO.tup [V.str "low"])) (.ref p) .low := isT_low.mpr ⟨p, rfl, .inl (.inl upd_same)⟩
  refine ⟨r, .ref p1, .inr (.nd .thn t .low), rfl, (hrT.keep s1.keepT).keep s2.keepT, isT_nd.mpr ⟨p1, v, .ref p, rfl, .inl (.inl upd_same), ((hT.keep (E10.trans e).keepT).keep s1.keepT).keep s2.keepT, lowT.keep s2.keepT⟩, ?_, q _ (((E10.trans e).trans s1).trans s2)⟩
  show 1 + max t.deep 1 < 60
  omega
end
set_option Elab.async false
set_option linter.all false
set_option maxRecDepth 100000
set_option maxHeartbeats 4000000
local macro_rules | `(tactic| walk_at "rd") => `(tactic| walk_at "rdx_3")
local macro_rules | `(tactic| walk_at "ri") => `(tactic| walk_at "rdx_4")
abbrev s__law_list : Stmt := top 24
theorem sc__law_list : FnScope ["_law_script", "_law_some", "_law_row", "_law_k", "_law_cell_here", "_law_inner"] ["_law_script", "_law_some"] (defScope s__law_list) := ⟨rfl, rfl, rfl, by decide +kernel, rfl, by decide +kernel, by decide +kernel⟩
abbrev s__law_sorted_once : Stmt := top 25
theorem sc__law_sorted_once : FnScope ["_law_found", "_law_row", "_law_one", "_law_other", "_law_statement_here"] ["_law_found", "_law_row"] (defScope s__law_sorted_once) := ⟨rfl, rfl, rfl, by decide +kernel, rfl, by decide +kernel, by decide +kernel⟩
section
variable {P : Program} {w : World} {K : PySem.W.Frag} {mg : Str → Option Value} {base : Heap}
theorem ok__law_list {k : Nat} {f__law_list : Addr} {fd__law_list : FuncData} (F__law_list : Fun K "_law_list" "_law_list" s__law_list f__law_list fd__law_list) {f__law_mix : Addr} {fd__law_mix : FuncData} (G__law_mix : FnOk P w K mg base CX0 k f__law_mix fd__law_mix ["_law_cell_here", "_law_k"] (sp_mix)) (m__law_mix : mg "_law_mix" = some (.ref f__law_mix)) (k__law_mix : PySem.W.keepIn K (.ref f__law_mix) = true) (b__law_mix : Binds K fd__law_mix ["_law_cell_here", "_law_k"] []) {f__law_within : Addr} {fd__law_within : FuncData} (G__law_within : FnOk P w K mg base CX0 k f__law_within fd__law_within ["_law_statement_here"] (sp_withinL K)) (m__law_within : mg "_law_within" = some (.ref f__law_within)) (k__law_within : PySem.W.keepIn K (.ref f__law_within) = true) (b__law_within : Binds K fd__law_within ["_law_statement_here"] []) {f__law_cell : Addr} {fd__law_cell : FuncData} (G__law_cell : FnOk P w K mg base CX0 k f__law_cell fd__law_cell ["_law_script", "_law_k"] (sp_cell K)) (m__law_cell : mg "_law_cell" = some (.ref f__law_cell)) (k__law_cell : PySem.W.keepIn K (.ref f__law_cell) = true) (b__law_cell : Binds K fd__law_cell ["_law_script", "_law_k"] []) (m_range : mg "range" = none) (m_len : mg "len" = none) (m_min : mg "min" = none) (m_max : mg "max" = none) : FnOk P w K mg base CX0 (k + 1) f__law_list fd__law_list ["_law_script", "_law_some"] (sp_listL K) := by
  refine F__law_list.ok sc__law_list (fun vs H Q E h => ?_) (fun cdv A outer s H vs Q E hr h => ?_)
  · obtain ⟨a, ls, ns, xs, ss, rfl, _⟩ := h
    rfl
  obtain ⟨a, ls, ns, xs, ss, rfl, hS, hl, hls, hP, l1, l3, hps, q⟩ := h
  have lx : xs.length = ss.length := Paired.length hP
  refine ⟨_, (pss_cons (ps_set (i := 2) sc__law_list.nd rfl (Or.inl rfl) (pe_lst pa_nil))
  (pss_cons (ps_for PassesOwn.never rfl (pi_range1 rfl m_range (pa_cons (pe_op op_add pe_int (pe_op op_mod (pe_call G__law_cell hr (by exact rfl) m__law_cell k__law_cell b__law_cell .nil pass0 (pa_cons (pv 0) (pa_cons pe_int pa_nil))) pe_int)) pa_nil)) (pg_name (i := 3) sc__law_list.nd rfl (Or.inl rfl))
    (pss_cons (ps_set (i := 4) sc__law_list.nd rfl (Or.inl rfl) (pe_call G__law_mix hr (by exact rfl) m__law_mix k__law_mix b__law_mix .nil pass0 (pa_cons (pe_call G__law_cell hr (by exact rfl) m__law_cell k__law_cell b__law_cell .nil pass0 (pa_cons (pv 0) (pa_cons (pe_op op_add pe_int (pe_op op_mod (pv 3) (pe_callB (call_max2 rfl) (by exact rfl) m_max Ken.boot_max (pa_cons pe_int (pa_cons (pe_callB call_len_seq (by exact rfl) m_len Ken.boot_len (pa_cons (pv 0) pa_nil)) pa_nil))))) pa_nil))) (pa_cons (pe_op op_add (pv 3) pe_int) pa_nil))))
  (pss_cons (ps_set (i := 5) sc__law_list.nd rfl (Or.inl rfl) (pe_call G__law_within hr (by exact rfl) m__law_within k__law_within b__law_within .nil pass0 (pa_cons (pe_ix ix_list (pv 1) (pe_op op_mod (pv 4) (pe_callB call_len_seq (by exact rfl) m_len Ken.boot_len (pa_cons (pv 1) pa_nil))) (fun _ _ => rfl)) pa_nil)))
  (pss_cons (ps_expr (pe_bm PySem.F.plainAttrs_list PySem.F.slot_list_append PySem.F.type_list_append mt_append (pv 2) (pa_cons (pe_ix ix_list (pv 5) (pe_op op_mod (pe_op op_fdiv (pv 4) pe_int) (pe_callB (call_min2 rfl) (by exact rfl) m_min Ken.boot_min (pa_cons (pe_callB call_len_seq (by exact rfl) m_len Ken.boot_len (pa_cons (pv 5) pa_nil)) (pa_cons pe_int pa_nil)))) (fun _ _ => rfl)) pa_nil)))
  (pss_one (ps_if (pt_cmpR (op_eq) (pe_op op_mod (pe_op op_fdiv (pv 4) pe_int) pe_int) pe_int (nomark _))
    (pss_one (ps_expr (pe_bm PySem.F.plainAttrs_list PySem.F.slot_list_append PySem.F.type_list_append mt_append (pv 2) (pa_cons (pe_ix ix_list (pv 2) (pe_op op_mod (pe_op op_fdiv (pv 4) pe_int) (pe_callB call_len_seq (by exact rfl) m_len Ken.boot_len (pa_cons (pv 2) pa_nil))) (fun _ _ => rfl)) pa_nil))))
    pss_nil))))))
  (pss_one (ps_ret (pv 2))))), ?_⟩
  refine seq_then (fun σ' H' => ∃ r, σ' = [some (.ref a), some (.ref ls), some (.ref r), none, none, none] ∧ Same H H' ∧ H r = none ∧ H' r = some (.lst [])) ?_ ?_
  rotate_left
  · intro C hC
    walk_at "rd"
    exact ⟨by decide, fun p hp => hC _ _ ⟨p, rfl, same_new hp _, hp, upd_same⟩⟩
  rintro σ1 H1 ⟨r, rfl, e1, f1, h1⟩
  refine seq_then (fun σ' H' => ∃ x3 x4 x5 us os, σ' = [some (.ref a), some (.ref ls), some (.ref r), x3, x4, x5] ∧ Same H H' ∧ H' r = some (.lst us) ∧ Paired (IsT K H') us os ∧ os.length ≤ 44 ∧ ∀ o ∈ os, ∃ s ∈ ss, o ∈ s.pre) ?_ ?_
  rotate_left
  · intro C hC
    have b0 := Int.emod_nonneg (cellOf ns 1) (show (20 : Int) ≠ 0 by decide)
    have b1 := Int.emod_lt_of_pos (cellOf ns 1) (show (0 : Int) < 20 by decide)
    refine for_rangeT (n := (2 + cellOf ns 1 % 20).toNat) (fun Q' h => ?_) (by omega) (fun i σ' H' => ∃ x3 x4 x5 us os, σ' = [some (.ref a), some (.ref ls), some (.ref r), x3, x4, x5] ∧ Same H H' ∧ H' r = some (.lst us) ∧ Paired (IsT K H') us os ∧ os.length ≤ 2 * i ∧ ∀ o ∈ os, ∃ s ∈ ss, o ∈ s.pre) ⟨none, none, none, [], [], rfl, e1, h1, .nil, Nat.le_refl _, fun o ho => by simp at ho⟩ (fun i σ' H' hi hp => ?_) (fun σ' H' hp => ?_)
    · walk_at "rd"
      rw [Int.toNat_of_nonneg (by omega)] at h
      exact ⟨a, ns, _, rfl, e1.seq hS, hl, by decide, by decide, _, rfl, by decide, h⟩
    · obtain ⟨x3, x4, x5, us, os, rfl, e, h, hu, hlen, hin⟩ := hp
      have lu := Paired.length hu
      show tSeq _ _ _ _ _
      refine seq_then (fun σ' H2 => ∃ c : Int, 0 ≤ c ∧ σ' = [some (.ref a), some (.ref ls), some (.ref r), some (.int (i : Nat)), some (.int c), x5] ∧ H2 = H') ?_ ?_
      rotate_left
      · intro C hC
        walk_at "rd"
        refine ⟨_, .inl (e.seq hS), ?_⟩
        have mx : ∃ m : Int, (if ((ns.map V.int).length : Int) > 1 then ((ns.map V.int).length : Int) else 1) = m ∧ 1 ≤ m ∧ m ≤ 63 := by
          rw [List.length_map]
          by_cases c1 : (ns.length : Int) > 1
          · rw [if_pos c1]; exact ⟨_, rfl, by omega, by omega⟩
          · rw [if_neg c1]; exact ⟨1, rfl, by decide, by decide⟩
        obtain ⟨mxv, em, hm1, hm2⟩ := mx
        rw [em]
        have c0 := Int.emod_nonneg (i : Int) (show mxv ≠ 0 by omega)
        have c1 := Int.emod_lt_of_pos (i : Int) (show 0 < mxv by omega)
        exact ⟨by omega, a, ns, _, rfl, e.seq hS, hl, by omega, by omega, _, _, rfl, by omega, by omega, hC _ _ ⟨_, mix_nn _ _, rfl, rfl⟩⟩
      rintro σ3 H3 ⟨c, hc, rfl, rfl⟩
      refine seq_then (fun σ' H2 => ∃ li ws vs' t, σ' = [some (.ref a), some (.ref ls), some (.ref r), some (.int (i : Nat)), some (.int c), some (.ref li)] ∧ Same H3 H2 ∧ H2 li = some (.lst vs') ∧ Paired (IsT K H2) vs' ws ∧ AllIn t ws ∧ t ∈ ss) ?_ ?_
      rotate_left
      · intro C hC
        walk_at "rd"
        obtain ⟨j, hj, ha⟩ := at_mod (xs := xs) (c := c) (m := (xs.length : Int)) (by omega) (Int.le_refl _)
        obtain ⟨s', hs', hxT⟩ := paired_get hP (List.getElem?_eq_getElem hj)
        have sp := hps s' (List.mem_of_getElem? hs')
        exact ⟨xs, .inl (SqL.of (e _ _ hls)), by omega, _, SqL.of (e _ _ hls), _, ha _ (List.getElem?_eq_getElem hj), xs[j], s', rfl, hxT.keep e.keepT, by omega, fun r' H' us ts e' fr h' hP' hA => hC _ _ ⟨r', ts, us, s', rfl, e', h', hP', hA, List.mem_of_getElem? hs'⟩⟩
      rintro σ4 H4 ⟨li, ws, vs', t, rfl, e4, h4, hw4, hA, hts⟩
      have h4r := e4 _ _ h
      have lw := Paired.length hw4
      have l0 : 0 < ws.length := (List.getElem?_eq_some_iff.mp hA.head).1
      have E4 := e.trans e4
      walk_at "rd"
      obtain ⟨m, em, hm0, hm1⟩ : ∃ m : Int, (if (12 : Int) < (vs'.length : Int) then (12 : Int) else (vs'.length : Int)) = m ∧ 0 < m ∧ m ≤ (vs'.length : Int) := ⟨_, rfl, by split <;> omega, by split <;> omega⟩
      obtain ⟨j, hj, ha⟩ := at_mod (xs := vs') (c := c / 8) hm0 hm1
      obtain ⟨o, ho, hoT⟩ := paired_get hw4 (List.getElem?_eq_getElem hj)
      have hop : ∃ s ∈ ss, o ∈ s.pre := ⟨t, hts, hA.pre o (List.mem_of_getElem? ho)⟩
      refine ⟨.inl ⟨rfl, _, SqL.of h4r⟩, ⟨by decide, by decide⟩, vs', .inl (SqL.of h4), by rw [em]; exact hm0, _, SqL.of h4, vs'[j], by rw [em]; exact ha _ (List.getElem?_eq_getElem hj), us, h4r, small1M (by omega), ⟨by decide, by decide⟩, by decide, ?_⟩
      have k5 : KeepT K H4 (upd H4 r (HO.lst (us ++ [vs'[j]]))) := keepT_lst h4r
      have h5 : upd H4 r (HO.lst (us ++ [vs'[j]])) r = some (.lst (us ++ [vs'[j]])) := upd_same
      have E5 := E4.write (o := HO.lst (us ++ [vs'[j]])) f1
      have hu5 : Paired (IsT K (upd H4 r (HO.lst (us ++ [vs'[j]])))) (us ++ [vs'[j]]) (os ++ [o]) := paired_app (Paired.mapP hu fun _ _ z => (z.keep e4.keepT).keep k5) (.cons (hoT.keep k5) .nil)
      generalize us ++ [vs'[j]] = us2 at k5 h5 E5 hu5 ⊢
      have hin5 : ∀ x ∈ os ++ [o], ∃ s ∈ ss, x ∈ s.pre := fun x hx => by
        rcases List.mem_append.mp hx with z | z
        · exact hin x z
        · rw [List.mem_singleton.mp z]; exact hop
      have l5 : (os ++ [o]).length ≤ 2 * i + 1 := by rw [List.length_append, List.length_singleton]; omega
      have l5' : 0 < (os ++ [o]).length := by rw [List.length_append, List.length_singleton]; omega
      generalize os ++ [o] = os2 at hu5 hin5 l5 l5'
      generalize upd H4 r (HO.lst us2) = H5 at h5 E5 hu5 k5
      have lu5 := Paired.length hu5
      refine ite2 (fun _ => ?_) (fun _ => ?_)
      · obtain ⟨j2, hj2, ha2⟩ := at_mod (xs := us2) (c := c / 288) (m := (us2.length : Int)) (by omega) (Int.le_refl _)
        obtain ⟨o2, ho2, ho2T⟩ := paired_get hu5 (List.getElem?_eq_getElem hj2)
        have k6 : KeepT K H5 (upd H5 r (HO.lst (us2 ++ [us2[j2]]))) := keepT_lst h5
        refine ⟨.inl ⟨rfl, _, SqL.of h5⟩, ⟨by decide, by decide⟩, us2, .inl (SqL.of h5), by omega, us2, SqL.of h5, us2[j2], ha2 _ (List.getElem?_eq_getElem hj2), us2, h5, small1M (by omega), E5.write f1, _, upd_same, os2 ++ [o2], paired_app (Paired.mapP hu5 fun _ _ z => z.keep k6) (.cons (ho2T.keep k6) .nil), by rw [List.length_append, List.length_singleton]; omega, fun x hx => ?_⟩
        rcases List.mem_append.mp hx with z | z
        · exact hin5 x z
        · rw [List.mem_singleton.mp z]; exact hin5 o2 (List.mem_of_getElem? ho2)
      · exact ⟨E5, us2, h5, os2, hu5, by omega, hin5⟩
    · obtain ⟨x3, x4, x5, us, os, rfl, e, h, hu, hlen, hin⟩ := hp
      exact hC _ _ ⟨x3, x4, x5, us, os, rfl, e, h, hu, by omega, hin⟩
  rintro σ2 H2 ⟨x3, x4, x5, us, os, rfl, e2, h2, hu, hlen, hin⟩
  walk_at "rd"
  exact q _ _ us os e2 f1 h2 hu hlen hin
theorem ok__law_sorted_once {k : Nat} {f__law_sorted_once : Addr} {fd__law_sorted_once : FuncData} (F__law_sorted_once : Fun K "_law_sorted_once" "_law_sorted_once" s__law_sorted_once f__law_sorted_once fd__law_sorted_once) {f__law_same : Addr} {fd__law_same : FuncData} (G__law_same : FnOk P w K mg base CX0 k f__law_same fd__law_same ["_law_found", "_law_due"] (sp_same K 60)) (m__law_same : mg "_law_same" = some (.ref f__law_same)) (k__law_same : PySem.W.keepIn K (.ref f__law_same) = true) (b__law_same : Binds K fd__law_same ["_law_found", "_law_due"] []) (m_zip : mg "zip" = none) (m_isinstance : mg "isinstance" = none) (m_list : mg "list" = none) : FnOk P w K mg base CX0 (k + 1) f__law_sorted_once fd__law_sorted_once ["_law_found", "_law_row"] (sp_sonce K) := by
  refine F__law_sorted_once.ok sc__law_sorted_once (fun vs H Q E h => ?_) (fun cdv A outer s H vs Q E hr h => ?_)
  · obtain ⟨f, r, us, rs, os, ts, rfl, _⟩ := h
    rfl
  obtain ⟨f, r, us, rs, os, ts, rfl, hf, hr', hu, hrs, hnd, hso, hm, hok, lo, lt, q⟩ := h
  have lu : us.length = os.length := Paired.length hu
  have lr : rs.length = ts.length := Paired.length hrs
  have oko : ∀ o ∈ os, o.ok ∧ o.deep ≤ 47 := fun o ho => hok o ((hm o).mp ho)
  refine ⟨_, (pss_cons (ps_if (pt_not (pt_val (pe_callB call_isi (by exact rfl) m_isinstance Ken.boot_isinstance (pa_cons (pv 0) (pa_cons (pe_bltn (v := .ty "list") (by exact rfl) m_list Ken.boot_list (by exact rfl)) pa_nil)))))
    (pss_one (ps_ret pe_bl))
    pss_nil)
  (pss_cons (ps_for PassesOwn.never rfl (pi_zip rfl m_zip (pa_cons (pe_slice sl_list (pv 0) po_none (po_some (pe_un un_neg pe_int))) (pa_cons (pe_slice sl_list (pv 0) (po_some pe_int) po_none) pa_nil))) (pg_tup rfl (pgs_cons (pg_name (i := 2) sc__law_sorted_once.nd rfl (Or.inl rfl)) (pgs_cons (pg_name (i := 3) sc__law_sorted_once.nd rfl (Or.inl rfl)) pgs_nil)))
    (pss_one (ps_if (pt_not (pt_cmpR (op_ltTm (hu_150 hr)) (pv 2) (pv 3) (nomark _)))
    (pss_one (ps_ret pe_bl))
    pss_nil)))
  (pss_cons (ps_for PassesOwn.never rfl (pi_list (pv 1)) (pg_name (i := 4) sc__law_sorted_once.nd rfl (Or.inl rfl))
    (pss_one (ps_if (pt_cmpR (op_notInT (hu_150 hr)) (pv 4) (pv 0) (by with_unfolding_all rfl))
    (pss_one (ps_ret pe_bl))
    pss_nil)))
  (pss_cons (ps_for PassesOwn.never rfl (pi_list (pv 0)) (pg_name (i := 4) sc__law_sorted_once.nd rfl (Or.inl rfl))
    (pss_one (ps_if ((pw_or (pt_cmpR (op_notInT (hu_150 hr)) (pv 4) (pv 1) (by with_unfolding_all rfl)) (pw_or1 (pt_not (pt_val (pe_call G__law_same hr (by exact rfl) m__law_same k__law_same b__law_same .nil pass0 (pa_cons (pv 4) (pa_cons (pe_ix ix_list (pv 1) (pe_bm PySem.F.plainAttrs_list PySem.F.slot_list_index PySem.F.type_list_index (mt_indexT (K := K) rfl (hu_150 hr)) (pv 1) (pa_cons (pv 4) pa_nil)) (fun _ _ => rfl)) pa_nil)))))))).pt
    (pss_one (ps_ret pe_bl))
    pss_nil)))
  (pss_one (ps_ret pe_bl)))))), ?_⟩
  refine seq_then (fun σ' H' => σ' = [some (.ref f), some (.ref r), none, none, none] ∧ H' = H) ?_ ?_
  rotate_left
  · intro C hC
    walk_at "rd"
    refine ⟨_, .of (.lst hf), _, kit_same K "list", ?_⟩
    rw [if_neg (by decide)]
    exact hC _ _ ⟨rfl, rfl⟩
  rintro σ1 H1 ⟨rfl, rfl⟩
  refine seq_then (fun σ' H' => ∃ x2 x3, σ' = [some (.ref f), some (.ref r), x2, x3, none] ∧ Same H1 H') ?_ ?_
  rotate_left
  · intro C hC
    walk_at "ri"
    refine ⟨us, SqL.of hf, fun p hp => ?_⟩
    have s1 := same_new hp (HO.lst (cutV us none (some (-1))))
    refine ⟨us, SqL.of (s1 _ _ hf), fun p1 hp1 => ?_⟩
    have s2 := s1.trans (same_new hp1 (HO.lst (cutV us (some 1) none)))
    have hp' : upd (upd H1 p (HO.lst (cutV us none (some (-1))))) p1 (HO.lst (cutV us (some 1) none)) p = some (.lst us.dropLast) := by
      rw [(same_new hp1 _) _ _ upd_same, cut_initA]
    have hp1' : upd (upd H1 p (HO.lst (cutV us none (some (-1))))) p1 (HO.lst (cutV us (some 1) none)) p1 = some (.lst us.tail) := by
      rw [upd_same, cut_tailA]
    refine ⟨⟨_, SqL.of hp'⟩, ⟨_, SqL.of hp1'⟩, ?_⟩
    generalize upd (upd H1 p (HO.lst (cutV us none (some (-1))))) p1 (HO.lst (cutV us (some 1) none)) = H2 at s2 hp' hp1'
    refine for_zip (K := K) (D := { nx := C, rt := Q }) (xs := us.dropLast) (ys := us.tail) (fun i σ' H' => ∃ x2 x3, σ' = [some (.ref f), some (.ref r), x2, x3, none] ∧ Same H2 H') (by rw [List.length_dropLast, List.length_tail]) ⟨none, none, rfl, Same.refl _⟩ (fun i σ' H' _ ⟨_, _, _, e⟩ => ⟨SqL.of (e _ _ hp'), SqL.of (e _ _ hp1')⟩) (fun i x y σ' H' T hx hy hT hp => ?_) (fun σ' H' hp => ?_)
    · obtain ⟨x2, x3, rfl, e⟩ := hp
      have eT := same_new hT (HO.tup [x, y])
      have hi := (List.getElem?_eq_some_iff.mp hx).1
      rw [List.length_dropLast] at hi
      rw [List.getElem?_dropLast, if_pos (by omega)] at hx
      rw [List.getElem?_tail] at hy
      obtain ⟨a1, ha1, hxT⟩ := paired_get hu hx
      obtain ⟨b1, hb1, hyT⟩ := paired_get hu hy
      have E' := (s2.trans e).trans eT
      have ho1 := oko a1 (List.mem_of_getElem? ha1)
      have ho2 := oko b1 (List.mem_of_getElem? hb1)
      obtain ⟨g1, z1⟩ := List.getElem?_eq_some_iff.mp ha1
      obtain ⟨g2, z2⟩ := List.getElem?_eq_some_iff.mp hb1
      have hne : a1 ≠ b1 := by rw [← z1, ← z2]; exact List.pairwise_iff_getElem.mp hnd i (i + 1) g1 g2 (Nat.lt_succ_self _)
      have hlt : lexT a1.spell b1.spell = true := by rw [← z1, ← z2]; exact List.pairwise_iff_getElem.mp hso i (i + 1) g1 g2 (Nat.lt_succ_self _)
      walk_at "rd"
      refine ⟨_, .inl (.inl upd_same), rfl, _, _, rfl, _, _, rfl, rfl, a1, hxT.keep E'.keepT, b1, hyT.keep E'.keepT, ho1.1, ho2.1, hne, by have := ho1.2; omega, ?_⟩
      rw [hlt, if_neg (by decide)]
      exact e.trans eT
    · obtain ⟨x2, x3, rfl, e⟩ := hp
      exact hC _ _ ⟨x2, x3, rfl, s2.trans e⟩
  rintro σ2 H2 ⟨x2, x3, rfl, e2⟩
  refine seq_then (fun σ' H' => ∃ x4, σ' = [some (.ref f), some (.ref r), x2, x3, x4] ∧ Same H1 H') ?_ ?_
  rotate_left
  · intro C hC
    walk_at "ri"
    refine ⟨⟨_, SqL.of (e2 _ _ hr')⟩, ?_⟩
    refine for_list (K := K) (D := { nx := C, rt := Q }) (xs := rs) (fun i σ' H' => ∃ x4, σ' = [some (.ref f), some (.ref r), x2, x3, x4] ∧ Same H1 H') ⟨none, rfl, e2⟩ (fun i σ' H' _ ⟨_, _, e⟩ => SqL.of (e _ _ hr')) (fun i v σ' H' hv hp => ?_) (fun σ' H' hp => hC _ _ hp)
    obtain ⟨x4, rfl, e⟩ := hp
    obtain ⟨t, ht, htT⟩ := paired_get hrs hv
    have tts := List.mem_of_getElem? ht
    walk_at "rd"
    refine ⟨t, htT.keep e.keepT, us, SqL.of (e _ _ hf), os, Paired.mapP hu (fun _ _ z => z.keep e.keepT), (hok t tts).1, fun s hs => (oko s hs).1, by have := (hok t tts).2; omega, ?_⟩
    rw [if_pos trivial, decide_eq_true ((hm t).mpr tts), if_neg (by decide)]
    exact e
  rintro σ3 H3 ⟨x4, rfl, e3⟩
  refine seq_then (fun σ' H' => ∃ x4, σ' = [some (.ref f), some (.ref r), x2, x3, x4] ∧ Same H1 H') ?_ ?_
  rotate_left
  · intro C hC
    walk_at "ri"
    refine ⟨⟨_, SqL.of (e3 _ _ hf)⟩, ?_⟩
    refine for_list (K := K) (D := { nx := C, rt := Q }) (xs := us) (fun i σ' H' => ∃ x4, σ' = [some (.ref f), some (.ref r), x2, x3, x4] ∧ Same H1 H') ⟨_, rfl, e3⟩ (fun i σ' H' _ ⟨_, _, e⟩ => SqL.of (e _ _ hf)) (fun i v σ' H' hv hp => ?_) (fun σ' H' hp => hC _ _ hp)
    obtain ⟨x4, rfl, e⟩ := hp
    obtain ⟨t, ht, htT⟩ := paired_get hu hv
    have tos := List.mem_of_getElem? ht
    have tts := (hm t).mp tos
    walk_at "rd"
    refine ⟨t, htT.keep e.keepT, rs, SqL.of (e _ _ hr'), ts, Paired.mapP hrs (fun _ _ z => z.keep e.keepT), (oko t tos).1, fun s hs => (hok s hs).1, by have := (oko t tos).2; omega, ?_⟩
    rw [if_pos trivial, decide_eq_true tts, if_neg (by decide)]
    refine ⟨.inl ⟨rfl, _, SqL.of (e _ _ hr')⟩, t, htT.keep e.keepT, rs, SqL.of (e _ _ hr'), ts, Paired.mapP hrs (fun _ _ z => z.keep e.keepT), (oko t tos).1, fun s hs => (hok s hs).1, by have := (oko t tos).2; omega, tts, fun j hj => ?_⟩
    have hjr : j < rs.length := by rw [lr]; exact (List.getElem?_eq_some_iff.mp hj).1
    obtain ⟨t', ht', htT'⟩ := paired_get hrs (List.getElem?_eq_getElem hjr)
    rw [hj] at ht'
    cases ht'
    refine ⟨rs, SqL.of (e _ _ hr'), rs[j], atI_nat (List.getElem?_eq_getElem hjr), v, rs[j], .inr t, rfl, htT.keep e.keepT, htT'.keep e.keepT, ?_, true, rfl, ?_⟩
    · show t.deep < 60
      have := (oko t tos).2
      omega
    · rw [if_neg (by decide)]; exact e
  rintro σ4 H4 ⟨x4, rfl, e4⟩
  walk_at "rd"
  exact q _ e4
end
set_option Elab.async false
set_option linter.all false
set_option maxRecDepth 100000
set_option maxHeartbeats 4000000
local macro_rules | `(tactic| walk_at "rd") => `(tactic| walk_at "rdx_1")
local macro_rules | `(tactic| walk_at "ri") => `(tactic| walk_at "rdx_2")
section
variable {P : Program} {w : World} {K : PySem.W.Frag} {mg : Str → Option Value} {base : Heap}
theorem ok__law_words {k : Nat} {f__law_words : Addr} {fd__law_words : FuncData} (F__law_words : Fun K "_law_words" "_law_words" s__law_words f__law_words fd__law_words) (m_range : mg "range" = none) : FnOk P w K mg base CX0 (k + 1) f__law_words fd__law_words ["_law_cell_here", "_law_many"] sp_words := by
  refine F__law_words.ok sc__law_words (fun vs H Q E h => ?_) (fun cdv A outer s H vs Q E hr h => ?_)
  · obtain ⟨c, m, rfl, _⟩ := h
    rfl
  obtain ⟨c, m, rfl, hc0, h0, h1, q⟩ := h
  refine ⟨_, (pss_cons (ps_set (i := 2) sc__law_words.nd rfl (Or.inl rfl) (pe_lst (pa_cons pe_str (pa_cons pe_str (pa_cons pe_str (pa_cons pe_str (pa_cons pe_str (pa_cons pe_str pa_nil))))))))
  (pss_cons (ps_if (pt_cmpR (op_eq) (pe_op op_mod (pv 0) pe_int) pe_int (nomark _))
    (pss_one (ps_setLC (i := 2) sc__law_words.nd rfl (Or.inl rfl) (blk0 (N' := ["_law_k"]) (by decide +kernel) (by decide +kernel) rfl (by decide +kernel)) rfl (pi_range1 rfl m_range (pa_cons pe_int pa_nil)) (fun _ _ _ _ => (pg_name (i := 0) (show (["_law_k"] : List Str).Nodup from by decide +kernel) rfl (Or.inl rfl))) (fun _ _ _ _ => (pe_op op_mulS pe_str (pe_op op_add pe_int (pv 0)))) rfl))
    pss_nil)
  (pss_cons (ps_if (pt_cmpR (op_eq) (pe_op op_mod (pv 0) pe_int) pe_int (nomark _))
    (pss_cons (ps_set (i := 3) sc__law_words.nd rfl (Or.inr rfl) (pe_op op_add pe_int (pe_op op_mod (pe_op op_fdiv (pv 0) pe_int) pe_int)))
  (pss_cons (ps_set (i := 4) sc__law_words.nd rfl (Or.inr rfl) (pe_op op_mod (pe_op op_fdiv (pv 0) pe_int) (pv 3)))
  (pss_one (ps_setLC (i := 2) sc__law_words.nd rfl (Or.inl rfl) (blkC (N' := ["_law_k", "_law_at", "_law_size"]) (nt := 1) (ci := [4, 3]) ["_law_cell_here", "_law_many", "_law_some", "_law_size", "_law_at", "_law_start"] (defScope s__law_words) rfl rfl (by decide +kernel) rfl (by decide +kernel) (by decide +kernel) rfl (by decide +kernel)) rfl (pi_range1 rfl m_range (pa_cons pe_int pa_nil)) (fun _ _ _ _ => (pg_name (i := 0) (show (["_law_k", "_law_at", "_law_size"] : List Str).Nodup from by decide +kernel) rfl (Or.inl rfl))) (fun _ _ _ _ => (pe_op op_add_str (pe_op op_add_str (pe_op op_mulS pe_str (pv 1)) (pe_ix ix_str pe_str (pv 0) (fun _ _ => rfl))) (pe_op op_mulS pe_str (pe_op op_sub (pe_op op_sub (pv 2) pe_int) (pv 1))))) rfl))))
    pss_nil)
  (pss_cons (ps_if (pt_cmpR (op_eq) (pe_op op_mod (pv 0) pe_int) pe_int (nomark _))
    (pss_one (ps_set (i := 2) sc__law_words.nd rfl (Or.inl rfl) (pe_lst (pa_cons pe_str (pa_cons pe_str (pa_cons pe_str (pa_cons pe_str (pa_cons pe_str (pa_cons pe_str pa_nil)))))))))
    pss_nil)
  (pss_cons (ps_set (i := 5) sc__law_words.nd rfl (Or.inl rfl) (pe_op op_mod (pe_op op_fdiv (pv 0) pe_int) pe_int))
  (pss_one (ps_ret (pe_slice sl_list (pe_op op_cat (pe_slice sl_list (pv 2) (po_some (pv 5)) po_none) (pe_slice sl_list (pv 2) po_none (po_some (pv 5)))) po_none (po_some (pv 1)))))))))), ?_⟩
  have lit : ∀ (ws : List Str) (H1 : Hp) (p : Addr), Same H H1 → H1 p = none → ws.length = 6 → (ws.all wordB) = true → Six H (upd H1 p (.lst (ws.map V.str))) p ws := fun ws H1 p e hp hl hw =>
    ⟨e.trans (same_new hp _), e.free hp, upd_same, hl, fun x hx => word_of (List.all_eq_true.mp hw x hx)⟩
  refine seq_then (fun σ' H' => ∃ p ws x3 x4, σ' = [some (.int c), some (.int m), some (.ref p), x3, x4, none] ∧ Six H H' p ws) ?_ ?_
  rotate_left
  · intro C hC
    walk_at "rd"
    exact ⟨by decide, fun p hp => hC _ _ ⟨p, ["a", "b", "c", "d", "e", "f"], none, none, rfl, lit ["a", "b", "c", "d", "e", "f"] H p (Same.refl H) hp rfl (by decide +kernel)⟩⟩
  rintro σ1 H1 ⟨p1, w1, x3, x4, rfl, S1⟩
  refine seq_then (fun σ' H' => ∃ p ws x3 x4, σ' = [some (.int c), some (.int m), some (.ref p), x3, x4, none] ∧ Six H H' p ws) ?_ ?_
  rotate_left
  · intro C hC
    walk_at "rd"
    refine ⟨by decide, ite2 (fun _ => ?_) (fun _ => hC _ _ ⟨p1, w1, x3, x4, rfl, S1⟩)⟩
    unfold tLC
    walk_at "rd"
    refine ⟨by decide, by decide, fun acc hacc => ?_⟩
    refine lcW_range (n := 6) (lo := 0) (fun i ys H2 => H2 = upd H1 acc (.lst ys) ∧ ∃ ws, ys = ws.map V.str ∧ ws.length = i ∧ ∀ x ∈ ws, Word x) ⟨rfl, [], rfl, rfl, by simp⟩ (fun i ys H2 hi ⟨e, ws, e2, e3, _⟩ => ?_) (fun i ys H2 hi ⟨e, ws, e2, e3, e4⟩ C' hC' => ?_) (fun ys H2 ⟨e, ws, e2, e3, e4⟩ => ?_)
    · subst e; subst e2
      refine ⟨upd_same, ?_⟩
      rw [List.length_map, e3]; exact small1000 (by omega)
    · subst e; subst e2
      walk_at "rd"
      refine ⟨wk_head, by decide, by omega, by omega, ?_⟩
      refine hC' _ _ upd_same ⟨by rw [upd_upd], ws ++ [Txt.mul "k" (1 + (0 + (i : Int)))], by rw [List.map_append]; rfl, by rw [List.length_append, e3]; rfl, fun x hx => ?_⟩
      rcases List.mem_append.mp hx with z | z
      · exact e4 x z
      · have z' : x = Txt.mul "k" (1 + (0 + (i : Int))) := by simpa using z
        rw [z']
        exact word_mul (c := 107) (by decide) (by decide) (by omega) (by omega)
    · subst e; subst e2
      exact hC _ _ ⟨acc, ws, x3, x4, rfl, S1.1.trans (same_new hacc _), S1.1.free hacc, upd_same, e3, e4⟩
  rintro σ2 H2 ⟨p2, w2, x3, x4, rfl, S2⟩
  refine seq_then (fun σ' H' => ∃ p ws x3 x4, σ' = [some (.int c), some (.int m), some (.ref p), x3, x4, none] ∧ Six H H' p ws) ?_ ?_
  rotate_left
  · intro C hC
    walk_at "rd"
    refine ⟨by decide, ite2 (fun _ => ?_) (fun _ => hC _ _ ⟨p2, w2, x3, x4, rfl, S2⟩)⟩
    refine ⟨⟨by decide, by decide⟩, by decide, ⟨by decide, by decide⟩, by omega, ?_⟩
    unfold tLC
    walk_at "rd"
    refine ⟨by decide, by decide, fun acc hacc => ?_⟩
    have a0 := Int.emod_nonneg (c / 32) (show 1 + c / 4 % 8 ≠ 0 by omega)
    have a1 := Int.emod_lt_of_pos (c / 32) (show 0 < 1 + c / 4 % 8 by omega)
    generalize ea : c / 32 % (1 + c / 4 % 8) = at' at a0 a1 ⊢
    generalize es : 1 + c / 4 % 8 = size at a1 ⊢
    have hs8 : size ≤ 8 := by omega
    refine lcW_range (n := 6) (lo := 0) (fun i ys H3 => H3 = upd H2 acc (.lst ys) ∧ ∃ ws, ys = ws.map V.str ∧ ws.length = i ∧ ∀ x ∈ ws, Word x) ⟨rfl, [], rfl, rfl, by simp⟩ (fun i ys H3 hi ⟨e, ws, e2, e3, _⟩ => ?_) (fun i ys H3 hi ⟨e, ws, e2, e3, e4⟩ C' hC' => ?_) (fun ys H3 ⟨e, ws, e2, e3, e4⟩ => ?_)
    · subst e; subst e2
      refine ⟨upd_same, ?_⟩
      rw [List.length_map, e3]; exact small1000 (by omega)
    · subst e; subst e2
      walk_at "rd"
      have hcd : ∃ d : Nat, atI ("aghmxz" : Str).cps.toList (0 + (i : Int)) = some d ∧ 97 ≤ d ∧ d ≤ 122 := by
        have : i = 0 ∨ i = 1 ∨ i = 2 ∨ i = 3 ∨ i = 4 ∨ i = 5 := by omega
        rcases this with rfl | rfl | rfl | rfl | rfl | rfl
        · exact ⟨97, rfl, by decide, by decide⟩
        · exact ⟨103, rfl, by decide, by decide⟩
        · exact ⟨104, rfl, by decide, by decide⟩
        · exact ⟨109, rfl, by decide, by decide⟩
        · exact ⟨120, rfl, by decide, by decide⟩
        · exact ⟨122, rfl, by decide, by decide⟩
      obtain ⟨d, hd, d1, d2⟩ := hcd
      have l1 : (Txt.mul "m" at').length ≤ 8 := by rw [show ("m" : Str) = ⟨#[109]⟩ from rfl, mul_len]; omega
      have l2 : (Txt.mul "m" (size - 1 - at')).length ≤ 8 := by rw [show ("m" : Str) = ⟨#[109]⟩ from rfl, mul_len]; omega
      have l3 : (⟨#[d]⟩ : Str).length = 1 := rfl
      have l4 : (Txt.mul "m" at' ++ (⟨#[d]⟩ : Str)).length ≤ 9 := by rw [strLen_append]; omega
      refine ⟨wk_head, by decide, by omega, by omega, by decide, d, hd, ?_, by decide, by omega, by omega, ?_, ?_⟩
      · exact Nat.le_of_lt (small1000 (by omega))
      · exact Nat.le_of_lt (small1000 (by omega))
      refine hC' _ _ upd_same ⟨by rw [upd_upd], ws ++ [Txt.mul "m" at' ++ (⟨#[d]⟩ : Str) ++ Txt.mul "m" (size - 1 - at')], by rw [List.map_append]; rfl, by rw [List.length_append, e3]; rfl, fun x hx => ?_⟩
      rcases List.mem_append.mp hx with z | z
      · exact e4 x z
      · have z' : x = Txt.mul "m" at' ++ (⟨#[d]⟩ : Str) ++ Txt.mul "m" (size - 1 - at') := by simpa using z
        rw [z']
        exact word_mid (c := 109) (by decide) (by decide) d1 d2 (by omega) (by omega) (by omega)
    · subst e; subst e2
      exact hC _ _ ⟨acc, ws, _, _, rfl, S2.1.trans (same_new hacc _), S2.1.free hacc, upd_same, e3, e4⟩
  rintro σ3 H3 ⟨p3, w3, x3, x4, rfl, S3⟩
  refine seq_then (fun σ' H' => ∃ p ws x3 x4, σ' = [some (.int c), some (.int m), some (.ref p), x3, x4, none] ∧ Six H H' p ws) ?_ ?_
  rotate_left
  · intro C hC
    walk_at "rd"
    refine ⟨by decide, ite2 (fun _ => ?_) (fun _ => hC _ _ ⟨p3, w3, x3, x4, rfl, S3⟩)⟩
    exact ⟨by decide, fun p hp => hC _ _ ⟨p, ["low", "one", "both", "then", "letter", "lows"], _, _, rfl, lit ["low", "one", "both", "then", "letter", "lows"] H3 p S3.1 hp rfl (by decide +kernel)⟩⟩
  rintro σ4 H4 ⟨p4, w4, x3, x4, rfl, S4⟩
  walk_at "rd"
  have b0 := Int.emod_nonneg (c / 256) (show (6 : Int) ≠ 0 by decide)
  have b1 := Int.emod_lt_of_pos (c / 256) (show (0 : Int) < 6 by decide)
  generalize c / 256 % 6 = st at b0 b1 ⊢
  obtain ⟨e4, f4, h4, l4, o4⟩ := S4
  refine ⟨⟨by decide, by decide⟩, by decide, w4.map V.str, .inl (.inl h4), fun q1 hq1 => ⟨w4.map V.str, ?_, fun q2 hq2 => ?_⟩⟩
  · exact sqL_ne (.inl (.inl h4)) (ne_of_none h4 hq1)
  have n21 : q2 ≠ q1 := fun z => by subst z; rw [upd_same] at hq2; cases hq2
  refine ⟨cutV (w4.map V.str) (some st) none, ?_, cutV (w4.map V.str) none (some st), upd_same, ?_, fun q3 hq3 => ⟨_, .inl (.inl upd_same), fun q4 hq4 => ?_⟩⟩
  · rw [upd_ne (Ne.symm n21), upd_same]
  · have z1 := cutV_length (w4.map V.str) (some st) none
    have z2 := cutV_length (w4.map V.str) none (some st)
    rw [List.length_map] at z1 z2
    exact Nat.le_of_lt (small1000 (by omega))
  rw [cut_map, cut_map, ← List.map_append] at hq4 ⊢
  rw [cut_map]
  have e3' : Same H4 (upd (upd (upd H4 q1 (.lst (cutV (w4.map V.str) (some st) none))) q2 (.lst (cutV (w4.map V.str) none (some st)))) q3 (.lst (cutV (w4.map V.str) (some st) none ++ cutV (w4.map V.str) none (some st)))) := ((same_new hq1 _).trans (same_new hq2 _)).trans (same_new hq3 _)
  rw [cut_map, cut_map, ← List.map_append] at e3'
  have eA := e4.trans e3'
  have hst : st = ((st.toNat : Nat) : Int) := by omega
  have hm : m = ((m.toNat : Nat) : Int) := by omega
  refine q _ _ _ (eA.trans (same_new hq4 _)) (eA.free hq4) upd_same ⟨?_, ?_, fun x hx => ?_⟩
  · rw [hst, hm]
    simp only [List.length_take, List.length_drop, List.length_append, HT.sIx_nat, HT.sIx_none, l4]
    omega
  · rw [hst, hm]
    simp only [List.length_take, List.length_drop, List.length_append, HT.sIx_nat, HT.sIx_none, l4]
    omega
  · have hx1 := List.mem_of_mem_drop (List.mem_of_mem_take hx)
    rcases List.mem_append.mp hx1 with z | z
    · exact o4 x (List.mem_of_mem_drop (List.mem_of_mem_take z))
    · exact o4 x (List.mem_of_mem_drop (List.mem_of_mem_take z))
end
set_option Elab.async false
set_option linter.all false
set_option maxRecDepth 100000
set_option maxHeartbeats 4000000
local macro_rules | `(tactic| walk_at "rd") => `(tactic| walk_at "rdx_1")
local macro_rules | `(tactic| walk_at "ri") => `(tactic| walk_at "rdx_2")
abbrev s__law_leaf : Stmt := top 15
theorem sc__law_leaf : FnScope ["_law_cell_here", "_law_words_here"] ["_law_cell_here", "_law_words_here"] (defScope s__law_leaf) := ⟨rfl, rfl, rfl, by decide +kernel, rfl, by decide +kernel, by decide +kernel⟩
abbrev s__law_statement : Stmt := top 16
theorem sc__law_statement : FnScope ["_law_cell_here", "_law_size", "_law_words_here", "_law_rest", "_law_few", "_law_one", "_law_other"] ["_law_cell_here", "_law_size", "_law_words_here"] (defScope s__law_statement) := ⟨rfl, rfl, rfl, by decide +kernel, rfl, by decide +kernel, by decide +kernel⟩
section
variable {P : Program} {w : World} {K : PySem.W.Frag} {mg : Str → Option Value} {base : Heap}
theorem ok__law_leaf {k : Nat} {f__law_leaf : Addr} {fd__law_leaf : FuncData} (F__law_leaf : Fun K "_law_leaf" "_law_leaf" s__law_leaf f__law_leaf fd__law_leaf) (m_len : mg "len" = none) : FnOk P w K mg base CX0 (k + 1) f__law_leaf fd__law_leaf ["_law_cell_here", "_law_words_here"] (sp_leaf K) := by
  refine F__law_leaf.ok sc__law_leaf (fun vs H Q E h => ?_) (fun cdv A outer s H vs Q E hr h => ?_)
  · obtain ⟨a, ns, k, rfl, _⟩ := h
    rfl
  obtain ⟨c, wa, ws, rfl, hS, hw, q⟩ := h
  refine ⟨_, (pss_cons (ps_if (pt_cmpR (op_eq) (pe_op op_mod (pv 0) pe_int) pe_int (nomark _))
    (pss_one (ps_ret (pe_tup (pa_cons pe_str pa_nil))))
    pss_nil)
  (pss_one (ps_ret (pe_tup (pa_cons pe_str (pa_cons (pe_ix ix_list (pv 1) (pe_op op_mod (pe_op op_fdiv (pv 0) pe_int) (pe_callB call_len_seq (by exact rfl) m_len Ken.boot_len (pa_cons (pv 1) pa_nil))) (fun _ _ => rfl)) pa_nil)))))), ?_⟩
  walk_at "rd"
  refine ⟨by decide, ite2 (fun _ => ?_) (fun _ => ?_)⟩
  · exact ⟨by decide, fun p hp => q _ _ _ (same_new hp _) (made_low ws hp)⟩
  · have hl : ((ws.map V.str).length : Int) = ws.length := by rw [List.length_map]
    have h2 := hw.1
    refine ⟨⟨by decide, by decide⟩, _, .inl hS, by rw [hl]; omega, _, hS, ?_⟩
    rw [hl]
    obtain ⟨v, hv, e⟩ := at_list (xs := ws.map V.str) (i := c / 6 % (ws.length : Int)) (Int.emod_nonneg _ (by omega)) (by rw [hl]; exact Int.emod_lt_of_pos _ (by omega))
    obtain ⟨x, hx, rfl⟩ := List.mem_map.mp hv
    exact ⟨_, e, by decide, fun p hp => q _ _ _ (same_new hp _) (made_ltr hx hp)⟩
theorem ok__law_statement {k n : Nat} {f__law_statement : Addr} {fd__law_statement : FuncData} (F__law_statement : Fun K "_law_statement" "_law_statement" s__law_statement f__law_statement fd__law_statement) (G__law_statement : FnOk P w K mg base CX0 k f__law_statement fd__law_statement ["_law_cell_here", "_law_size", "_law_words_here"] (sp_stm K n)) (m__law_statement : mg "_law_statement" = some (.ref f__law_statement)) (k__law_statement : PySem.W.keepIn K (.ref f__law_statement) = true) (b__law_statement : Binds K fd__law_statement ["_law_cell_here", "_law_size", "_law_words_here"] []) {f__law_mix : Addr} {fd__law_mix : FuncData} (G__law_mix : FnOk P w K mg base CX0 k f__law_mix fd__law_mix ["_law_cell_here", "_law_k"] (sp_mix)) (m__law_mix : mg "_law_mix" = some (.ref f__law_mix)) (k__law_mix : PySem.W.keepIn K (.ref f__law_mix) = true) (b__law_mix : Binds K fd__law_mix ["_law_cell_here", "_law_k"] []) {f__law_leaf : Addr} {fd__law_leaf : FuncData} (G__law_leaf : FnOk P w K mg base CX0 k f__law_leaf fd__law_leaf ["_law_cell_here", "_law_words_here"] (sp_leaf K)) (m__law_leaf : mg "_law_leaf" = some (.ref f__law_leaf)) (k__law_leaf : PySem.W.keepIn K (.ref f__law_leaf) = true) (b__law_leaf : Binds K fd__law_leaf ["_law_cell_here", "_law_words_here"] []) : FnOk P w K mg base CX0 (k + 1) f__law_statement fd__law_statement ["_law_cell_here", "_law_size", "_law_words_here"] (sp_stm K (n + 1)) := by
  refine F__law_statement.ok sc__law_statement (fun vs H Q E h => ?_) (fun cdv A outer s H vs Q E hr h => ?_)
  · obtain ⟨c, size, wa, ws, rfl, _⟩ := h
    rfl
  obtain ⟨c, size, wa, ws, rfl, hc0, h0, h1, hn, hS, hw, q⟩ := h
  refine ⟨_, (pss_cons (ps_if (pt_cmpR (op_lt) (pv 1) pe_int (nomark _))
    (pss_one (ps_ret (pe_call G__law_leaf hr (by exact rfl) m__law_leaf k__law_leaf b__law_leaf .nil pass0 (pa_cons (pe_op op_fdiv (pv 0) pe_int) (pa_cons (pv 2) pa_nil)))))
    pss_nil)
  (pss_cons (ps_if ((pw_and (pt_cmpR (op_lt) (pv 1) pe_int (nomark _)) (pw_and1 (pt_cmpR (op_eq) (pe_op op_mod (pe_op op_fdiv (pv 0) pe_int) pe_int) pe_int (nomark _))))).pt
    (pss_one (ps_ret (pe_tup (pa_cons pe_str (pa_cons (pe_call G__law_statement hr (by exact rfl) m__law_statement k__law_statement b__law_statement .nil pass0 (pa_cons (pe_call G__law_mix hr (by exact rfl) m__law_mix k__law_mix b__law_mix .nil pass0 (pa_cons (pv 0) (pa_cons pe_int pa_nil))) (pa_cons (pe_op op_sub (pv 1) pe_int) (pa_cons (pv 2) pa_nil)))) (pa_cons (pe_tup (pa_cons pe_str pa_nil)) pa_nil))))))
    pss_nil)
  (pss_cons (ps_set (i := 3) sc__law_statement.nd rfl (Or.inl rfl) (pe_op op_sub (pv 1) pe_int))
  (pss_cons (ps_set (i := 4) sc__law_statement.nd rfl (Or.inl rfl) (pe_op op_add pe_int (pe_op op_mod (pe_call G__law_mix hr (by exact rfl) m__law_mix k__law_mix b__law_mix .nil pass0 (pa_cons (pv 0) (pa_cons pe_int pa_nil))) (pe_op op_sub (pv 3) pe_int))))
  (pss_cons (ps_if (pt_cmpR (op_ge) (pv 1) pe_int (nomark _))
    (pss_one (ps_set (i := 4) sc__law_statement.nd rfl (Or.inl rfl) (pe_op op_add (pe_op op_fdiv (pv 3) pe_int) (pe_op op_mod (pe_call G__law_mix hr (by exact rfl) m__law_mix k__law_mix b__law_mix .nil pass0 (pa_cons (pv 0) (pa_cons pe_int pa_nil))) (pe_op op_fdiv (pv 3) pe_int)))))
    pss_nil)
  (pss_cons (ps_set (i := 5) sc__law_statement.nd rfl (Or.inl rfl) (pe_call G__law_statement hr (by exact rfl) m__law_statement k__law_statement b__law_statement .nil pass0 (pa_cons (pe_call G__law_mix hr (by exact rfl) m__law_mix k__law_mix b__law_mix .nil pass0 (pa_cons (pv 0) (pa_cons pe_int pa_nil))) (pa_cons (pv 4) (pa_cons (pv 2) pa_nil)))))
  (pss_cons (ps_set (i := 6) sc__law_statement.nd rfl (Or.inl rfl) (pe_call G__law_statement hr (by exact rfl) m__law_statement k__law_statement b__law_statement .nil pass0 (pa_cons (pe_call G__law_mix hr (by exact rfl) m__law_mix k__law_mix b__law_mix .nil pass0 (pa_cons (pv 0) (pa_cons pe_int pa_nil))) (pa_cons (pe_op op_sub (pv 3) (pv 4)) (pa_cons (pv 2) pa_nil)))))
  (pss_one (ps_ret (pe_tup (pa_cons (pe_ix ix_list (pe_lst (pa_cons pe_str (pa_cons pe_str (pa_cons pe_str (pa_cons pe_str pa_nil))))) (pe_op op_mod (pv 0) pe_int) (fun _ _ => rfl)) (pa_cons (pv 5) (pa_cons (pv 6) pa_nil))))))))))))), ?_⟩
  walk_at "rd"
  have h2 := hw.1
  have tail : ∀ (few : Int), 1 ≤ few → few ≤ size - 2 → rk few < rk size → rk (size - 1 - few) < rk size →
      sp_mix [V.int c, V.int 3] H (fun x H1 => sp_stm K n [x, V.int few, V.ref wa] H1 (fun x H1 => sp_mix [V.int c, V.int 4] H1 (fun x_1 H1 => sp_stm K n [x_1, V.int (size - 1 - few), V.ref wa] H1 (fun x_2 H1 =>
        4 ≤ sizeLine ∧ ∀ (p : Addr), H1 p = none → (0 : Int) < 4 ∧ ∃ x_3, SqL K (upd H1 p (.lst [V.str "both", V.str "one", V.str "then", V.str "then"])) p x_3 ∧ ∃ x_4, atI x_3 (c % 4) = some x_4 ∧ 3 ≤ sizeLine ∧
          ∀ (p_1 : Addr), upd H1 p (.lst [V.str "both", V.str "one", V.str "then", V.str "then"]) p_1 = none → Q (V.ref p_1) (upd (upd H1 p (.lst [V.str "both", V.str "one", V.str "then", V.str "then"])) p_1 (.tup [x_4, x, x_2]))) E0) E0) E0) E0 := by
    intro few f1 f2 r1 r2
    refine ⟨_, _, rfl, by decide, by decide, ?_⟩
    refine ⟨_, _, _, ws, rfl, mix_nn _ _, by omega, by omega, by omega, hS, hw, fun x H1 a e1 m1 => ?_⟩
    refine ⟨_, _, rfl, by decide, by decide, ?_⟩
    refine ⟨_, _, _, ws, rfl, mix_nn _ _, by omega, by omega, by omega, e1.seq hS, hw, fun y H2 b e2 m2 => ?_⟩
    refine ⟨by decide, fun p hp => ⟨by decide, _, .inl (.inl upd_same), _, at_kd4 (Int.emod_nonneg _ (by decide)) (Int.emod_lt_of_pos _ (by decide)), by decide, fun p1 hp1 => ?_⟩⟩
    have k3 : KeepT K H2 (upd H2 p (.lst [V.str "both", V.str "one", V.str "then", V.str "then"])) := keepT_new hp
    have m1' := m1.mono (e2.keepT.trans k3) (Nat.le_refl _) (Nat.le_refl _)
    have m2' := m2.mono k3 (Nat.le_refl _) (Nat.le_refl _)
    refine q _ _ _ (((e1.trans e2).trans (same_new hp _)).trans (same_new hp1 _)) ((made_nd m1' m2' hp1).mono (KeepT.refl _) (by omega) (by omega))
  refine ite2 (fun c3 => ?_) (fun c3 => ?_)
  · exact ⟨⟨by decide, by decide⟩, _, _, ws, rfl, hS, hw, fun r H' t e m => q r H' t e (m.mono (KeepT.refl _) (by omega) (by omega))⟩
  have d4 : CDiv c 4 := ⟨by decide, by decide⟩
  have b4 : CDiv (size - 1) 4 := ⟨by decide, by decide⟩
  have b2 : CDiv (size - 1) 2 := ⟨by decide, by decide⟩
  have small : size < 40 → ∀ m : Int, rk (1 + m % (size - 1 - 1)) < rk size ∧ rk (size - 1 - (1 + m % (size - 1 - 1))) < rk size ∧ 1 ≤ 1 + m % (size - 1 - 1) ∧ 1 + m % (size - 1 - 1) ≤ size - 2 := fun c40 m => by
    have b0 := Int.emod_nonneg m (show size - 1 - 1 ≠ 0 by omega)
    have b1 := Int.emod_lt_of_pos m (show 0 < size - 1 - 1 by omega)
    exact ⟨rk_less (by omega) c40 (by omega), rk_less (by omega) c40 (by omega), by omega, by omega⟩
  refine ite2 (fun c40 => ?_) (fun c40 => ?_)
  · refine ⟨d4, by decide, ite2 (fun c0 => ?_) (fun c0 => ?_)⟩
    · refine ⟨_, _, rfl, by decide, by decide, ?_⟩
      have r0 := rk_two (by omega) c40
      refine ⟨_, _, _, ws, rfl, mix_nn _ _, by omega, by omega, by omega, hS, hw, fun x H1 a e1 m1 => ?_⟩
      refine ⟨by decide, fun p hp => ⟨by decide, fun p1 hp1 => ?_⟩⟩
      have m1' := m1.mono (keepT_new (o := .tup [V.str "low"]) hp) (Nat.le_refl _) (Nat.le_refl _)
      refine q _ _ _ ((e1.trans (same_new hp _)).trans (same_new hp1 _)) ((made_nd (k := .thn) m1' (made_low ws hp) hp1).mono (KeepT.refl _) (by omega) (by omega))
    · refine ⟨_, _, rfl, by decide, by decide, _, rfl, by omega, ite2 (fun c41 => by omega) (fun c41 => ?_)⟩
      obtain ⟨r1, r2, f1, f2⟩ := small c40 (mix c 2)
      exact tail _ f1 f2 r1 r2
  · refine ⟨_, _, rfl, by decide, by decide, _, rfl, by omega, ite2 (fun c41 => ?_) (fun c41 => by omega)⟩
    refine ⟨b4, _, _, rfl, by decide, by decide, b2, _, rfl, by omega, ?_⟩
    have g0 := Int.emod_nonneg (mix c 2) (show (size - 1) / 2 ≠ 0 by omega)
    have g1 := Int.emod_lt_of_pos (mix c 2) (show 0 < (size - 1) / 2 by omega)
    exact tail _ (by omega) (by omega) (rk_big (by omega) h1 (by omega)) (rk_big (by omega) h1 (by omega))
theorem stm_zero {f : Addr} {fd : FuncData} {ps : List Str} {k : Nat} : FnOk P w K mg base CX0 k f fd ps (sp_stm K 0) := by
  have no : ∀ vs H Q E, ¬ sp_stm K 0 vs H Q E := fun vs H Q E h => by
    obtain ⟨c, size, wa, ws, _, _, _, _, hn, _⟩ := h
    exact absurd hn (Nat.not_lt_zero _)
  exact ⟨fun vs H Q E h => absurd h (no vs H Q E), fun A outer s H args us vs Q E _ _ _ _ h => absurd h (no vs H Q E)⟩
theorem all__law_statement {f__law_statement : Addr} {fd__law_statement : FuncData} (F__law_statement : Fun K "_law_statement" "_law_statement" s__law_statement f__law_statement fd__law_statement) (m__law_statement : mg "_law_statement" = some (.ref f__law_statement)) (b__law_statement : Binds K fd__law_statement ["_law_cell_here", "_law_size", "_law_words_here"] [])
    {f__law_mix : Addr} {fd__law_mix : FuncData} (G__law_mix : ∀ k, FnOk P w K mg base CX0 (k + 1) f__law_mix fd__law_mix ["_law_cell_here", "_law_k"] sp_mix) (m__law_mix : mg "_law_mix" = some (.ref f__law_mix)) (k__law_mix : PySem.W.keepIn K (.ref f__law_mix) = true) (b__law_mix : Binds K fd__law_mix ["_law_cell_here", "_law_k"] [])
    {f__law_leaf : Addr} {fd__law_leaf : FuncData} (G__law_leaf : ∀ k, FnOk P w K mg base CX0 (k + 1) f__law_leaf fd__law_leaf ["_law_cell_here", "_law_words_here"] (sp_leaf K)) (m__law_leaf : mg "_law_leaf" = some (.ref f__law_leaf)) (k__law_leaf : PySem.W.keepIn K (.ref f__law_leaf) = true) (b__law_leaf : Binds K fd__law_leaf ["_law_cell_here", "_law_words_here"] []) :
    ∀ n : Nat, FnOk P w K mg base CX0 (n + 1) f__law_statement fd__law_statement ["_law_cell_here", "_law_size", "_law_words_here"] (sp_stm K n)
  | 0 => stm_zero
  | n + 1 => ok__law_statement F__law_statement (all__law_statement F__law_statement m__law_statement b__law_statement G__law_mix m__law_mix k__law_mix b__law_mix G__law_leaf m__law_leaf k__law_leaf b__law_leaf n) m__law_statement F__law_statement.kp b__law_statement (G__law_mix n) m__law_mix k__law_mix b__law_mix (G__law_leaf n) m__law_leaf k__law_leaf b__law_leaf
end
set_option Elab.async false
set_option linter.all false
set_option maxRecDepth 100000
set_option maxHeartbeats 4000000
local macro_rules | `(tactic| walk_at "rd") => `(tactic| walk_at "rdx_1")
local macro_rules | `(tactic| walk_at "ri") => `(tactic| walk_at "rdx_2")
abbrev s__law_comb : Stmt := top 17
theorem sc__law_comb : FnScope ["_law_cell_here", "_law_many", "_law_words_here", "_law_found", "_law_k", "_law_step", "_law_form", "_law_other"] ["_law_cell_here", "_law_many", "_law_words_here"] (defScope s__law_comb) := ⟨rfl, rfl, rfl, by decide +kernel, rfl, by decide +kernel, by decide +kernel⟩
abbrev s__law_drawn : Stmt := top 18
theorem sc__law_drawn : FnScope ["_law_cell_here", "_law_most", "_law_words_here", "_law_way"] ["_law_cell_here", "_law_most", "_law_words_here"] (defScope s__law_drawn) := ⟨rfl, rfl, rfl, by decide +kernel, rfl, by decide +kernel, by decide +kernel⟩
section
variable {P : Program} {w : World} {K : PySem.W.Frag} {mg : Str → Option Value} {base : Heap}
theorem ok__law_comb {k : Nat} {f__law_comb : Addr} {fd__law_comb : FuncData} (F__law_comb : Fun K "_law_comb" "_law_comb" s__law_comb f__law_comb fd__law_comb) {f__law_mix : Addr} {fd__law_mix : FuncData} (G__law_mix : FnOk P w K mg base CX0 k f__law_mix fd__law_mix ["_law_cell_here", "_law_k"] (sp_mix)) (m__law_mix : mg "_law_mix" = some (.ref f__law_mix)) (k__law_mix : PySem.W.keepIn K (.ref f__law_mix) = true) (b__law_mix : Binds K fd__law_mix ["_law_cell_here", "_law_k"] []) {f__law_leaf : Addr} {fd__law_leaf : FuncData} (G__law_leaf : FnOk P w K mg base CX0 k f__law_leaf fd__law_leaf ["_law_cell_here", "_law_words_here"] (sp_leaf K)) (m__law_leaf : mg "_law_leaf" = some (.ref f__law_leaf)) (k__law_leaf : PySem.W.keepIn K (.ref f__law_leaf) = true) (b__law_leaf : Binds K fd__law_leaf ["_law_cell_here", "_law_words_here"] []) (m_range : mg "range" = none) : FnOk P w K mg base CX0 (k + 1) f__law_comb fd__law_comb ["_law_cell_here", "_law_many", "_law_words_here"] (sp_comb K) := by
  refine F__law_comb.ok sc__law_comb (fun vs H Q E h => ?_) (fun cdv A outer s H vs Q E hr h => ?_)
  · obtain ⟨c, size, wa, ws, rfl, _⟩ := h
    rfl
  obtain ⟨c, many, wa, ws, rfl, hc0, h0, h1, hS, hw, q⟩ := h
  refine ⟨_, (pss_cons (ps_set (i := 3) sc__law_comb.nd rfl (Or.inl rfl) (pe_call G__law_leaf hr (by exact rfl) m__law_leaf k__law_leaf b__law_leaf .nil pass0 (pa_cons (pv 0) (pa_cons (pv 2) pa_nil))))
  (pss_cons (ps_for PassesOwn.never rfl (pi_range1 rfl m_range (pa_cons (pv 1) pa_nil)) (pg_name (i := 4) sc__law_comb.nd rfl (Or.inl rfl))
    (pss_cons (ps_set (i := 5) sc__law_comb.nd rfl (Or.inl rfl) (pe_call G__law_mix hr (by exact rfl) m__law_mix k__law_mix b__law_mix .nil pass0 (pa_cons (pv 0) (pa_cons (pe_op op_add pe_int (pv 4)) pa_nil))))
  (pss_cons (ps_set (i := 6) sc__law_comb.nd rfl (Or.inl rfl) (pe_ix ix_list (pe_lst (pa_cons pe_str (pa_cons pe_str (pa_cons pe_str (pa_cons pe_str pa_nil))))) (pe_op op_mod (pv 5) pe_int) (fun _ _ => rfl)))
  (pss_cons (ps_set (i := 7) sc__law_comb.nd rfl (Or.inl rfl) (pe_call G__law_leaf hr (by exact rfl) m__law_leaf k__law_leaf b__law_leaf .nil pass0 (pa_cons (pe_op op_fdiv (pv 5) pe_int) (pa_cons (pv 2) pa_nil))))
  (pss_one (ps_set (i := 3) sc__law_comb.nd rfl (Or.inl rfl) (pe_ix ix_list (pe_lst (pa_cons (pe_tup (pa_cons (pv 6) (pa_cons (pv 3) (pa_cons (pv 7) pa_nil)))) (pa_cons (pe_tup (pa_cons (pv 6) (pa_cons (pv 7) (pa_cons (pv 3) pa_nil)))) (pa_cons (pe_tup (pa_cons pe_str (pa_cons (pv 3) (pa_cons (pe_tup (pa_cons pe_str pa_nil)) pa_nil)))) pa_nil)))) (pe_op op_mod (pe_op op_fdiv (pv 5) pe_int) pe_int) (fun _ _ => rfl))))))))
  (pss_one (ps_ret (pv 3))))), ?_⟩
  refine seq_then (fun σ' H' => ∃ v t, σ' = [some (.int c), some (.int many), some (.ref wa), some v, none, none, none, none] ∧ Same H H' ∧ Made K H' ws 1 1 v t) ?_ ?_
  rotate_left
  · intro C hC
    walk_at "rd"
    exact ⟨_, _, ws, rfl, hS, hw, fun r H' t e m => hC _ _ ⟨r, t, rfl, e, m⟩⟩
  rintro σ1 H1 ⟨v1, t1, rfl, e1, m1⟩
  refine seq_then (fun σ' H' => ∃ v t x4 x5 x6 x7, σ' = [some (.int c), some (.int many), some (.ref wa), some v, x4, x5, x6, x7] ∧ Same H H' ∧ Made K H' ws (1 + 2 * many.toNat) (1 + many.toNat) v t) ?_ ?_
  rotate_left
  · intro C hC
    refine ⟨_, rfl, many, rfl, by omega, by omega, ?_⟩
    refine for_range (n := many.toNat) (lo := 0) (fun i σ' H' => ∃ v t x4 x5 x6 x7, σ' = [some (.int c), some (.int many), some (.ref wa), some v, x4, x5, x6, x7] ∧ Same H H' ∧ Made K H' ws (1 + 2 * i) (1 + i) v t) ⟨v1, t1, none, none, none, none, rfl, e1, m1⟩ (fun i σ' H' hi hp => ?_) (fun σ' H' hp => hC _ _ hp)
    obtain ⟨v, t, x4, x5, x6, x7, rfl, e, m⟩ := hp
    walk_at "rd"
    refine ⟨_, _, rfl, by omega, by omega, by decide, fun p hp => ⟨_, rfl, by decide, _, .inl (.inl upd_same), _, at_kd4 (Int.emod_nonneg _ (by decide)) (Int.emod_lt_of_pos _ (by decide)), _, rfl, ⟨by decide, by decide⟩, ?_⟩⟩
    generalize kd4 (mix c (10 + (0 + (i : Int))) % 4) = kd
    refine ⟨_, _, ws, rfl, (same_new hp _).seq (e.seq hS), hw, fun y H2 b e2 m2 => ?_⟩
    refine ⟨by decide, fun q1 h1 => ⟨by decide, fun q2 h2 => ⟨by decide, fun q3 h3 => ⟨by decide, fun q4 h4 => ⟨by decide, fun q5 h5 => ?_⟩⟩⟩⟩⟩
    have m' : Made K H2 ws (1 + 2 * i) (1 + i) v t := m.mono ((keepT_new hp).trans e2.keepT) (Nat.le_refl _) (Nat.le_refl _)
    have M1 := made_nd (k := kd) m' m2 h1
    have M2 := made_nd (k := kd) (m2.mono (keepT_new (o := .tup [.str kd.str, v, y]) h1) (Nat.le_refl _) (Nat.le_refl _)) (m'.mono (keepT_new (o := .tup [.str kd.str, v, y]) h1) (Nat.le_refl _) (Nat.le_refl _)) h2
    have M3 := made_low (K := K) ws h3
    have k13 : KeepT K H2 (upd (upd (upd H2 q1 (.tup [.str kd.str, v, y])) q2 (.tup [.str kd.str, y, v])) q3 (.tup [.str "low"])) := ((keepT_new h1).trans (keepT_new h2)).trans (keepT_new h3)
    have M4 := made_nd (k := .thn) (m'.mono k13 (Nat.le_refl _) (Nat.le_refl _)) M3 h4
    have S5 := ((((same_new h1 (.tup [.str kd.str, v, y])).trans (same_new h2 (.tup [.str kd.str, y, v]))).trans (same_new h3 (.tup [.str "low"]))).trans (same_new h4 (.tup [.str Kd.thn.str, v, .ref q3])))
    have EE := (e.trans (same_new hp _)).trans e2
    have fin := (EE.trans S5).trans (same_new h5 (.lst [.ref q1, .ref q2, .ref q4]))
    refine ⟨_, rfl, ⟨by decide, by decide⟩, by decide, _, .inl (.inl upd_same), ?_⟩
    have b0 := Int.emod_nonneg (mix c (10 + (0 + (i : Int))) / 4) (show (3 : Int) ≠ 0 by decide)
    have b1 := Int.emod_lt_of_pos (mix c (10 + (0 + (i : Int))) / 4) (show (0 : Int) < 3 by decide)
    generalize mix c (10 + (0 + (i : Int))) / 4 % 3 = j3 at b0 b1 ⊢
    have : j3 = 0 ∨ j3 = 1 ∨ j3 = 2 := by omega
    rcases this with rfl | rfl | rfl
    · exact ⟨_, rfl, fin, _, M1.mono ((((keepT_new h2).trans (keepT_new h3)).trans (keepT_new h4)).trans (keepT_new h5)) (by omega) (by omega)⟩
    · exact ⟨_, rfl, fin, _, M2.mono (((keepT_new h3).trans (keepT_new h4)).trans (keepT_new h5)) (by omega) (by omega)⟩
    · exact ⟨_, rfl, fin, _, M4.mono (keepT_new h5) (by omega) (by omega)⟩
  rintro σ2 H2 ⟨v, t, x4, x5, x6, x7, rfl, e, m⟩
  walk_at "rd"
  exact q _ _ _ e m
theorem ok__law_drawn {k : Nat} {f__law_drawn : Addr} {fd__law_drawn : FuncData} (F__law_drawn : Fun K "_law_drawn" "_law_drawn" s__law_drawn f__law_drawn fd__law_drawn) {f__law_statement : Addr} {fd__law_statement : FuncData} (G__law_statement : FnOk P w K mg base CX0 k f__law_statement fd__law_statement ["_law_cell_here", "_law_size", "_law_words_here"] (sp_stm K 47)) (m__law_statement : mg "_law_statement" = some (.ref f__law_statement)) (k__law_statement : PySem.W.keepIn K (.ref f__law_statement) = true) (b__law_statement : Binds K fd__law_statement ["_law_cell_here", "_law_size", "_law_words_here"] []) {f__law_mix : Addr} {fd__law_mix : FuncData} (G__law_mix : FnOk P w K mg base CX0 k f__law_mix fd__law_mix ["_law_cell_here", "_law_k"] (sp_mix)) (m__law_mix : mg "_law_mix" = some (.ref f__law_mix)) (k__law_mix : PySem.W.keepIn K (.ref f__law_mix) = true) (b__law_mix : Binds K fd__law_mix ["_law_cell_here", "_law_k"] []) {f__law_comb : Addr} {fd__law_comb : FuncData} (G__law_comb : FnOk P w K mg base CX0 k f__law_comb fd__law_comb ["_law_cell_here", "_law_many", "_law_words_here"] (sp_comb K)) (m__law_comb : mg "_law_comb" = some (.ref f__law_comb)) (k__law_comb : PySem.W.keepIn K (.ref f__law_comb) = true) (b__law_comb : Binds K fd__law_comb ["_law_cell_here", "_law_many", "_law_words_here"] []) : FnOk P w K mg base CX0 (k + 1) f__law_drawn fd__law_drawn ["_law_cell_here", "_law_most", "_law_words_here"] (sp_drawn K) := by
  refine F__law_drawn.ok sc__law_drawn (fun vs H Q E h => ?_) (fun cdv A outer s H vs Q E hr h => ?_)
  · obtain ⟨c, size, wa, ws, rfl, _⟩ := h
    rfl
  obtain ⟨c, most, wa, ws, rfl, hc0, h0, h1, hS, hw, q⟩ := h
  refine ⟨_, (pss_cons (ps_set (i := 3) sc__law_drawn.nd rfl (Or.inl rfl) (pe_op op_mod (pv 0) pe_int))
  (pss_cons (ps_if (pt_cmpR (op_eq) (pv 3) pe_int (nomark _))
    (pss_one (ps_ret (pe_call G__law_comb hr (by exact rfl) m__law_comb k__law_comb b__law_comb .nil pass0 (pa_cons (pe_call G__law_mix hr (by exact rfl) m__law_mix k__law_mix b__law_mix .nil pass0 (pa_cons (pv 0) (pa_cons pe_int pa_nil))) (pa_cons (pe_op op_mod (pe_op op_fdiv (pv 0) pe_int) (pv 1)) (pa_cons (pv 2) pa_nil))))))
    pss_nil)
  (pss_cons (ps_if (pt_cmpR (op_eq) (pv 3) pe_int (nomark _))
    (pss_one (ps_ret (pe_call G__law_statement hr (by exact rfl) m__law_statement k__law_statement b__law_statement .nil pass0 (pa_cons (pe_call G__law_mix hr (by exact rfl) m__law_mix k__law_mix b__law_mix .nil pass0 (pa_cons (pv 0) (pa_cons pe_int pa_nil))) (pa_cons (pe_op op_add pe_int (pe_op op_mod (pe_op op_fdiv (pv 0) pe_int) pe_int)) (pa_cons (pv 2) pa_nil))))))
    pss_nil)
  (pss_cons (ps_if (pt_cmpR (op_eq) (pv 3) pe_int (nomark _))
    (pss_one (ps_ret (pe_call G__law_statement hr (by exact rfl) m__law_statement k__law_statement b__law_statement .nil pass0 (pa_cons (pe_call G__law_mix hr (by exact rfl) m__law_mix k__law_mix b__law_mix .nil pass0 (pa_cons (pv 0) (pa_cons pe_int pa_nil))) (pa_cons (pe_op op_add pe_int (pe_op op_mod (pe_op op_fdiv (pv 0) pe_int) pe_int)) (pa_cons (pv 2) pa_nil))))))
    pss_nil)
  (pss_one (ps_ret (pe_call G__law_statement hr (by exact rfl) m__law_statement k__law_statement b__law_statement .nil pass0 (pa_cons (pe_call G__law_mix hr (by exact rfl) m__law_mix k__law_mix b__law_mix .nil pass0 (pa_cons (pv 0) (pa_cons pe_int pa_nil))) (pa_cons (pe_op op_add pe_int (pe_op op_mod (pe_op op_fdiv (pv 0) pe_int) pe_int)) (pa_cons (pv 2) pa_nil)))))))))), ?_⟩
  walk_at "rd"
  have d4 : CDiv c 4 := ⟨by decide, by decide⟩
  refine ⟨by decide, ite2 (fun _ => ?_) (fun _ => ite2 (fun _ => ?_) (fun _ => ite2 (fun _ => ?_) (fun _ => ?_)))⟩
  · refine ⟨_, _, rfl, by decide, by decide, d4, by omega, ?_⟩
    have b0 := Int.emod_nonneg (c / 4) (show most ≠ 0 by omega)
    have b1 := Int.emod_lt_of_pos (c / 4) (show 0 < most by omega)
    exact ⟨_, _, _, ws, rfl, mix_nn _ _, b0, by omega, hS, hw, fun r H' t e m => q r H' t e (m.mono (KeepT.refl _) (by omega) (by omega))⟩
  all_goals
    refine ⟨_, _, rfl, by decide, by decide, d4, by decide, ?_⟩
    refine ⟨_, _, _, ws, rfl, mix_nn _ _, by omega, by omega, Nat.lt_succ_of_le (rk_le _), hS, hw, fun r H' t e m => q r H' t e (m.mono (KeepT.refl _) (by omega) ?_)⟩
    have := rk_le (1 + c / 4 % 9)
    have := rk_le (1 + c / 4 % 60)
    have := rk_le (1 + c / 4 % 300)
    omega
end
set_option Elab.async false
set_option linter.all false
set_option maxRecDepth 100000
set_option maxHeartbeats 4000000
local macro_rules | `(tactic| walk_at "rdx_11") => `(tactic| simp only [tComp, kNest, kTest, kApp, kPut, tSeq, tAsg, gName, tVar, tC, tOp, rI0, rI, rU, tUn, tRet, tRetN, tIfS, tTest, tB, tNext, tCons, tNil, tCB, tCall, tTup, tLst, tDrop, tAug, ipI, tAnd, tOr, tNot, tAndV, tOrV, tNotV, tBM, tBM0, rAppend, rExtend, rPop, rIxL, rIxT, rIxS, rCat, rEq, rNe, rMulS, tSl, rSlL, rSlS, tPart, tNoPart, tRev, rJoin, tDGet, tDisp, tPairs, tFs, tFv, tFc, tF0, tKD, rIsi, rEqD, tNever, tChain, rIn, rSetL, gSub, iEnum, iStr, tKNotIn, tDIn, tDNotIn, sDPut, gTup, gCons, gNil, iRng1, iRng2, iList, iTup, iZip, rRevd, L2.start, capt,
  List.map_cons, List.map_nil, List.length_cons, List.length_nil, List.cons_append, List.nil_append, List.append_nil, List.replicate_succ, List.replicate_zero, Nat.reduceAdd, Nat.reduceSub, Nat.zero_add, Nat.add_zero, Nat.sub_zero, Nat.sub_self, List.getElem?_cons_zero, List.getElem?_cons_succ, List.getElem?_nil, List.set_cons_zero, List.set_cons_succ, Option.some.injEq, V.int.injEq, V.str.injEq, V.ref.injEq, V.bl.injEq, V.ty.injEq, List.cons.injEq, and_true, true_and, exists_eq_left', exists_eq_left, exists_and_left, exists_eq, exists_eq', and_assoc, Option.join_some, Option.join_none, scal_int, scal_str, scal_bl, cxOf_K, blk_K, decide_eq_true_eq])
local macro_rules | `(tactic| walk_at "rd") => `(tactic| walk_at "rdx_11")
local macro_rules | `(tactic| walk_at "rdx_12") => `(tactic| simp only [tComp, kNest, kTest, kApp, kPut, tFor, tLC, tVar, tC, tOp, rI0, rI, rU, tUn, tTest, tB, tCons, tNil, tCB, tCall, tTup, tLst, ipI, tAnd, tOr, tNot, tAndV, tOrV, tNotV, tBM, tBM0, rAppend, rExtend, rPop, rIxL, rIxT, rIxS, rCat, rEq, rNe, rMulS, tSl, rSlL, rSlS, tPart, tNoPart, tRev, rJoin, tDGet, tDisp, tPairs, tFs, tFv, tFc, tF0, tKD, rIsi, rEqD, tNever, tChain, rIn, rSetL, iEnum, iStr, tKNotIn, tDIn, tDNotIn, iRng1, iRng2, iList, iTup, iZip, rRevd, L2.start, capt,
  List.map_cons, List.map_nil, List.length_cons, List.length_nil, List.cons_append, List.nil_append, List.append_nil, List.replicate_succ, List.replicate_zero, Nat.reduceAdd, Nat.reduceSub, Nat.zero_add, Nat.add_zero, Nat.sub_zero, Nat.sub_self, List.getElem?_cons_zero, List.getElem?_cons_succ, List.getElem?_nil, List.set_cons_zero, List.set_cons_succ, Option.some.injEq, V.int.injEq, V.str.injEq, V.ref.injEq, V.bl.injEq, V.ty.injEq, List.cons.injEq, and_true, true_and, exists_eq_left', exists_eq_left, exists_and_left, exists_eq, exists_eq', and_assoc, Option.join_some, Option.join_none, scal_int, scal_str, scal_bl, cxOf_K, blk_K, decide_eq_true_eq])
local macro_rules | `(tactic| walk_at "ri") => `(tactic| walk_at "rdx_12")
abbrev s_spelled : Stmt := top 9
theorem sc_spelled : FnScope ["statement"] ["statement"] (defScope s_spelled) := ⟨rfl, rfl, rfl, by decide +kernel, rfl, by decide +kernel, by decide +kernel⟩
section
variable {P : Program} {w : World} {K : PySem.W.Frag} {mg : Str → Option Value} {base : Heap}
theorem ok_spelled {k : Nat} {f_spelled : Addr} {fd_spelled : FuncData} (F_spelled : Fun K "spelled" "spelled" s_spelled f_spelled fd_spelled) {f_pieces : Addr} {fd_pieces : FuncData} (G_pieces : FnOk P w K mg base CX0 k f_pieces fd_pieces ["statement"] (sp_pieces K)) (m_pieces : mg "pieces" = some (.ref f_pieces)) (k_pieces : PySem.W.keepIn K (.ref f_pieces) = true) (b_pieces : Binds K fd_pieces ["statement"] []) (m_tuple : mg "tuple" = none) (m_isinstance : mg "isinstance" = none) (m_str : mg "str" = none) : FnOk P w K mg base CX0 (k + 1) f_spelled fd_spelled ["statement"] (sp_spelled K) := by
  refine F_spelled.ok sc_spelled (fun vs H Q E h => ?_) (fun cdv A outer s H vs Q E hr h => ?_)
  · obtain ⟨v, t, rfl, _⟩ := h
    rfl
  obtain ⟨v, t, rfl, hT, hp, q⟩ := h
  refine ⟨_, (pss_one (ps_ret (pe_callTy call_tuple_of (by exact rfl) m_tuple Ken.boot_tuple (pa_cons (pe_lcG (blk0 (N' := ["piece", "text"]) (by decide +kernel) (by decide +kernel) rfl (by decide +kernel)) rfl (pi_list (pe_call G_pieces hr (by exact rfl) m_pieces k_pieces b_pieces .nil pass0 (pa_cons (pv 0) pa_nil))) (fun _ _ _ _ => (pg_name (i := 0) (show (["piece", "text"] : List Str).Nodup from by decide +kernel) rfl (Or.inl rfl))) (fun _ _ => turn_L2a01 (c := (.Name "" ⟨0, 0, 0, 0⟩))) (fun _ _ _ _ _ => (pk_nest rfl rfl den_L rfl (pi_tupK (K := K) rfl (pv 0)) (fun _ => rfl) (turn_L2b01 (c := (.Name "" ⟨0, 0, 0, 0⟩))) (pg_name (i := 1) (show (["piece", "text"] : List Str).Nodup from by decide +kernel) rfl (Or.inl rfl)) (pk_test (pt_val (pe_callB (call_isiK (K := K) rfl) (by exact rfl) m_isinstance Ken.boot_isinstance (pa_cons (pv 1) (pa_cons (pe_bltn (v := .ty "str") (by exact rfl) m_str Ken.boot_str (by exact rfl)) pa_nil)))) (pk_emitL (pv 1)))))) pa_nil)))), ?_⟩
  walk_at "rd"
  refine ⟨_, t, rfl, hT, hp, fun r H1 us e1 f1 h1 hu => ⟨r, rfl, ⟨_, SqL.of h1⟩, fun acc hacc => ?_⟩⟩
  have lu := Paired.length hu
  rw [Tm.pre_len] at lu
  refine comp_list (xs := us) (fun i H' => Same H1 H' ∧ H' acc = some (.lst (((t.pre.take i).flatMap Tm.own).map V.str))) ⟨same_new hacc _, upd_same⟩ (fun i H' _ ⟨e, _⟩ => SqL.of (e _ _ h1)) (fun i x H' N hx ⟨e, ha⟩ hN => ?_) (fun H' ⟨e, ha⟩ => ?_)
  · obtain ⟨s', hs', hxT⟩ := paired_get hu hx
    obtain ⟨a, vs, rfl, hsq, ho, hv3, hy⟩ := isT_items (hxT.keep e.keepT)
    walk_at "rd"
    have eo : (t.pre.take (i + 1)).flatMap Tm.own = (t.pre.take i).flatMap Tm.own ++ s'.own := by
      rw [List.take_add_one, hs', List.flatMap_append]
      show _ ++ (s'.own ++ []) = _
      rw [List.append_nil]
    have ll : ((t.pre.take i).flatMap Tm.own).length ≤ 800 := by
      have h1 : ((t.pre.take i).flatMap Tm.own).length ≤ t.spell.length := by
        show _ ≤ (t.pre.flatMap Tm.own).length
        rw [← List.take_append_drop i t.pre, List.flatMap_append, List.length_append, List.take_append_drop]
        exact Nat.le_add_right _ _
      have := spell_len t
      omega
    refine ⟨wk_head, ⟨_, hsq⟩, ?_⟩
    refine comp_tup (xs := vs) (fun j H2 => Same H1 H2 ∧ KeepT K H' H2 ∧ H2 acc = some (.lst (((t.pre.take i).flatMap Tm.own ++ strsOf (vs.take j)).map V.str))) ⟨e, fun _ _ z => z, by rw [List.take_zero]; show _ = some (HO.lst ((_ ++ []).map V.str)); rw [List.append_nil]; exact ha⟩ (fun j H2 _ ⟨_, e2, _⟩ => e2 _ _ hsq) (fun j y H2 M hj ⟨e2, k2, a2⟩ hM => ?_) (fun H2 ⟨e2, _, a2⟩ => ?_)
    · walk_at "rd"
      have sl : (strsOf (vs.take j)).length ≤ 3 := by
        have gen : ∀ l : List V, (strsOf l).length ≤ l.length := by
          intro l
          induction l with
          | nil => exact Nat.le_refl _
          | cons v r ih => cases v <;> simp [strsOf] <;> omega
        have := gen (vs.take j)
        rw [List.length_take] at this
        omega
      have es : strsOf (vs.take (j + 1)) = strsOf (vs.take j) ++ strsOf [y] := by rw [List.take_add_one, hj, strsOf_app]; rfl
      rcases hy y (List.mem_of_getElem? hj) with ⟨x, rfl⟩ | ⟨b, xs, rfl, hb⟩
      · refine ⟨wk_set (i := 1) rfl, _, .of (.str x), _, kit_same K "str", ?_⟩
        rw [if_pos rfl]
        refine ⟨_, a2, small1M (by rw [List.length_map, List.length_append]; omega), hM _ ⟨e2.write hacc, k2.trans (keepT_lst a2), ?_⟩⟩
        rw [upd_same, es]
        show _ = some (HO.lst ((_ ++ (_ ++ [x])).map V.str))
        rw [← List.append_assoc, List.map_append (l₂ := [x])]; rfl
      · refine ⟨wk_set (i := 1) rfl, _, .tupK (k2 _ _ hb), _, kit_ts K, ?_⟩
        rw [if_neg Bool.false_ne_true]
        refine hM _ ⟨e2, k2, ?_⟩
        rw [es]
        show _ = some (HO.lst ((_ ++ (_ ++ [])).map V.str))
        rw [List.append_nil]; exact a2
    · rw [List.take_length, ho] at a2
      exact hN _ ⟨e2, by rw [eo]; exact a2⟩
  · rw [lu, ← Tm.pre_len, List.take_length] at ha
    exact ⟨_, .inl ⟨SqL.of ha, fun l hl => q l _ ((e1.trans e).trans (same_new hl _)) ((e1.trans e).free hl) upd_same⟩⟩
end
set_option Elab.async false
set_option linter.all false
set_option maxRecDepth 100000
set_option maxHeartbeats 4000000
local macro_rules | `(tactic| walk_at "rd") => `(tactic| walk_at "rdx_11")
local macro_rules | `(tactic| walk_at "ri") => `(tactic| walk_at "rdx_12")
abbrev s_once : Stmt := top 10
theorem sc_once : FnScope ["some", "by_spelling"] ["some"] (defScope s_once) := ⟨rfl, rfl, rfl, by decide +kernel, rfl, by decide +kernel, by decide +kernel⟩
section
variable {P : Program} {w : World} {K : PySem.W.Frag} {mg : Str → Option Value} {base : Heap}
theorem ok_once {k : Nat} {f_once : Addr} {fd_once : FuncData} (F_once : Fun K "once" "once" s_once f_once fd_once) {f_spelled : Addr} {fd_spelled : FuncData} (G_spelled : FnOk P w K mg base CX0 k f_spelled fd_spelled ["statement"] (sp_spelled K)) (m_spelled : mg "spelled" = some (.ref f_spelled)) (k_spelled : PySem.W.keepIn K (.ref f_spelled) = true) (b_spelled : Binds K fd_spelled ["statement"] []) (m_sorted : mg "sorted" = none) : FnOk P w K mg base CX0 (k + 1) f_once fd_once ["some"] (sp_once K) := by
  refine F_once.ok sc_once (fun vs H Q E h => ?_) (fun cdv A outer s H vs Q E hr h => ?_)
  · obtain ⟨a, xs, ts, rfl, _⟩ := h
    rfl
  obtain ⟨a, xs, ts, rfl, hS, hT, h64, h400, q⟩ := h
  have lx := Paired.length hT
  refine ⟨_, (pss_cons (ps_set (i := 1) sc_once.nd rfl (Or.inr rfl) (pe_dc (blk0 (N' := ["statement"]) (by decide +kernel) (by decide +kernel) rfl (by decide +kernel)) rfl (pi_list (pv 0)) (fun _ _ _ _ => (pg_name (i := 0) (show (["statement"] : List Str).Nodup from by decide +kernel) rfl (Or.inl rfl))) (fun _ _ => turn_D0 (c := (.Name "" ⟨0, 0, 0, 0⟩)) (tg2 := (.Name "" ⟨0, 0, 0, 0⟩))) (fun _ _ _ _ _ => (pk_emitD (Nat.lt_of_succ_lt (hu_of hr)) (pe_call G_spelled hr (by exact rfl) m_spelled k_spelled b_spelled .nil pass0 (pa_cons (pv 0) pa_nil)) (pv 0)))))
  (pss_one (ps_ret (pe_lc (blkC (N' := ["spelling", "by_spelling"]) (nt := 1) (ci := [1]) ["some", "by_spelling"] (defScope s_once) rfl rfl (by decide +kernel) rfl (by decide +kernel) (by decide +kernel) rfl (by decide +kernel)) rfl (pi_list (pe_callB (call_sortedT rfl) (by exact rfl) m_sorted Ken.boot_sorted (pa_cons (pv 1) pa_nil))) (fun _ _ _ _ => (pg_name (i := 0) (show (["spelling", "by_spelling"] : List Str).Nodup from by decide +kernel) rfl (Or.inl rfl))) (fun _ _ _ _ => (pe_dget (hu_of hr) (pv 1) (pv 0) (fun _ _ => rfl))))))), ?_⟩
  refine seq_then (fun σ' H' => ∃ d kvs ss, σ' = [some (.ref a), some (.ref d)] ∧ Same H H' ∧ H d = none ∧ H' d = some (.dT kvs) ∧ DS K H kvs ss ∧ ss.Nodup ∧ ss.length < 64 ∧ ∀ s, s ∈ ss ↔ s ∈ ts) ?_ ?_
  rotate_left
  · intro C hC
    walk_at "rd"
    refine ⟨⟨_, hS⟩, fun d hd => ?_⟩
    refine comp_list (xs := xs) (fun i H' => Same H H' ∧ ∃ kvs ss, H' d = some (.dT kvs) ∧ DS K H kvs ss ∧ ss.Nodup ∧ ss.length ≤ i ∧ ∀ s, s ∈ ss ↔ s ∈ ts.take i) ⟨same_new hd _, [], [], upd_same, .nil, List.nodup_nil, Nat.le_refl _, fun s => by simp⟩ (fun i H' _ ⟨e, _⟩ => e.seq hS) (fun i x H' N hx ⟨e, kvs, ss, hd', hD, hn, hl, hm⟩ hN => ?_) (fun H' ⟨e, kvs, ss, hd', hD, hn, hl, hm⟩ => ?_)
    · obtain ⟨t, ht, hxT⟩ := paired_get hT hx
      have hi : i < xs.length := (List.getElem?_eq_some_iff.mp hx).1
      have tk : ts.take (i + 1) = ts.take i ++ [t] := by rw [List.take_add_one, ht]; rfl
      have pt := h400 t (List.mem_of_getElem? ht)
      walk_at "rd"
      refine ⟨wk_head, x, t, rfl, hxT.keep e.keepT, pt, fun r H2 e2 f2 h2 => ?_⟩
      have hd2 := e2 d _ hd'
      have kl : kvs.length = ss.length := Paired.length hD
      refine ⟨_, DPut.t (k := t.key) hd2 (by rw [t.key_kV]; exact h2) (small1M (by omega)), hN _ ⟨(e.trans e2).write hd, putK kvs t.key x, ?_⟩⟩
      by_cases hin : t ∈ ss
      · refine ⟨ss, upd_same, hD.put_old hin hxT, hn, by omega, fun s => ?_⟩
        rw [tk, List.mem_append, List.mem_singleton, hm s]
        constructor
        · exact .inl
        · rintro (z | rfl)
          · exact z
          · exact (hm _).mp hin
      · refine ⟨ss ++ [t], upd_same, hD.put_new hin hxT, nd_snoc hn hin, by rw [List.length_append, List.length_singleton]; omega, fun s => ?_⟩
        rw [tk, List.mem_append, List.mem_append, hm s]
    · rw [lx, List.take_length] at hm
      exact hC _ _ ⟨d, kvs, ss, rfl, e, hd, hd', hD, hn, by omega, hm⟩
  rintro σ1 H1 ⟨d, kvs, ss, rfl, e1, f1, h1, hD, hn, hl, hm⟩
  have kl : kvs.length = ss.length := Paired.length hD
  unfold tRet tLC
  walk_at "rd"
  refine ⟨kvs, h1, fun kv hkv => ?_, by omega, fun l us ks hl0 hp hs hu => ?_⟩
  · have : kv.1 ∈ ss.map Tm.key := by rw [← hD.keys]; exact List.mem_map_of_mem hkv
    obtain ⟨s, _, e⟩ := List.mem_map.mp this
    rw [← e]; exact ⟨s.key_all, s.key_ne⟩
  rw [hD.keys] at hp
  obtain ⟨os, rfl, on, om⟩ := perm_keys hp hn
  have lo : os.length = ss.length := by have := hp.length_eq; rw [List.length_map, List.length_map] at this; exact this
  have lu := Paired.length hu
  rw [List.length_map] at lu
  refine ⟨⟨_, SqL.of upd_same⟩, fun acc hacc => ?_⟩
  have S1 : Same H1 (upd H1 l (.lst us)) := same_new hl0 _
  refine lcW_list (xs := us) (fun i ys H' => Same (upd H1 l (.lst us)) H' ∧ H' acc = some (.lst ys) ∧ Paired (IsT K H) ys (os.take i)) ⟨same_new hacc _, upd_same, .nil⟩ (fun i ys H' hi ⟨e, h, hy⟩ => ⟨h, ?_, SqL.of (e _ _ upd_same)⟩) (fun i x ys H' hx ⟨e, h, hy⟩ C' hC' => ?_) (fun ys H' ⟨e, h, hy⟩ => ?_)
  · have := Paired.length hy
    rw [List.length_take] at this
    exact small1M (by omega)
  · obtain ⟨kk, hk, b, rfl, hb⟩ := paired_get hu hx
    rw [List.getElem?_map] at hk
    cases ho : os[i]? with
    | none => rw [ho] at hk; cases hk
    | some o =>
    rw [ho] at hk
    cases hk
    have hom : o ∈ ss := (om o).mp (List.mem_of_getElem? ho)
    obtain ⟨v, hv, hvT⟩ := hD.val hom
    walk_at "rd"
    have E := S1.trans e
    refine ⟨wk_head, v, hv ▸ DGet.t (k := o.key) (E _ _ h1) (E _ _ hb), ?_⟩
    refine hC' _ _ h ⟨e.write hacc, upd_same, ?_⟩
    rw [List.take_add_one, ho]
    exact paired_app hy (.cons hvT .nil)
  · rw [lu, List.take_length] at hy
    have E := (e1.trans S1).trans e
    refine q acc H' ys os E ((e1.trans S1).free hacc) h (paired_keepT E.keepT hy) on (fun t => (om t).trans (hm t)) ?_
    rw [List.pairwise_map] at hs
    exact hs.imp fun z => by rw [Tm.keyS, Tm.keyS] at z; exact z
end
set_option Elab.async false
set_option linter.all false
set_option maxRecDepth 100000
set_option maxHeartbeats 4000000
local macro_rules | `(tactic| walk_at "rd") => `(tactic| walk_at "rdx_3")
local macro_rules | `(tactic| walk_at "ri") => `(tactic| walk_at "rdx_4")
abbrev s_law : Stmt := top 26
theorem sc_law : FnScope ["_law_script", "_law_words_here", "_law_some", "_law_k", "_law_statement_here", "_law_row", "_law_handed", "_law_found", "_law_kept"] ["_law_script"] (defScope s_law) := ⟨rfl, rfl, rfl, by decide +kernel, rfl, by decide +kernel, by decide +kernel⟩
section
variable {P : Program} {w : World} {K : PySem.W.Frag} {mg : Str → Option Value} {base : Heap}
theorem ok_law {k : Nat} {f_law : Addr} {fd_law : FuncData} (F_law : Fun K "law" "law" s_law f_law fd_law) {f__law_words : Addr} {fd__law_words : FuncData} (G__law_words : FnOk P w K mg base CX0 k f__law_words fd__law_words ["_law_cell_here", "_law_many"] (sp_words)) (m__law_words : mg "_law_words" = some (.ref f__law_words)) (k__law_words : PySem.W.keepIn K (.ref f__law_words) = true) (b__law_words : Binds K fd__law_words ["_law_cell_here", "_law_many"] []) {f__law_list : Addr} {fd__law_list : FuncData} (G__law_list : FnOk P w K mg base CX0 k f__law_list fd__law_list ["_law_script", "_law_some"] (sp_listL K)) (m__law_list : mg "_law_list" = some (.ref f__law_list)) (k__law_list : PySem.W.keepIn K (.ref f__law_list) = true) (b__law_list : Binds K fd__law_list ["_law_script", "_law_some"] []) {f_once : Addr} {fd_once : FuncData} (G_once : FnOk P w K mg base CX0 k f_once fd_once ["some"] (sp_once K)) (m_once : mg "once" = some (.ref f_once)) (k_once : PySem.W.keepIn K (.ref f_once) = true) (b_once : Binds K fd_once ["some"] []) {f__law_cell : Addr} {fd__law_cell : FuncData} (G__law_cell : FnOk P w K mg base CX0 k f__law_cell fd__law_cell ["_law_script", "_law_k"] (sp_cell K)) (m__law_cell : mg "_law_cell" = some (.ref f__law_cell)) (k__law_cell : PySem.W.keepIn K (.ref f__law_cell) = true) (b__law_cell : Binds K fd__law_cell ["_law_script", "_law_k"] []) {f__law_drawn : Addr} {fd__law_drawn : FuncData} (G__law_drawn : FnOk P w K mg base CX0 k f__law_drawn fd__law_drawn ["_law_cell_here", "_law_most", "_law_words_here"] (sp_drawn K)) (m__law_drawn : mg "_law_drawn" = some (.ref f__law_drawn)) (k__law_drawn : PySem.W.keepIn K (.ref f__law_drawn) = true) (b__law_drawn : Binds K fd__law_drawn ["_law_cell_here", "_law_most", "_law_words_here"] []) {f__law_counted : Addr} {fd__law_counted : FuncData} (G__law_counted : FnOk P w K mg base CX0 k f__law_counted fd__law_counted ["_law_statement_here"] (sp_counted K)) (m__law_counted : mg "_law_counted" = some (.ref f__law_counted)) (k__law_counted : PySem.W.keepIn K (.ref f__law_counted) = true) (b__law_counted : Binds K fd__law_counted ["_law_statement_here"] []) {f__law_sorted_once : Addr} {fd__law_sorted_once : FuncData} (G__law_sorted_once : FnOk P w K mg base CX0 k f__law_sorted_once fd__law_sorted_once ["_law_found", "_law_row"] (sp_sonce K)) (m__law_sorted_once : mg "_law_sorted_once" = some (.ref f__law_sorted_once)) (k__law_sorted_once : PySem.W.keepIn K (.ref f__law_sorted_once) = true) (b__law_sorted_once : Binds K fd__law_sorted_once ["_law_found", "_law_row"] []) {f__law_mix : Addr} {fd__law_mix : FuncData} (G__law_mix : FnOk P w K mg base CX0 k f__law_mix fd__law_mix ["_law_cell_here", "_law_k"] (sp_mix)) (m__law_mix : mg "_law_mix" = some (.ref f__law_mix)) (k__law_mix : PySem.W.keepIn K (.ref f__law_mix) = true) (b__law_mix : Binds K fd__law_mix ["_law_cell_here", "_law_k"] []) (m_range : mg "range" = none) (m_list : mg "list" = none) (m_max : mg "max" = none) (m_min : mg "min" = none) (m_len : mg "len" = none) : FnOk P w K mg base CX0 (k + 1) f_law fd_law ["_law_script"] (sp_law K) := by
  refine F_law.ok sc_law (fun vs H Q E h => ?_) (fun cdv A outer s H vs Q E hr h => ?_)
  · obtain ⟨a, ns, rfl, _⟩ := h
    rfl
  obtain ⟨a, ns, rfl, hS, hl, q⟩ := h
  refine ⟨_, (pss_cons (ps_set (i := 1) sc_law.nd rfl (Or.inl rfl) (pe_call G__law_words hr (by exact rfl) m__law_words k__law_words b__law_words .nil pass0 (pa_cons (pe_call G__law_cell hr (by exact rfl) m__law_cell k__law_cell b__law_cell .nil pass0 (pa_cons (pv 0) (pa_cons pe_int pa_nil))) (pa_cons (pe_op op_add pe_int (pe_op op_mod (pe_call G__law_cell hr (by exact rfl) m__law_cell k__law_cell b__law_cell .nil pass0 (pa_cons (pv 0) (pa_cons pe_int pa_nil))) pe_int)) pa_nil))))
  (pss_cons (ps_set (i := 2) sc_law.nd rfl (Or.inl rfl) (pe_lst pa_nil))
  (pss_cons (ps_for PassesOwn.never rfl (pi_range1 rfl m_range (pa_cons (pe_callB (call_max2 rfl) (by exact rfl) m_max Ken.boot_max (pa_cons pe_int (pa_cons (pe_callB (call_min2 rfl) (by exact rfl) m_min Ken.boot_min (pa_cons pe_int (pa_cons (pe_callB call_len_seq (by exact rfl) m_len Ken.boot_len (pa_cons (pv 0) pa_nil)) pa_nil))) pa_nil))) pa_nil)) (pg_name (i := 3) sc_law.nd rfl (Or.inl rfl))
    (pss_one (ps_expr (pe_bm PySem.F.plainAttrs_list PySem.F.slot_list_append PySem.F.type_list_append mt_append (pv 2) (pa_cons (pe_call G__law_drawn hr (by exact rfl) m__law_drawn k__law_drawn b__law_drawn .nil pass0 (pa_cons (pe_call G__law_mix hr (by exact rfl) m__law_mix k__law_mix b__law_mix .nil pass0 (pa_cons (pe_call G__law_cell hr (by exact rfl) m__law_cell k__law_cell b__law_cell .nil pass0 (pa_cons (pv 0) (pa_cons (pv 3) pa_nil))) (pa_cons (pe_op op_add (pv 3) pe_int) pa_nil))) (pa_cons pe_int (pa_cons (pv 1) pa_nil)))) pa_nil)))))
  (pss_cons (ps_for PassesOwn.never rfl (pi_list (pv 2)) (pg_name (i := 4) sc_law.nd rfl (Or.inl rfl))
    (pss_one (ps_if (pt_not (pt_val (pe_call G__law_counted hr (by exact rfl) m__law_counted k__law_counted b__law_counted .nil pass0 (pa_cons (pv 4) pa_nil))))
    (pss_one (ps_ret pe_bl))
    pss_nil)))
  (pss_cons (ps_set (i := 5) sc_law.nd rfl (Or.inl rfl) (pe_call G__law_list hr (by exact rfl) m__law_list k__law_list b__law_list .nil pass0 (pa_cons (pv 0) (pa_cons (pv 2) pa_nil))))
  (pss_cons (ps_set (i := 6) sc_law.nd rfl (Or.inl rfl) (pe_callTy call_list_of (by exact rfl) m_list Ken.boot_list (pa_cons (pv 5) pa_nil)))
  (pss_cons (ps_set (i := 7) sc_law.nd rfl (Or.inl rfl) (pe_call G_once hr (by exact rfl) m_once k_once b_once .nil pass0 (pa_cons (pv 6) pa_nil)))
  (pss_cons (ps_if ((pw_or (pt_not (pt_val (pe_call G__law_sorted_once hr (by exact rfl) m__law_sorted_once k__law_sorted_once b__law_sorted_once .nil pass0 (pa_cons (pv 7) (pa_cons (pv 5) pa_nil))))) (pw_or1 (pt_cmpR (op_neD (hu_150 hr)) (pv 6) (pv 5) (nomark _))))).pt
    (pss_one (ps_ret pe_bl))
    pss_nil)
  (pss_cons (ps_set (i := 8) sc_law.nd rfl (Or.inl rfl) (pe_callTy call_list_of (by exact rfl) m_list Ken.boot_list (pa_cons (pv 7) pa_nil)))
  (pss_cons (ps_expr (pe_bm PySem.F.plainAttrs_list PySem.F.slot_list_append PySem.F.type_list_append mt_append (pv 7) (pa_cons (pe_tup (pa_cons pe_str pa_nil)) pa_nil)))
  (pss_one (ps_ret (pe_and (pe_cmpR (op_eqD (hu_150 hr)) (pe_call G_once hr (by exact rfl) m_once k_once b_once .nil pass0 (pa_cons (pv 6) pa_nil)) (pv 8) (nomark _)) (pe_one (pe_cmpR (op_eqD (hu_150 hr)) (pe_call G_once hr (by exact rfl) m_once k_once b_once .nil pass0 (pa_cons (pe_lst pa_nil) pa_nil)) (pe_lst pa_nil) (nomark _)))))))))))))))), ?_⟩
  refine seq_then (fun σ' H' => ∃ wa us, σ' = [some (.ref a), some (.ref wa), none, none, none, none, none, none, none] ∧ Same H H' ∧ H' wa = some (.lst (us.map V.str)) ∧ Words us) ?_ ?_
  rotate_left
  · intro C hC
    walk_at "rd"
    refine ⟨a, ns, _, rfl, hS, hl, by decide, by decide, a, ns, _, rfl, hS, hl, by decide, by decide, _, rfl, by decide, _, _, rfl, cell_nn _ _, ?_, ?_, fun r H' ws e hr h hw => hC _ _ ⟨r, ws, rfl, e, h, hw⟩⟩
    · have := Int.emod_nonneg (cellOf ns 1) (show (5 : Int) ≠ 0 by decide)
      omega
    · have := Int.emod_lt_of_pos (cellOf ns 1) (show (0 : Int) < 5 by decide)
      omega
  rintro σ1 H1 ⟨wa, us, rfl, e1, h1, hu⟩
  refine seq_then (fun σ' H' => ∃ ls, σ' = [some (.ref a), some (.ref wa), some (.ref ls), none, none, none, none, none, none] ∧ Same H1 H' ∧ H1 ls = none ∧ H' ls = some (.lst [])) ?_ ?_
  rotate_left
  · intro C hC
    walk_at "rd"
    exact ⟨by decide, fun p hp => hC _ _ ⟨p, rfl, same_new hp _, hp, upd_same⟩⟩
  rintro σ2 H2 ⟨ls, rfl, e2, f2, h2⟩
  refine seq_then (fun σ' H' => ∃ x3 xs ss, σ' = [some (.ref a), some (.ref wa), some (.ref ls), x3, none, none, none, none, none] ∧ Same H1 H' ∧ H' ls = some (.lst xs) ∧ Paired (IsT K H') xs ss ∧ 1 ≤ ss.length ∧ ss.length ≤ 3 ∧ ∀ t ∈ ss, t.inW us ∧ t.parts ≤ 300 ∧ t.deep ≤ 47) ?_ ?_
  rotate_left
  · intro C hC
    obtain ⟨n, en, n1, n3⟩ : ∃ n : Nat, (if (if ((ns.map V.int).length : Int) < 3 then ((ns.map V.int).length : Int) else 3) > 1 then (if ((ns.map V.int).length : Int) < 3 then ((ns.map V.int).length : Int) else 3) else 1) = ((n : Nat) : Int) ∧ 1 ≤ n ∧ n ≤ 3 := by
      rw [List.length_map]
      refine ⟨max 1 (min 3 ns.length), ?_, by omega, by omega⟩
      repeat' split
      all_goals omega
    refine for_rangeT (n := n) (fun Q' h => ?_) (by omega) (fun i σ' H' => ∃ x3 xs ss, σ' = [some (.ref a), some (.ref wa), some (.ref ls), x3, none, none, none, none, none] ∧ Same H1 H' ∧ H' ls = some (.lst xs) ∧ Paired (IsT K H') xs ss ∧ ss.length = i ∧ ∀ t ∈ ss, t.inW us ∧ t.parts ≤ 300 ∧ t.deep ≤ 47) ⟨none, [], [], rfl, e2, h2, .nil, rfl, fun t ht => by simp at ht⟩ (fun i σ' H' hi hp => ?_) (fun σ' H' hp => ?_)
    · walk_at "rd"
      exact ⟨_, .inl ((e1.trans e2).seq hS), by rw [en]; exact h⟩
    · obtain ⟨x3, xs, ss, rfl, e, h, hP, hlen, hin⟩ := hp
      have lx := Paired.length hP
      walk_at "rd"
      refine ⟨.inl ⟨rfl, _, SqL.of h⟩, a, ns, _, rfl, (e1.trans e).seq hS, hl, by omega, by omega, _, _, rfl, by omega, by omega, _, _, wa, us, rfl, mix_nn _ _, by decide, by decide, SqL.of (e _ _ h1), hu, fun r H2' t e' m => ?_⟩
      have h' := e' _ _ h
      have k' : KeepT K H2' (upd H2' ls (HO.lst (xs ++ [r]))) := keepT_lst h'
      refine ⟨xs, h', small1M (by omega), (e.trans e').write f2, _, upd_same, ss ++ [t], paired_app (Paired.mapP hP fun _ _ z => (z.keep e'.keepT).keep k') (.cons (m.1.keep k') .nil), by rw [List.length_append, List.length_singleton]; omega, fun x hx => ?_⟩
      rcases List.mem_append.mp hx with z | z
      · exact hin x z
      · rw [List.mem_singleton.mp z]; exact ⟨m.2.1, m.2.2.1, m.2.2.2⟩
    · obtain ⟨x3, xs, ss, rfl, e, h, hP, hlen, hin⟩ := hp
      exact hC _ _ ⟨x3, xs, ss, rfl, e, h, hP, by omega, by omega, hin⟩
  rintro σ3 H3 ⟨x3, xs, ss, rfl, e3, h3, hP3, l1, l3, hin⟩
  have E3 := e1.trans e3
  have oks : ∀ t ∈ ss, t.ok := fun t ht => (hin t ht).1.ok hu.2.2
  refine seq_then (fun σ' H' => ∃ x4, σ' = [some (.ref a), some (.ref wa), some (.ref ls), x3, x4, none, none, none, none] ∧ Same H3 H') ?_ ?_
  rotate_left
  · intro C hC
    walk_at "ri"
    refine ⟨⟨_, SqL.of h3⟩, ?_⟩
    refine for_list (K := K) (D := { nx := C, rt := Q }) (xs := xs) (fun i σ' H' => ∃ x4, σ' = [some (.ref a), some (.ref wa), some (.ref ls), x3, x4, none, none, none, none] ∧ Same H3 H') ⟨none, rfl, Same.refl _⟩ (fun i σ' H' _ ⟨_, _, e⟩ => SqL.of (e _ _ h3)) (fun i v σ' H' hv hp => ?_) (fun σ' H' hp => hC _ _ hp)
    obtain ⟨x4, rfl, e⟩ := hp
    obtain ⟨t, ht, htT⟩ := paired_get hP3 hv
    have tss := List.mem_of_getElem? ht
    obtain ⟨i1, i2, i3⟩ := hin t tss
    walk_at "rd"
    refine ⟨v, t, us, rfl, htT.keep e.keepT, oks t tss, i2, i3, i1, hu.2.1, fun H'' e' => ⟨true, rfl, ?_⟩⟩
    rw [if_neg (by decide)]
    exact e.trans e'
  rintro σ4 H4 ⟨x4, rfl, e4⟩
  refine seq_then (fun σ' H' => ∃ lr rs ts, σ' = [some (.ref a), some (.ref wa), some (.ref ls), x3, x4, some (.ref lr), none, none, none] ∧ Same H4 H' ∧ H' lr = some (.lst rs) ∧ Paired (IsT K H') rs ts ∧ ts.length ≤ 44 ∧ ∀ t ∈ ts, t.ok ∧ t.deep ≤ 47 ∧ t.parts ≤ 300) ?_ ?_
  rotate_left
  · intro C hC
    walk_at "rd"
    refine ⟨a, ls, ns, xs, ss, rfl, (E3.trans e4).seq hS, hl, e4 _ _ h3, Paired.mapP hP3 (fun _ _ z => z.keep e4.keepT), l1, l3, fun s hs => (hin s hs).2.1, fun r H' us' os e fr h hP hlen hmem => hC _ _ ⟨r, us', os, rfl, e, h, hP, hlen, fun t ht => ?_⟩⟩
    obtain ⟨s', hs', hp'⟩ := hmem t ht
    obtain ⟨p1, p2, p3⟩ := pre_le hp'
    obtain ⟨i1, i2, i3⟩ := hin s' hs'
    exact ⟨Tm.pre_ok (oks s' hs') t hp', by omega, by omega⟩
  rintro σ5 H5 ⟨lr, rs, ts, rfl, e5, h5, hP5, l44, hts⟩
  refine seq_then (fun σ' H' => ∃ lh, σ' = [some (.ref a), some (.ref wa), some (.ref ls), x3, x4, some (.ref lr), some (.ref lh), none, none] ∧ Same H5 H' ∧ H' lh = some (.lst rs)) ?_ ?_
  rotate_left
  · intro C hC
    walk_at "rd"
    exact ⟨_, .inl (SqL.of h5), fun l hl => hC _ _ ⟨l, rfl, same_new hl _, upd_same⟩⟩
  rintro σ6 H6 ⟨lh, rfl, e6, h6⟩
  have hP6 := Paired.mapP hP5 fun _ _ z => IsT.keep z e6.keepT
  have h6r := e6 _ _ h5
  refine seq_then (fun σ' H' => ∃ lf us' os, σ' = [some (.ref a), some (.ref wa), some (.ref ls), x3, x4, some (.ref lr), some (.ref lh), some (.ref lf), none] ∧ Same H6 H' ∧ H6 lf = none ∧ H' lf = some (.lst us') ∧ Paired (IsT K H') us' os ∧ os.Nodup ∧ (∀ t, t ∈ os ↔ t ∈ ts) ∧ sortedT os) ?_ ?_
  rotate_left
  · intro C hC
    walk_at "rd"
    exact ⟨lh, rs, ts, rfl, SqL.of h6, hP6, by omega, fun t ht => by have := (hts t ht).2.2; omega, fun r H' us' os e fr h hP hn hm hso => hC _ _ ⟨r, us', os, rfl, e, fr, h, hP, hn, hm, hso⟩⟩
  rintro σ7 H7 ⟨lf, us', os, rfl, e7, f7, h7, hP7, hn7, hm7, hso7⟩
  have lo : os.length ≤ 44 := Nat.le_trans (len_le_of_sub hn7 fun x hx => (hm7 x).mp hx) l44
  have oko : ∀ t ∈ os, t.ok ∧ t.deep ≤ 47 := fun t ht => ⟨(hts t ((hm7 t).mp ht)).1, (hts t ((hm7 t).mp ht)).2.1⟩
  have hPr7 := Paired.mapP hP6 fun _ _ z => IsT.keep z e7.keepT
  refine seq_then (fun σ' H' => σ' = [some (.ref a), some (.ref wa), some (.ref ls), x3, x4, some (.ref lr), some (.ref lh), some (.ref lf), none] ∧ Same H7 H') ?_ ?_
  rotate_left
  · intro C hC
    walk_at "rd"
    refine ⟨lf, lr, us', rs, os, ts, rfl, h7, e7 _ _ h6r, hP7, hPr7, hn7, hso7, hm7, fun t ht => ⟨(hts t ht).1, (hts t ht).2.1⟩, by omega, by omega, fun H' e => ⟨true, rfl, ?_⟩⟩
    rw [if_neg (by decide)]
    have hPr8 := Paired.mapP hPr7 fun _ _ z => IsT.keep z e.keepT
    refine ⟨.list (ts.map Tm.data), ?_, .list (ts.map Tm.data), ?_, tms_lay (fun t ht => (hts t ht).1), tms_lay (fun t ht => (hts t ht).1), Nat.le_trans (Nat.min_le_left _ _) (Nat.le_trans (tms_depth fun t ht => (hts t ht).2.1) (by decide)), ?_⟩
    · rw [Dn]; exact ⟨lh, _, rfl, SqL.of (e _ _ (e7 _ _ h6)), tms_dn hPr8⟩
    · rw [Dn]; exact ⟨lr, _, rfl, SqL.of (e _ _ (e7 _ _ h6r)), tms_dn hPr8⟩
    rw [if_pos trivial, tms_self, if_neg (by decide)]
    exact hC _ _ ⟨rfl, e⟩
  rintro σ8 H8 ⟨rfl, e8⟩
  have h8f := e8 _ _ h7
  refine seq_then (fun σ' H' => ∃ lk, σ' = [some (.ref a), some (.ref wa), some (.ref ls), x3, x4, some (.ref lr), some (.ref lh), some (.ref lf), some (.ref lk)] ∧ Same H8 H' ∧ H8 lk = none ∧ H' lk = some (.lst us')) ?_ ?_
  rotate_left
  · intro C hC
    walk_at "rd"
    exact ⟨_, .inl (SqL.of h8f), fun l hl => hC _ _ ⟨l, rfl, same_new hl _, hl, upd_same⟩⟩
  rintro σ9 H9 ⟨lk, rfl, e9, f9, h9⟩
  have nkf : lk ≠ lf := fun z => by rw [z, h8f] at f9; cases f9
  have lu7 := Paired.length hP7
  walk_at "rd"
  refine ⟨.inl ⟨rfl, _, SqL.of (e9 _ _ h8f)⟩, by decide, fun p hp => ?_⟩
  have s1 := same_new hp (HO.tup [V.str "low"])
  have h10f := s1 _ _ (e9 _ _ h8f)
  refine ⟨_, h10f, small1M (by omega), ?_⟩
  have S : Same H6 (upd (upd H9 p (HO.tup [V.str "low"])) lf (HO.lst (us' ++ [V.ref p]))) := (((e7.trans e8).trans e9).trans s1).write f7
  have k10 : KeepT K H7 (upd (upd H9 p (HO.tup [V.str "low"])) lf (HO.lst (us' ++ [V.ref p]))) := KeepT.trans ((e8.trans e9).trans s1).keepT (keepT_lst h10f)
  have h10k : upd (upd H9 p (HO.tup [V.str "low"])) lf (HO.lst (us' ++ [V.ref p])) lk = some (.lst us') := by rw [upd_ne nkf]; exact s1 _ _ h9
  generalize upd (upd H9 p (HO.tup [V.str "low"])) lf (HO.lst (us' ++ [V.ref p])) = H10 at S k10 h10k
  refine ⟨lh, rs, ts, rfl, SqL.of (S _ _ h6), Paired.mapP hP6 (fun _ _ z => z.keep S.keepT), by omega, fun t ht => by have := (hts t ht).2.2; omega, fun r H11 us2 os2 e11 fr11 h11 hP11 hn11 hm11 hso11 => ?_⟩
  have eo : os2 = os := uniqT hso11 hso7 fun x => by rw [hm11 x, hm7 x]
  subst eo
  have lay := tms_lay (fun t ht => (oko t ht).1)
  refine ⟨.list (os2.map Tm.data), ?_, .list (os2.map Tm.data), ?_, lay, lay, Nat.le_trans (Nat.min_le_left _ _) (Nat.le_trans (tms_depth fun t ht => (oko t ht).2) (by decide)), ?_⟩
  · rw [Dn]; exact ⟨r, _, rfl, SqL.of h11, tms_dn hP11⟩
  · rw [Dn]; exact ⟨lk, _, rfl, SqL.of (e11 _ _ h10k), tms_dn (Paired.mapP hP7 fun _ _ z => (z.keep k10).keep e11.keepT)⟩
  rw [if_neg Bool.false_ne_true, tms_self, if_pos rfl]
  refine ⟨Nat.zero_le _, fun p2 hp2 => ⟨p2, [], [], rfl, SqL.of upd_same, .nil, by decide, fun t ht => by simp at ht, fun r2 H12 us3 os3 e12 fr12 h12 hP12 hn12 hm12 hso12 => ⟨Nat.zero_le _, fun p3 hp3 => ?_⟩⟩⟩
  have eo3 : os3 = [] := by
    cases os3 with
    | nil => rfl
    | cons x r => exact absurd ((hm12 x).mp List.mem_cons_self) (by simp)
  subst eo3
  cases hP12
  refine ⟨.list [], ?_, .list [], ?_, rfl, rfl, by decide, ?_⟩
  · rw [Dn]; exact ⟨r2, [], rfl, SqL.of ((same_new hp3 _) _ _ h12), by rw [DnAll]⟩
  · rw [Dn]; exact ⟨p3, [], rfl, SqL.of upd_same, by rw [DnAll]⟩
  rw [if_neg Bool.false_ne_true]
  exact q _
end
set_option Elab.async false
set_option linter.all false
set_option maxRecDepth 100000
set_option maxHeartbeats 4000000
theorem all_mk {l : PySem.W.OpenLaw} {w : World} {K : PySem.W.Frag} {h : Heap} {mg : Str → Option Value} {fa : Addr} (X : K.In h) (G : h.Ns mainGlobals mg) (hfa : mg "law" = some (.ref fa))
    {f__law_mix : Addr} {od__law_mix an__law_mix : Option Addr} {sl__law_mix : Array (Option Value)} {oc__law_mix kV__law_mix dc__law_mix pm__law_mix cd__law_mix ct__law_mix : Value}
    {f__law_cell : Addr} {od__law_cell an__law_cell : Option Addr} {sl__law_cell : Array (Option Value)} {oc__law_cell kV__law_cell dc__law_cell pm__law_cell cd__law_cell ct__law_cell : Value}
    {f__law_words : Addr} {od__law_words an__law_words : Option Addr} {sl__law_words : Array (Option Value)} {oc__law_words kV__law_words dc__law_words pm__law_words cd__law_words ct__law_words : Value}
    {f__law_leaf : Addr} {od__law_leaf an__law_leaf : Option Addr} {sl__law_leaf : Array (Option Value)} {oc__law_leaf kV__law_leaf dc__law_leaf pm__law_leaf cd__law_leaf ct__law_leaf : Value}
    {f__law_statement : Addr} {od__law_statement an__law_statement : Option Addr} {sl__law_statement : Array (Option Value)} {oc__law_statement kV__law_statement dc__law_statement pm__law_statement cd__law_statement ct__law_statement : Value}
    {f__law_comb : Addr} {od__law_comb an__law_comb : Option Addr} {sl__law_comb : Array (Option Value)} {oc__law_comb kV__law_comb dc__law_comb pm__law_comb cd__law_comb ct__law_comb : Value}
    {f__law_drawn : Addr} {od__law_drawn an__law_drawn : Option Addr} {sl__law_drawn : Array (Option Value)} {oc__law_drawn kV__law_drawn dc__law_drawn pm__law_drawn cd__law_drawn ct__law_drawn : Value}
    {f_within : Addr} {od_within an_within : Option Addr} {sl_within : Array (Option Value)} {oc_within kV_within dc_within pm_within cd_within ct_within : Value}
    {f_pieces : Addr} {od_pieces an_pieces : Option Addr} {sl_pieces : Array (Option Value)} {oc_pieces kV_pieces dc_pieces pm_pieces cd_pieces ct_pieces : Value}
    {f_parts : Addr} {od_parts an_parts : Option Addr} {sl_parts : Array (Option Value)} {oc_parts kV_parts dc_parts pm_parts cd_parts ct_parts : Value}
    {f_deep : Addr} {od_deep an_deep : Option Addr} {sl_deep : Array (Option Value)} {oc_deep kV_deep dc_deep pm_deep cd_deep ct_deep : Value}
    {f_letters : Addr} {od_letters an_letters : Option Addr} {sl_letters : Array (Option Value)} {oc_letters kV_letters dc_letters pm_letters cd_letters ct_letters : Value}
    {f_negated : Addr} {od_negated an_negated : Option Addr} {sl_negated : Array (Option Value)} {oc_negated kV_negated dc_negated pm_negated cd_negated ct_negated : Value}
    {f_spelled : Addr} {od_spelled an_spelled : Option Addr} {sl_spelled : Array (Option Value)} {oc_spelled kV_spelled dc_spelled pm_spelled cd_spelled ct_spelled : Value}
    {f_once : Addr} {od_once an_once : Option Addr} {sl_once : Array (Option Value)} {oc_once kV_once dc_once pm_once cd_once ct_once : Value}
    {f__law_whole : Addr} {od__law_whole an__law_whole : Option Addr} {sl__law_whole : Array (Option Value)} {oc__law_whole kV__law_whole dc__law_whole pm__law_whole cd__law_whole ct__law_whole : Value}
    {f__law_same : Addr} {od__law_same an__law_same : Option Addr} {sl__law_same : Array (Option Value)} {oc__law_same kV__law_same dc__law_same pm__law_same cd__law_same ct__law_same : Value}
    {f__law_within : Addr} {od__law_within an__law_within : Option Addr} {sl__law_within : Array (Option Value)} {oc__law_within kV__law_within dc__law_within pm__law_within cd__law_within ct__law_within : Value}
    {f__law_depth : Addr} {od__law_depth an__law_depth : Option Addr} {sl__law_depth : Array (Option Value)} {oc__law_depth kV__law_depth dc__law_depth pm__law_depth cd__law_depth ct__law_depth : Value}
    {f__law_counted : Addr} {od__law_counted an__law_counted : Option Addr} {sl__law_counted : Array (Option Value)} {oc__law_counted kV__law_counted dc__law_counted pm__law_counted cd__law_counted ct__law_counted : Value}
    {f__law_list : Addr} {od__law_list an__law_list : Option Addr} {sl__law_list : Array (Option Value)} {oc__law_list kV__law_list dc__law_list pm__law_list cd__law_list ct__law_list : Value}
    {f__law_sorted_once : Addr} {od__law_sorted_once an__law_sorted_once : Option Addr} {sl__law_sorted_once : Array (Option Value)} {oc__law_sorted_once kV__law_sorted_once dc__law_sorted_once pm__law_sorted_once cd__law_sorted_once ct__law_sorted_once : Value}
    {f_law : Addr} {od_law an_law : Option Addr} {sl_law : Array (Option Value)} {oc_law kV_law dc_law pm_law cd_law ct_law : Value}
    {aPAIRED : Addr} {od_PAIRED : Option Addr} {sl_PAIRED : Array (Option Value)} {n_PAIRED tk_PAIRED_0 tk_PAIRED_1 tk_PAIRED_2 : Nat}
    {aLOW : Addr} {od_LOW : Option Addr} {sl_LOW : Array (Option Value)} {n_LOW tk_LOW_0 : Nat}
    (a__law_mix : PySem.W.nsIn K mainGlobals "_law_mix" = some (some (.ref f__law_mix))) (l__law_mix : K.lookup f__law_mix = some ⟨oc__law_mix, od__law_mix, .func (PySem.W.fnOf "_law_mix" "_law_mix" (defArgs s__law_mix) (defBody s__law_mix) (defScope s__law_mix) .none kV__law_mix dc__law_mix pm__law_mix an__law_mix cd__law_mix ct__law_mix), sl__law_mix⟩) (c__law_mix : PySem.W.codeIn K cd__law_mix "_law_mix" = true) (k__law_mix : PySem.W.keepIn K (.ref f__law_mix) = true)
    (a__law_cell : PySem.W.nsIn K mainGlobals "_law_cell" = some (some (.ref f__law_cell))) (l__law_cell : K.lookup f__law_cell = some ⟨oc__law_cell, od__law_cell, .func (PySem.W.fnOf "_law_cell" "_law_cell" (defArgs s__law_cell) (defBody s__law_cell) (defScope s__law_cell) .none kV__law_cell dc__law_cell pm__law_cell an__law_cell cd__law_cell ct__law_cell), sl__law_cell⟩) (c__law_cell : PySem.W.codeIn K cd__law_cell "_law_cell" = true) (k__law_cell : PySem.W.keepIn K (.ref f__law_cell) = true)
    (a__law_words : PySem.W.nsIn K mainGlobals "_law_words" = some (some (.ref f__law_words))) (l__law_words : K.lookup f__law_words = some ⟨oc__law_words, od__law_words, .func (PySem.W.fnOf "_law_words" "_law_words" (defArgs s__law_words) (defBody s__law_words) (defScope s__law_words) .none kV__law_words dc__law_words pm__law_words an__law_words cd__law_words ct__law_words), sl__law_words⟩) (c__law_words : PySem.W.codeIn K cd__law_words "_law_words" = true) (k__law_words : PySem.W.keepIn K (.ref f__law_words) = true)
    (a__law_leaf : PySem.W.nsIn K mainGlobals "_law_leaf" = some (some (.ref f__law_leaf))) (l__law_leaf : K.lookup f__law_leaf = some ⟨oc__law_leaf, od__law_leaf, .func (PySem.W.fnOf "_law_leaf" "_law_leaf" (defArgs s__law_leaf) (defBody s__law_leaf) (defScope s__law_leaf) .none kV__law_leaf dc__law_leaf pm__law_leaf an__law_leaf cd__law_leaf ct__law_leaf), sl__law_leaf⟩) (c__law_leaf : PySem.W.codeIn K cd__law_leaf "_law_leaf" = true) (k__law_leaf : PySem.W.keepIn K (.ref f__law_leaf) = true)
    (a__law_statement : PySem.W.nsIn K mainGlobals "_law_statement" = some (some (.ref f__law_statement))) (l__law_statement : K.lookup f__law_statement = some ⟨oc__law_statement, od__law_statement, .func (PySem.W.fnOf "_law_statement" "_law_statement" (defArgs s__law_statement) (defBody s__law_statement) (defScope s__law_statement) .none kV__law_statement dc__law_statement pm__law_statement an__law_statement cd__law_statement ct__law_statement), sl__law_statement⟩) (c__law_statement : PySem.W.codeIn K cd__law_statement "_law_statement" = true) (k__law_statement : PySem.W.keepIn K (.ref f__law_statement) = true)
    (a__law_comb : PySem.W.nsIn K mainGlobals "_law_comb" = some (some (.ref f__law_comb))) (l__law_comb : K.lookup f__law_comb = some ⟨oc__law_comb, od__law_comb, .func (PySem.W.fnOf "_law_comb" "_law_comb" (defArgs s__law_comb) (defBody s__law_comb) (defScope s__law_comb) .none kV__law_comb dc__law_comb pm__law_comb an__law_comb cd__law_comb ct__law_comb), sl__law_comb⟩) (c__law_comb : PySem.W.codeIn K cd__law_comb "_law_comb" = true) (k__law_comb : PySem.W.keepIn K (.ref f__law_comb) = true)
    (a__law_drawn : PySem.W.nsIn K mainGlobals "_law_drawn" = some (some (.ref f__law_drawn))) (l__law_drawn : K.lookup f__law_drawn = some ⟨oc__law_drawn, od__law_drawn, .func (PySem.W.fnOf "_law_drawn" "_law_drawn" (defArgs s__law_drawn) (defBody s__law_drawn) (defScope s__law_drawn) .none kV__law_drawn dc__law_drawn pm__law_drawn an__law_drawn cd__law_drawn ct__law_drawn), sl__law_drawn⟩) (c__law_drawn : PySem.W.codeIn K cd__law_drawn "_law_drawn" = true) (k__law_drawn : PySem.W.keepIn K (.ref f__law_drawn) = true)
    (a_within : PySem.W.nsIn K mainGlobals "within" = some (some (.ref f_within))) (l_within : K.lookup f_within = some ⟨oc_within, od_within, .func (PySem.W.fnOf "within" "within" (defArgs s_within) (defBody s_within) (defScope s_within) .none kV_within dc_within pm_within an_within cd_within ct_within), sl_within⟩) (c_within : PySem.W.codeIn K cd_within "within" = true) (k_within : PySem.W.keepIn K (.ref f_within) = true)
    (a_pieces : PySem.W.nsIn K mainGlobals "pieces" = some (some (.ref f_pieces))) (l_pieces : K.lookup f_pieces = some ⟨oc_pieces, od_pieces, .func (PySem.W.fnOf "pieces" "pieces" (defArgs s_pieces) (defBody s_pieces) (defScope s_pieces) .none kV_pieces dc_pieces pm_pieces an_pieces cd_pieces ct_pieces), sl_pieces⟩) (c_pieces : PySem.W.codeIn K cd_pieces "pieces" = true) (k_pieces : PySem.W.keepIn K (.ref f_pieces) = true)
    (a_parts : PySem.W.nsIn K mainGlobals "parts" = some (some (.ref f_parts))) (l_parts : K.lookup f_parts = some ⟨oc_parts, od_parts, .func (PySem.W.fnOf "parts" "parts" (defArgs s_parts) (defBody s_parts) (defScope s_parts) .none kV_parts dc_parts pm_parts an_parts cd_parts ct_parts), sl_parts⟩) (c_parts : PySem.W.codeIn K cd_parts "parts" = true) (k_parts : PySem.W.keepIn K (.ref f_parts) = true)
    (a_deep : PySem.W.nsIn K mainGlobals "deep" = some (some (.ref f_deep))) (l_deep : K.lookup f_deep = some ⟨oc_deep, od_deep, .func (PySem.W.fnOf "deep" "deep" (defArgs s_deep) (defBody s_deep) (defScope s_deep) .none kV_deep dc_deep pm_deep an_deep cd_deep ct_deep), sl_deep⟩) (c_deep : PySem.W.codeIn K cd_deep "deep" = true) (k_deep : PySem.W.keepIn K (.ref f_deep) = true)
    (a_letters : PySem.W.nsIn K mainGlobals "letters" = some (some (.ref f_letters))) (l_letters : K.lookup f_letters = some ⟨oc_letters, od_letters, .func (PySem.W.fnOf "letters" "letters" (defArgs s_letters) (defBody s_letters) (defScope s_letters) .none kV_letters dc_letters pm_letters an_letters cd_letters ct_letters), sl_letters⟩) (c_letters : PySem.W.codeIn K cd_letters "letters" = true) (k_letters : PySem.W.keepIn K (.ref f_letters) = true)
    (a_negated : PySem.W.nsIn K mainGlobals "negated" = some (some (.ref f_negated))) (l_negated : K.lookup f_negated = some ⟨oc_negated, od_negated, .func (PySem.W.fnOf "negated" "negated" (defArgs s_negated) (defBody s_negated) (defScope s_negated) .none kV_negated dc_negated pm_negated an_negated cd_negated ct_negated), sl_negated⟩) (c_negated : PySem.W.codeIn K cd_negated "negated" = true) (k_negated : PySem.W.keepIn K (.ref f_negated) = true)
    (a_spelled : PySem.W.nsIn K mainGlobals "spelled" = some (some (.ref f_spelled))) (l_spelled : K.lookup f_spelled = some ⟨oc_spelled, od_spelled, .func (PySem.W.fnOf "spelled" "spelled" (defArgs s_spelled) (defBody s_spelled) (defScope s_spelled) .none kV_spelled dc_spelled pm_spelled an_spelled cd_spelled ct_spelled), sl_spelled⟩) (c_spelled : PySem.W.codeIn K cd_spelled "spelled" = true) (k_spelled : PySem.W.keepIn K (.ref f_spelled) = true)
    (a_once : PySem.W.nsIn K mainGlobals "once" = some (some (.ref f_once))) (l_once : K.lookup f_once = some ⟨oc_once, od_once, .func (PySem.W.fnOf "once" "once" (defArgs s_once) (defBody s_once) (defScope s_once) .none kV_once dc_once pm_once an_once cd_once ct_once), sl_once⟩) (c_once : PySem.W.codeIn K cd_once "once" = true) (k_once : PySem.W.keepIn K (.ref f_once) = true)
    (a__law_whole : PySem.W.nsIn K mainGlobals "_law_whole" = some (some (.ref f__law_whole))) (l__law_whole : K.lookup f__law_whole = some ⟨oc__law_whole, od__law_whole, .func (PySem.W.fnOf "_law_whole" "_law_whole" (defArgs s__law_whole) (defBody s__law_whole) (defScope s__law_whole) .none kV__law_whole dc__law_whole pm__law_whole an__law_whole cd__law_whole ct__law_whole), sl__law_whole⟩) (c__law_whole : PySem.W.codeIn K cd__law_whole "_law_whole" = true) (k__law_whole : PySem.W.keepIn K (.ref f__law_whole) = true)
    (a__law_same : PySem.W.nsIn K mainGlobals "_law_same" = some (some (.ref f__law_same))) (l__law_same : K.lookup f__law_same = some ⟨oc__law_same, od__law_same, .func (PySem.W.fnOf "_law_same" "_law_same" (defArgs s__law_same) (defBody s__law_same) (defScope s__law_same) .none kV__law_same dc__law_same pm__law_same an__law_same cd__law_same ct__law_same), sl__law_same⟩) (c__law_same : PySem.W.codeIn K cd__law_same "_law_same" = true) (k__law_same : PySem.W.keepIn K (.ref f__law_same) = true)
    (a__law_within : PySem.W.nsIn K mainGlobals "_law_within" = some (some (.ref f__law_within))) (l__law_within : K.lookup f__law_within = some ⟨oc__law_within, od__law_within, .func (PySem.W.fnOf "_law_within" "_law_within" (defArgs s__law_within) (defBody s__law_within) (defScope s__law_within) .none kV__law_within dc__law_within pm__law_within an__law_within cd__law_within ct__law_within), sl__law_within⟩) (c__law_within : PySem.W.codeIn K cd__law_within "_law_within" = true) (k__law_within : PySem.W.keepIn K (.ref f__law_within) = true)
    (a__law_depth : PySem.W.nsIn K mainGlobals "_law_depth" = some (some (.ref f__law_depth))) (l__law_depth : K.lookup f__law_depth = some ⟨oc__law_depth, od__law_depth, .func (PySem.W.fnOf "_law_depth" "_law_depth" (defArgs s__law_depth) (defBody s__law_depth) (defScope s__law_depth) .none kV__law_depth dc__law_depth pm__law_depth an__law_depth cd__law_depth ct__law_depth), sl__law_depth⟩) (c__law_depth : PySem.W.codeIn K cd__law_depth "_law_depth" = true) (k__law_depth : PySem.W.keepIn K (.ref f__law_depth) = true)
    (a__law_counted : PySem.W.nsIn K mainGlobals "_law_counted" = some (some (.ref f__law_counted))) (l__law_counted : K.lookup f__law_counted = some ⟨oc__law_counted, od__law_counted, .func (PySem.W.fnOf "_law_counted" "_law_counted" (defArgs s__law_counted) (defBody s__law_counted) (defScope s__law_counted) .none kV__law_counted dc__law_counted pm__law_counted an__law_counted cd__law_counted ct__law_counted), sl__law_counted⟩) (c__law_counted : PySem.W.codeIn K cd__law_counted "_law_counted" = true) (k__law_counted : PySem.W.keepIn K (.ref f__law_counted) = true)
    (a__law_list : PySem.W.nsIn K mainGlobals "_law_list" = some (some (.ref f__law_list))) (l__law_list : K.lookup f__law_list = some ⟨oc__law_list, od__law_list, .func (PySem.W.fnOf "_law_list" "_law_list" (defArgs s__law_list) (defBody s__law_list) (defScope s__law_list) .none kV__law_list dc__law_list pm__law_list an__law_list cd__law_list ct__law_list), sl__law_list⟩) (c__law_list : PySem.W.codeIn K cd__law_list "_law_list" = true) (k__law_list : PySem.W.keepIn K (.ref f__law_list) = true)
    (a__law_sorted_once : PySem.W.nsIn K mainGlobals "_law_sorted_once" = some (some (.ref f__law_sorted_once))) (l__law_sorted_once : K.lookup f__law_sorted_once = some ⟨oc__law_sorted_once, od__law_sorted_once, .func (PySem.W.fnOf "_law_sorted_once" "_law_sorted_once" (defArgs s__law_sorted_once) (defBody s__law_sorted_once) (defScope s__law_sorted_once) .none kV__law_sorted_once dc__law_sorted_once pm__law_sorted_once an__law_sorted_once cd__law_sorted_once ct__law_sorted_once), sl__law_sorted_once⟩) (c__law_sorted_once : PySem.W.codeIn K cd__law_sorted_once "_law_sorted_once" = true) (k__law_sorted_once : PySem.W.keepIn K (.ref f__law_sorted_once) = true)
    (a_law : PySem.W.nsIn K mainGlobals "law" = some (some (.ref f_law))) (l_law : K.lookup f_law = some ⟨oc_law, od_law, .func (PySem.W.fnOf "law" "law" (defArgs s_law) (defBody s_law) (defScope s_law) .none kV_law dc_law pm_law an_law cd_law ct_law), sl_law⟩) (c_law : PySem.W.codeIn K cd_law "law" = true) (k_law : PySem.W.keepIn K (.ref f_law) = true)
    (g_PAIRED : PySem.W.nsIn K mainGlobals "PAIRED" = some (some (.ref aPAIRED))) (o_PAIRED : K.lookup aPAIRED = some ⟨.type "tuple", od_PAIRED, .seq #[.str "both" tk_PAIRED_0, .str "one" tk_PAIRED_1, .str "then" tk_PAIRED_2] n_PAIRED, sl_PAIRED⟩)
    (g_LOW : PySem.W.nsIn K mainGlobals "LOW" = some (some (.ref aLOW))) (o_LOW : K.lookup aLOW = some ⟨.type "tuple", od_LOW, .seq #[.str "low" tk_LOW_0] n_LOW, sl_LOW⟩)
    (z_len : PySem.W.nsIn K mainGlobals "len" = some none)
    (z_range : PySem.W.nsIn K mainGlobals "range" = some none)
    (z_sorted : PySem.W.nsIn K mainGlobals "sorted" = some none)
    (z_tuple : PySem.W.nsIn K mainGlobals "tuple" = some none)
    (z_isinstance : PySem.W.nsIn K mainGlobals "isinstance" = some none)
    (z_str : PySem.W.nsIn K mainGlobals "str" = some none)
    (z_int : PySem.W.nsIn K mainGlobals "int" = some none)
    (z_bool : PySem.W.nsIn K mainGlobals "bool" = some none)
    (z_max : PySem.W.nsIn K mainGlobals "max" = some none)
    (z_list : PySem.W.nsIn K mainGlobals "list" = some none)
    (z_set : PySem.W.nsIn K mainGlobals "set" = some none)
    (z_min : PySem.W.nsIn K mainGlobals "min" = some none)
    (z_zip : PySem.W.nsIn K mainGlobals "zip" = some none) :
    ∃ fd : FuncData, (∀ (s : Shared) (v : Value), BindsTo s fd ⟨[v], []⟩ [("_law_script", v)]) ∧ ∀ base : Heap, K.In base → base.Ns mainGlobals mg → FnOk l.prog w K mg base CX0 63 fa fd ["_law_script"] (sp_law K) := by
  have e := hfa.symm.trans (PySem.W.mg_of X G a_law)
  cases e
  have m__law_mix := PySem.W.mg_of X G a__law_mix
  have b__law_mix := (fun_mk (st := s__law_mix) l__law_mix c__law_mix k__law_mix).binds (ps := ["_law_cell_here", "_law_k"]) fun _ _ _ _ _ _ us hl => match us, hl with | [_, _], _ => rfl
  have F__law_mix := fun_mk (st := s__law_mix) l__law_mix c__law_mix k__law_mix
  have m__law_cell := PySem.W.mg_of X G a__law_cell
  have b__law_cell := (fun_mk (st := s__law_cell) l__law_cell c__law_cell k__law_cell).binds (ps := ["_law_script", "_law_k"]) fun _ _ _ _ _ _ us hl => match us, hl with | [_, _], _ => rfl
  have F__law_cell := fun_mk (st := s__law_cell) l__law_cell c__law_cell k__law_cell
  have m__law_words := PySem.W.mg_of X G a__law_words
  have b__law_words := (fun_mk (st := s__law_words) l__law_words c__law_words k__law_words).binds (ps := ["_law_cell_here", "_law_many"]) fun _ _ _ _ _ _ us hl => match us, hl with | [_, _], _ => rfl
  have F__law_words := fun_mk (st := s__law_words) l__law_words c__law_words k__law_words
  have m__law_leaf := PySem.W.mg_of X G a__law_leaf
  have b__law_leaf := (fun_mk (st := s__law_leaf) l__law_leaf c__law_leaf k__law_leaf).binds (ps := ["_law_cell_here", "_law_words_here"]) fun _ _ _ _ _ _ us hl => match us, hl with | [_, _], _ => rfl
  have F__law_leaf := fun_mk (st := s__law_leaf) l__law_leaf c__law_leaf k__law_leaf
  have m__law_statement := PySem.W.mg_of X G a__law_statement
  have b__law_statement := (fun_mk (st := s__law_statement) l__law_statement c__law_statement k__law_statement).binds (ps := ["_law_cell_here", "_law_size", "_law_words_here"]) fun _ _ _ _ _ _ us hl => match us, hl with | [_, _, _], _ => rfl
  have F__law_statement := fun_mk (st := s__law_statement) l__law_statement c__law_statement k__law_statement
  have m__law_comb := PySem.W.mg_of X G a__law_comb
  have b__law_comb := (fun_mk (st := s__law_comb) l__law_comb c__law_comb k__law_comb).binds (ps := ["_law_cell_here", "_law_many", "_law_words_here"]) fun _ _ _ _ _ _ us hl => match us, hl with | [_, _, _], _ => rfl
  have F__law_comb := fun_mk (st := s__law_comb) l__law_comb c__law_comb k__law_comb
  have m__law_drawn := PySem.W.mg_of X G a__law_drawn
  have b__law_drawn := (fun_mk (st := s__law_drawn) l__law_drawn c__law_drawn k__law_drawn).binds (ps := ["_law_cell_here", "_law_most", "_law_words_here"]) fun _ _ _ _ _ _ us hl => match us, hl with | [_, _, _], _ => rfl
  have F__law_drawn := fun_mk (st := s__law_drawn) l__law_drawn c__law_drawn k__law_drawn
  have m_within := PySem.W.mg_of X G a_within
  have b_within := (fun_mk (st := s_within) l_within c_within k_within).binds (ps := ["statement"]) fun _ _ _ _ _ _ us hl => match us, hl with | [_], _ => rfl
  have F_within := fun_mk (st := s_within) l_within c_within k_within
  have m_pieces := PySem.W.mg_of X G a_pieces
  have b_pieces := (fun_mk (st := s_pieces) l_pieces c_pieces k_pieces).binds (ps := ["statement"]) fun _ _ _ _ _ _ us hl => match us, hl with | [_], _ => rfl
  have F_pieces := fun_mk (st := s_pieces) l_pieces c_pieces k_pieces
  have m_parts := PySem.W.mg_of X G a_parts
  have b_parts := (fun_mk (st := s_parts) l_parts c_parts k_parts).binds (ps := ["statement"]) fun _ _ _ _ _ _ us hl => match us, hl with | [_], _ => rfl
  have F_parts := fun_mk (st := s_parts) l_parts c_parts k_parts
  have m_deep := PySem.W.mg_of X G a_deep
  have b_deep := (fun_mk (st := s_deep) l_deep c_deep k_deep).binds (ps := ["statement"]) fun _ _ _ _ _ _ us hl => match us, hl with | [_], _ => rfl
  have F_deep := fun_mk (st := s_deep) l_deep c_deep k_deep
  have m_letters := PySem.W.mg_of X G a_letters
  have b_letters := (fun_mk (st := s_letters) l_letters c_letters k_letters).binds (ps := ["statement"]) fun _ _ _ _ _ _ us hl => match us, hl with | [_], _ => rfl
  have F_letters := fun_mk (st := s_letters) l_letters c_letters k_letters
  have m_negated := PySem.W.mg_of X G a_negated
  have b_negated := (fun_mk (st := s_negated) l_negated c_negated k_negated).binds (ps := ["statement"]) fun _ _ _ _ _ _ us hl => match us, hl with | [_], _ => rfl
  have F_negated := fun_mk (st := s_negated) l_negated c_negated k_negated
  have m_spelled := PySem.W.mg_of X G a_spelled
  have b_spelled := (fun_mk (st := s_spelled) l_spelled c_spelled k_spelled).binds (ps := ["statement"]) fun _ _ _ _ _ _ us hl => match us, hl with | [_], _ => rfl
  have F_spelled := fun_mk (st := s_spelled) l_spelled c_spelled k_spelled
  have m_once := PySem.W.mg_of X G a_once
  have b_once := (fun_mk (st := s_once) l_once c_once k_once).binds (ps := ["some"]) fun _ _ _ _ _ _ us hl => match us, hl with | [_], _ => rfl
  have F_once := fun_mk (st := s_once) l_once c_once k_once
  have m__law_whole := PySem.W.mg_of X G a__law_whole
  have b__law_whole := (fun_mk (st := s__law_whole) l__law_whole c__law_whole k__law_whole).binds (ps := ["_law_found"]) fun _ _ _ _ _ _ us hl => match us, hl with | [_], _ => rfl
  have F__law_whole := fun_mk (st := s__law_whole) l__law_whole c__law_whole k__law_whole
  have m__law_same := PySem.W.mg_of X G a__law_same
  have b__law_same := (fun_mk (st := s__law_same) l__law_same c__law_same k__law_same).binds (ps := ["_law_found", "_law_due"]) fun _ _ _ _ _ _ us hl => match us, hl with | [_, _], _ => rfl
  have F__law_same := fun_mk (st := s__law_same) l__law_same c__law_same k__law_same
  have m__law_within := PySem.W.mg_of X G a__law_within
  have b__law_within := (fun_mk (st := s__law_within) l__law_within c__law_within k__law_within).binds (ps := ["_law_statement_here"]) fun _ _ _ _ _ _ us hl => match us, hl with | [_], _ => rfl
  have F__law_within := fun_mk (st := s__law_within) l__law_within c__law_within k__law_within
  have m__law_depth := PySem.W.mg_of X G a__law_depth
  have b__law_depth := (fun_mk (st := s__law_depth) l__law_depth c__law_depth k__law_depth).binds (ps := ["_law_statement_here"]) fun _ _ _ _ _ _ us hl => match us, hl with | [_], _ => rfl
  have F__law_depth := fun_mk (st := s__law_depth) l__law_depth c__law_depth k__law_depth
  have m__law_counted := PySem.W.mg_of X G a__law_counted
  have b__law_counted := (fun_mk (st := s__law_counted) l__law_counted c__law_counted k__law_counted).binds (ps := ["_law_statement_here"]) fun _ _ _ _ _ _ us hl => match us, hl with | [_], _ => rfl
  have F__law_counted := fun_mk (st := s__law_counted) l__law_counted c__law_counted k__law_counted
  have m__law_list := PySem.W.mg_of X G a__law_list
  have b__law_list := (fun_mk (st := s__law_list) l__law_list c__law_list k__law_list).binds (ps := ["_law_script", "_law_some"]) fun _ _ _ _ _ _ us hl => match us, hl with | [_, _], _ => rfl
  have F__law_list := fun_mk (st := s__law_list) l__law_list c__law_list k__law_list
  have m__law_sorted_once := PySem.W.mg_of X G a__law_sorted_once
  have b__law_sorted_once := (fun_mk (st := s__law_sorted_once) l__law_sorted_once c__law_sorted_once k__law_sorted_once).binds (ps := ["_law_found", "_law_row"]) fun _ _ _ _ _ _ us hl => match us, hl with | [_, _], _ => rfl
  have F__law_sorted_once := fun_mk (st := s__law_sorted_once) l__law_sorted_once c__law_sorted_once k__law_sorted_once
  have F_law := fun_mk (st := s_law) l_law c_law k_law
  have m_PAIRED := PySem.W.mg_of X G g_PAIRED
  have t_PAIRED : ∀ H, SqT K H aPAIRED [.str "both", .str "one", .str "then"] := fun H => .inr ⟨_, _, _, o_PAIRED, rfl, rfl, (show 3 ≤ sizeLine by decide), .cons ⟨_, rfl⟩ (.cons ⟨_, rfl⟩ (.cons ⟨_, rfl⟩ (.nil)))⟩
  have m_LOW := PySem.W.mg_of X G g_LOW
  have t_LOW : ∀ H, SqT K H aLOW [.str "low"] := fun H => .inr ⟨_, _, _, o_LOW, rfl, rfl, (show 1 ≤ sizeLine by decide), .cons ⟨_, rfl⟩ (.nil)⟩
  have m_len := PySem.W.mg_none_of X G z_len
  have m_range := PySem.W.mg_none_of X G z_range
  have m_sorted := PySem.W.mg_none_of X G z_sorted
  have m_tuple := PySem.W.mg_none_of X G z_tuple
  have m_isinstance := PySem.W.mg_none_of X G z_isinstance
  have m_str := PySem.W.mg_none_of X G z_str
  have m_int := PySem.W.mg_none_of X G z_int
  have m_bool := PySem.W.mg_none_of X G z_bool
  have m_max := PySem.W.mg_none_of X G z_max
  have m_list := PySem.W.mg_none_of X G z_list
  have m_set := PySem.W.mg_none_of X G z_set
  have m_min := PySem.W.mg_none_of X G z_min
  have m_zip := PySem.W.mg_none_of X G z_zip
  refine ⟨PySem.W.fnOf "law" "law" (defArgs s_law) (defBody s_law) (defScope s_law) .none kV_law dc_law pm_law an_law cd_law ct_law, fun s v => .of_eq rfl, fun base _ _ => ?_⟩
  have G__law_mix := ok__law_mix (P := l.prog) (w := w) (K := K) (mg := mg) (base := base) (k := 0) F__law_mix
  have G__law_cell := ok__law_cell (P := l.prog) (w := w) (K := K) (mg := mg) (base := base) (k := 1) F__law_cell (G__law_mix.mono (by decide)) m__law_mix k__law_mix b__law_mix m_len
  have G__law_words := ok__law_words (P := l.prog) (w := w) (K := K) (mg := mg) (base := base) (k := 0) F__law_words m_range
  have G__law_leaf := ok__law_leaf (P := l.prog) (w := w) (K := K) (mg := mg) (base := base) (k := 0) F__law_leaf m_len
  have G__law_statement := all__law_statement (P := l.prog) (w := w) (K := K) (mg := mg) (base := base) F__law_statement m__law_statement b__law_statement (fun k => ok__law_mix F__law_mix) m__law_mix k__law_mix b__law_mix (fun k => ok__law_leaf F__law_leaf m_len) m__law_leaf k__law_leaf b__law_leaf 47
  have G__law_comb := ok__law_comb (P := l.prog) (w := w) (K := K) (mg := mg) (base := base) (k := 1) F__law_comb (G__law_mix.mono (by decide)) m__law_mix k__law_mix b__law_mix (G__law_leaf.mono (by decide)) m__law_leaf k__law_leaf b__law_leaf m_range
  have G__law_drawn := ok__law_drawn (P := l.prog) (w := w) (K := K) (mg := mg) (base := base) (k := 48) F__law_drawn (G__law_statement.mono (by decide)) m__law_statement k__law_statement b__law_statement (G__law_mix.mono (by decide)) m__law_mix k__law_mix b__law_mix (G__law_comb.mono (by decide)) m__law_comb k__law_comb b__law_comb
  have G_within := ok_within (P := l.prog) (w := w) (K := K) (mg := mg) (base := base) (k := 0) F_within m_PAIRED t_PAIRED
  have G_pieces := ok_pieces (P := l.prog) (w := w) (K := K) (mg := mg) (base := base) (k := 1) F_pieces (G_within.mono (by decide)) m_within k_within b_within
  have G_parts := ok_parts (P := l.prog) (w := w) (K := K) (mg := mg) (base := base) (k := 2) F_parts (G_pieces.mono (by decide)) m_pieces k_pieces b_pieces m_len
  have G_deep := ok_deep (P := l.prog) (w := w) (K := K) (mg := mg) (base := base) (k := 1) F_deep (G_within.mono (by decide)) m_within k_within b_within
  have G_letters := ok_letters (P := l.prog) (w := w) (K := K) (mg := mg) (base := base) (k := 2) F_letters (G_pieces.mono (by decide)) m_pieces k_pieces b_pieces m_sorted
  have G_negated := ok_negated (P := l.prog) (w := w) (K := K) (mg := mg) (base := base) (k := 0) F_negated m_LOW t_LOW
  have G_spelled := ok_spelled (P := l.prog) (w := w) (K := K) (mg := mg) (base := base) (k := 2) F_spelled (G_pieces.mono (by decide)) m_pieces k_pieces b_pieces m_tuple m_isinstance m_str
  have G_once := ok_once (P := l.prog) (w := w) (K := K) (mg := mg) (base := base) (k := 3) F_once (G_spelled.mono (by decide)) m_spelled k_spelled b_spelled m_sorted
  have G__law_whole := ok__law_whole (P := l.prog) (w := w) (K := K) (mg := mg) (base := base) (k := 0) F__law_whole m_isinstance m_int m_bool
  have G__law_same := all__law_same (P := l.prog) (w := w) (K := K) (mg := mg) (base := base) F__law_same m__law_same b__law_same m_isinstance m_str m_range m_len m_tuple 60
  have G__law_within := ok__law_within (P := l.prog) (w := w) (K := K) (mg := mg) (base := base) (k := 0) F__law_within m_len
  have G__law_depth := ok__law_depth (P := l.prog) (w := w) (K := K) (mg := mg) (base := base) (k := 0) F__law_depth m_max m_len
  have G__law_counted := ok__law_counted (P := l.prog) (w := w) (K := K) (mg := mg) (base := base) (k := 61) F__law_counted (G__law_within.mono (by decide)) m__law_within k__law_within b__law_within (G_parts.mono (by decide)) m_parts k_parts b_parts (G_deep.mono (by decide)) m_deep k_deep b_deep (G_letters.mono (by decide)) m_letters k_letters b_letters (G__law_same.mono (by decide)) m__law_same k__law_same b__law_same (G_negated.mono (by decide)) m_negated k_negated b_negated (G__law_whole.mono (by decide)) m__law_whole k__law_whole b__law_whole (G__law_depth.mono (by decide)) m__law_depth k__law_depth b__law_depth m_sorted m_len m_isinstance m_list m_set m_str
  have G__law_list := ok__law_list (P := l.prog) (w := w) (K := K) (mg := mg) (base := base) (k := 2) F__law_list (G__law_mix.mono (by decide)) m__law_mix k__law_mix b__law_mix (G__law_within.mono (by decide)) m__law_within k__law_within b__law_within (G__law_cell.mono (by decide)) m__law_cell k__law_cell b__law_cell m_range m_len m_min m_max
  have G__law_sorted_once := ok__law_sorted_once (P := l.prog) (w := w) (K := K) (mg := mg) (base := base) (k := 61) F__law_sorted_once (G__law_same.mono (by decide)) m__law_same k__law_same b__law_same m_zip m_isinstance m_list
  have G_law := ok_law (P := l.prog) (w := w) (K := K) (mg := mg) (base := base) (k := 62) F_law (G__law_words.mono (by decide)) m__law_words k__law_words b__law_words (G__law_list.mono (by decide)) m__law_list k__law_list b__law_list (G_once.mono (by decide)) m_once k_once b_once (G__law_cell.mono (by decide)) m__law_cell k__law_cell b__law_cell (G__law_drawn.mono (by decide)) m__law_drawn k__law_drawn b__law_drawn (G__law_counted.mono (by decide)) m__law_counted k__law_counted b__law_counted (G__law_sorted_once.mono (by decide)) m__law_sorted_once k__law_sorted_once b__law_sorted_once (G__law_mix.mono (by decide)) m__law_mix k__law_mix b__law_mix m_range m_list m_max m_min m_len
  exact G_law
theorem walk {l : PySem.W.OpenLaw} {q : Program} {loose : List Str} {XP : (Str → Option Value) → Heap → Prop} {YP : World → Heap → Prop} {d : DefRec} {K : Params → PySem.W.Frag} (hn : l.most = some 63) (hdf : d.params.defaults = [])
    (hY : ∀ (w : World) (h : Heap), YP w h → (K w.params).In h)
    (F : ∀ (w : World) (mg : Str → Option Value) (fa : Addr) (h : Heap), (K w.params).In h → h.Ns mainGlobals mg → mg d.name = some (.ref fa) →
      ∃ fd : FuncData, (∀ (s : Shared) (u : Value), BindsTo s fd ⟨[u], []⟩ [("_law_script", u)]) ∧ ∀ base : Heap, (K w.params).In base → base.Ns mainGlobals mg → FnOk l.prog w (K w.params) mg base CX0 63 fa fd ["_law_script"] (sp_law (K w.params))) :
    PySem.W.WalkO q loose XP YP l.row.toRowW d [] (fun f vs => PySem.call f vs) :=
  L2.walk_of (n := 63) (k := 63) (x := "_law_script") (CX := fun _ => CX0) (sp := fun w => sp_law (K w.params)) hn (by decide) hdf ⟨rfl, by decide, by decide⟩ hY F (fun _ _ a ns hl _ hS => ⟨a, ns, rfl, hS, hl, fun _ => rfl⟩) fun _ _ _ _ _ z => z
end KLaw
open PySem PySem.W PyProof.Rows
set_option maxRecDepth 100000 in
set_option maxHeartbeats 0 in
theorem PySem.Challenge.cw_ken_k01_parts_and_letters_holds : PySem.Challenge.rw_ken_k01_parts_and_letters.Holds := by
  w_on; o_law; k_head; (case hw => w_witness2)
  k_fill
  refine KLaw.walk (l := PySem.Challenge.rw_ken_k01_parts_and_letters) rfl rfl (fun w h Y => PySem.W.kIn_of Y) ?F
  case F =>
    intro w mg fa h KX G hmg
    refine' KLaw.all_mk KX G hmg ?a__law_mix ?l__law_mix ?c__law_mix ?k__law_mix ?a__law_cell ?l__law_cell ?c__law_cell ?k__law_cell ?a__law_words ?l__law_words ?c__law_words ?k__law_words ?a__law_leaf ?l__law_leaf ?c__law_leaf ?k__law_leaf ?a__law_statement ?l__law_statement ?c__law_statement ?k__law_statement ?a__law_comb ?l__law_comb ?c__law_comb ?k__law_comb ?a__law_drawn ?l__law_drawn ?c__law_drawn ?k__law_drawn ?a_within ?l_within ?c_within ?k_within ?a_pieces ?l_pieces ?c_pieces ?k_pieces ?a_parts ?l_parts ?c_parts ?k_parts ?a_deep ?l_deep ?c_deep ?k_deep ?a_letters ?l_letters ?c_letters ?k_letters ?a_negated ?l_negated ?c_negated ?k_negated ?a_spelled ?l_spelled ?c_spelled ?k_spelled ?a_once ?l_once ?c_once ?k_once ?a__law_whole ?l__law_whole ?c__law_whole ?k__law_whole ?a__law_same ?l__law_same ?c__law_same ?k__law_same ?a__law_within ?l__law_within ?c__law_within ?k__law_within ?a__law_depth ?l__law_depth ?c__law_depth ?k__law_depth ?a__law_counted ?l__law_counted ?c__law_counted ?k__law_counted ?a__law_list ?l__law_list ?c__law_list ?k__law_list ?a__law_sorted_once ?l__law_sorted_once ?c__law_sorted_once ?k__law_sorted_once ?a_law ?l_law ?c_law ?k_law ?g_PAIRED ?o_PAIRED ?g_LOW ?o_LOW ?z_len ?z_range ?z_sorted ?z_tuple ?z_isinstance ?z_str ?z_int ?z_bool ?z_max ?z_list ?z_set ?z_min ?z_zip
    (case a__law_mix => k_is)
    (case l__law_mix => k_is)
    (case c__law_mix => k_is)
    (case k__law_mix => k_is)
    (case a__law_cell => k_is)
    (case l__law_cell => k_is)
    (case c__law_cell => k_is)
    (case k__law_cell => k_is)
    (case a__law_words => k_is)
    (case l__law_words => k_is)
    (case c__law_words => k_is)
    (case k__law_words => k_is)
    (case a__law_leaf => k_is)
    (case l__law_leaf => k_is)
    (case c__law_leaf => k_is)
    (case k__law_leaf => k_is)
    (case a__law_statement => k_is)
    (case l__law_statement => k_is)
    (case c__law_statement => k_is)
    (case k__law_statement => k_is)
    (case a__law_comb => k_is)
    (case l__law_comb => k_is)
    (case c__law_comb => k_is)
    (case k__law_comb => k_is)
    (case a__law_drawn => k_is)
    (case l__law_drawn => k_is)
    (case c__law_drawn => k_is)
    (case k__law_drawn => k_is)
    (case a_within => k_is)
    (case l_within => k_is)
    (case c_within => k_is)
    (case k_within => k_is)
    (case a_pieces => k_is)
    (case l_pieces => k_is)
    (case c_pieces => k_is)
    (case k_pieces => k_is)
    (case a_parts => k_is)
    (case l_parts => k_is)
    (case c_parts => k_is)
    (case k_parts => k_is)
    (case a_deep => k_is)
    (case l_deep => k_is)
    (case c_deep => k_is)
    (case k_deep => k_is)
    (case a_letters => k_is)
    (case l_letters => k_is)
    (case c_letters => k_is)
    (case k_letters => k_is)
    (case a_negated => k_is)
    (case l_negated => k_is)
    (case c_negated => k_is)
    (case k_negated => k_is)
    (case a_spelled => k_is)
    (case l_spelled => k_is)
    (case c_spelled => k_is)
    (case k_spelled => k_is)
    (case a_once => k_is)
    (case l_once => k_is)
    (case c_once => k_is)
    (case k_once => k_is)
    (case a__law_whole => k_is)
    (case l__law_whole => k_is)
    (case c__law_whole => k_is)
    (case k__law_whole => k_is)
    (case a__law_same => k_is)
    (case l__law_same => k_is)
    (case c__law_same => k_is)
    (case k__law_same => k_is)
    (case a__law_within => k_is)
    (case l__law_within => k_is)
    (case c__law_within => k_is)
    (case k__law_within => k_is)
    (case a__law_depth => k_is)
    (case l__law_depth => k_is)
    (case c__law_depth => k_is)
    (case k__law_depth => k_is)
    (case a__law_counted => k_is)
    (case l__law_counted => k_is)
    (case c__law_counted => k_is)
    (case k__law_counted => k_is)
    (case a__law_list => k_is)
    (case l__law_list => k_is)
    (case c__law_list => k_is)
    (case k__law_list => k_is)
    (case a__law_sorted_once => k_is)
    (case l__law_sorted_once => k_is)
    (case c__law_sorted_once => k_is)
    (case k__law_sorted_once => k_is)
    (case a_law => k_is)
    (case l_law => k_is)
    (case c_law => k_is)
    (case k_law => k_is)
    (case g_PAIRED => k_is)
    (case o_PAIRED => k_is)
    (case g_LOW => k_is)
    (case o_LOW => k_is)
    (case z_len => k_is)
    (case z_range => k_is)
    (case z_sorted => k_is)
    (case z_tuple => k_is)
    (case z_isinstance => k_is)
    (case z_str => k_is)
    (case z_int => k_is)
    (case z_bool => k_is)
    (case z_max => k_is)
    (case z_list => k_is)
    (case z_set => k_is)
    (case z_min => k_is)
    (case z_zip => k_is)
